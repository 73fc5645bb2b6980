import PyProof.Rows.All
import Wide.All
import OpenK.AllK
import Wide.FinOn
import Lean
import PyProof.EqAt
import PyProof.EqKinds
import PyProof.TupleCall
import PyProof.ListStr
import PyProof.Rows.CountFlat
import PyProof.ZipIter
import PyProof.ListMulRoad
import PyProof.FactsAll.tuple
import PyProof.Rows.StrJoin2
import KE.KRevIter
import PyProof.ConsumeWalk
import PyProof.RaisesMany
import PyProof.PassesOwn
import PyProof.ExcInit
import PyProof.ExcClass2
import PyProof.ExcClass3
import PyProof.InstStoreFacts
import PyProof.InstLoad
import PyProof.ExcArgsOwn
import PyProof.ExcAttrAll.ValueError
import PyProof.ExcBaseAll.ValueError
import OpenK.Peek
import PyProof.NsDelKeeps
import PyProof.RulesAs
import KE.KIsAll
import KE.KDictSum
import PyProof.SetNew
import PyProof.SetRoads
import PyProof.SetKind
import PyProof.SetScanFacts
import PyProof.FactsAll.set
import PyProof.StrCalls2
import KE.KIntText
import PyProof.EnumMake
import PyProof.StrLawsTight
import PyProof.StrLawsIn
import PyProof.Rows.StrSplitJoin
import KE.IntTextLaws
import PyProof.Rows.StrPins
import KE.KxText
import PyProof.Rows.CatFin
import PySem.Challenge.RW_notekeep_k22_read
set_option Elab.async false
set_option linter.all false
set_option maxRecDepth 100000
namespace L2
open PySem PySem.Spec PyProof.Rows
abbrev Key:=Sum Int Str
def keyIs:Key->Value->Bool
 | .inl k,v=>Value.isInt k v
 | .inr x,v=>Value.isStrOf x v
def keyH (w:World):Key->Int
 | .inl k=>hashInt k
 | .inr x=>hashStr w x
theorem keyIs_shape:∀ {k:Key} {v:Value},keyIs k v=true->(∃ i t,k=Sum.inl i/\v=Value.int i t)\/(∃ x t,k=Sum.inr x/\v=Value.str x t)
 | .inl i,v,h=>by
  obtain ⟨t,e⟩:=Value.isInt_shape (k:=i) (v:=v) h
  exact .inl ⟨i,t,rfl,e⟩
 | .inr x,v,h=>by
  obtain ⟨t,e⟩:=Value.isStrOf_shape (x:=x) (v:=v) h
  exact .inr ⟨x,t,rfl,e⟩
theorem keyIs_int (i:Int) (t:Tok):keyIs (.inl i) (.int i t)=true:=by simp [keyIs,Value.isInt]
theorem keyIs_str (x:Str) (t:Tok):keyIs (.inr x) (.str x t)=true:=by simp [keyIs,Value.isStrOf]
theorem key_ll (a b:Int):decide ((Sum.inl a:Key)=Sum.inl b)=(a == b):=by
 by_cases e:a=b
 ·subst e;simp
 ·have h:¬ (Sum.inl a:Key)=Sum.inl b:=fun q=>e (Sum.inl.inj q)
  rw [decide_eq_false h]
  exact (beq_eq_false_iff_ne.mpr e).symm
theorem key_rr (a b:Str):decide ((Sum.inr a:Key)=Sum.inr b)=decide (a=b):=by
 by_cases e:a=b
 ·subst e;simp
 ·have h:¬ (Sum.inr a:Key)=Sum.inr b:=fun q=>e (Sum.inr.inj q)
  rw [decide_eq_false h,decide_eq_false e]
theorem key_lr (a:Int) (b:Str):decide ((Sum.inl a:Key)=Sum.inr b)=false:=decide_eq_false (fun q=>nomatch q)
theorem key_rl (a:Str) (b:Int):decide ((Sum.inr a:Key)=Sum.inl b)=false:=decide_eq_false (fun q=>nomatch q)
def mixKind (prog:Program) (w:World):PySem.KeyKind prog w Key where
 is:=keyIs
 hash:=keyH w
 inj:=fun v a b ha hb=>by
  rcases keyIs_shape ha with ⟨i,t,rfl,rfl⟩ | ⟨x,t,rfl,rfl⟩
  ·rcases keyIs_shape hb with ⟨j,u,rfl,e⟩ | ⟨y,u,rfl,e⟩
   ·injection e with e1 _;rw [e1]
   ·exact nomatch e
  ·rcases keyIs_shape hb with ⟨j,u,rfl,e⟩ | ⟨y,u,rfl,e⟩
   ·exact nomatch e
   ·injection e with e1 _;rw [e1]
 byValue:=fun k v h=>by
  rcases keyIs_shape h with ⟨i,t,rfl,rfl⟩ | ⟨x,t,rfl,rfl⟩<;>rfl
 pyHash:=fun hv h=>by
  rcases keyIs_shape hv with ⟨i,t,rfl,rfl⟩ | ⟨x,t,rfl,rfl⟩
  ·exact wpAny_pyHash_int h
  ·exact wpAny_pyHash_str h
 eqBool:=fun hu hv h=>by
  rcases keyIs_shape hu with ⟨i,t,rfl,rfl⟩ | ⟨x,t,rfl,rfl⟩
  ·rcases keyIs_shape hv with ⟨j,u,rfl,rfl⟩ | ⟨y,u,rfl,rfl⟩
   ·rw [key_ll] at h;exact wpAny_eqBool_int h
   ·rw [key_lr] at h;exact SeqAt.EqAt.int_str i t y u _ _ _ _ h
  ·rcases keyIs_shape hv with ⟨j,u,rfl,rfl⟩ | ⟨y,u,rfl,rfl⟩
   ·rw [key_rl] at h;exact SeqAt.EqAt.str_int x t j u _ _ _ _ h
   ·rw [key_rr] at h;exact wpAny_eqBool_str h
 «strs»:=fun k x t v h=>by
  rcases keyIs_shape h with ⟨i,u,rfl,e⟩ | ⟨y,u,rfl,e⟩
  ·exact nomatch e
  ·injection e with e1 _
   subst e1
   cases v<;>rfl
theorem mixKind_int (prog:Program) (w:World) (i:Int) (t:Tok):(mixKind prog w).is (.inl i) (.int i t)=true:=keyIs_int i t
theorem mixKind_str (prog:Program) (w:World) (x:Str) (t:Tok):(mixKind prog w).is (.inr x) (.str x t)=true:=keyIs_str x t
end L2
namespace L2
open PySem PySem.Spec PyProof.Rows
inductive V where
 | non | bl (b:Bool) | int (i:Int) | str (x:Str) | byt (b:Array UInt8) | flt (b:UInt64) | ref (a:Addr) | ty (n:String)
 deriving DecidableEq
def RelV:V->Value->Prop
 | .non,u=>u=Value.none
 | .bl b,u=>u=Value.bool b
 | .int i,u=>∃ t,u=Value.int i t
 | .str x,u=>∃ t,u=Value.str x t
 | .byt b,u=>∃ t,u=Value.bytes b t
 | .flt b,u=>∃ t,u=Value.float b t
 | .ref a,u=>u=Value.ref a
 | .ty n,u=>u=Value.type n
abbrev Vals:List V->List Value->Prop:=Paired RelV
theorem Vals.length {xs:List V} {us:List Value} (r:Vals xs us):xs.length=us.length:=Paired.length r
theorem Vals.get:∀ {xs:List V} {us:List Value} {i:Nat} {x:V},Vals xs us->xs[i]?=some x->∃ u,us[i]?=some u/\RelV x u
 | _,_,_,_,.nil,e=>by simp at e
 | _,_,0,_,.cons r _,e=>by simp at e;subst e;exact ⟨_,rfl,r⟩
 | _,_,i+1,x,.cons _ t,e=>by
  obtain ⟨u,h1,h2⟩:=Vals.get (i:=i) (x:=x) t (by simpa using e)
  exact ⟨u,by simpa using h1,h2⟩
theorem Vals.set {x:V} {u:Value} (r:RelV x u):∀ {xs:List V} {us:List Value} (i:Nat),Vals xs us->Vals (xs.set i x) (us.set i u)
 | _,_,_,.nil=>.nil
 | _,_,0,.cons _ t=>.cons r t
 | _,_,i+1,.cons q t=>.cons q (Vals.set r i t)
theorem Vals.append:∀ {xs ys:List V} {us ws:List Value},Vals xs us->Vals ys ws->Vals (xs++ys) (us++ws)
 | _,_,_,_,.nil,s=>s
 | _,_,_,_,.cons r t,s=>.cons r (Vals.append t s)
theorem Vals.take:∀ {xs:List V} {us:List Value} (n:Nat),Vals xs us->Vals (xs.take n) (us.take n)
 | _,_,0,_=>.nil
 | _,_,_+1,.nil=>.nil
 | _,_,n+1,.cons r t=>.cons r (Vals.take n t)
theorem Vals.drop:∀ {xs:List V} {us:List Value} (n:Nat),Vals xs us->Vals (xs.drop n) (us.drop n)
 | _,_,0,r=>r
 | _,_,_+1,.nil=>.nil
 | _,_,n+1,.cons _ t=>Vals.drop n t
def RelO:Option V->Option Value->Prop
 | some v,some u=>RelV v u
 | none,none=>True
 | _,_=>False
def KV {κ:Type}:List (κ × V)->List (κ × Value)->Prop:=Paired fun (p:κ × V) (q:κ × Value)=>p.1=q.1/\RelV p.2 q.2
def kV:Key->V
 | .inl i=>.int i
 | .inr x=>.str x
inductive HO where
 | lst (xs:List V)
 | tup (xs:List V)
 | dK (kvs:List (Key × V)) | dT (kvs:List (List Key × V))
 | set (S:Int->Bool) (n:Nat)
 | ins (C dx:Addr) (fs:List (Str × V))
 | own (x:Addr)
 | xd (fs:List (Str × V))
 | met (f x:Addr)
 | rng (lo hi:Int)
 | frz (o:Obj) (u:HO)
 | tbl (ps:Array Value)
 | ext (φ:Heap->Prop)
abbrev Hp:=Addr->Option HO
def upd (H:Hp) (a:Addr) (o:HO):Hp:=fun b=>if b=a then some o else H b
theorem upd_same {H:Hp} {a:Addr} {o:HO}:upd H a o a=some o:=by unfold upd;rw [if_pos rfl]
theorem upd_ne {H:Hp} {a b:Addr} {o:HO} (h:b≠a):upd H a o b=H b:=by unfold upd;rw [if_neg h]
theorem ne_of {H:Hp} {a b:Addr} {o u:HO} (h:H a=some o) (h':H b=some u) (d:o≠u):a≠b:=by
 intro e;subst e;rw [h] at h';exact d (Option.some.inj h')
theorem ne_of_none {H:Hp} {a b:Addr} {o:HO} (h:H a=some o) (h':H b=none):a≠b:=by
 intro e;subst e;rw [h] at h';cases h'
section
variable (P:Program) (w:World)
def ObjOk (H:Hp) (h:Heap) (a:Addr):HO->Prop
 | .lst xs=>xs.length<=sizeLine/\∃ (its:List Value) (n:Nat),Vals xs its/\h.get? a=some { cls:=.type "list",data:=.seq its.toArray n }
 | .tup xs=>(xs.length<=sizeLine/\∃ o,h.get? a=some o/\o.dict=none)/\∃ its:List Value,Vals xs its/\IsTup h a its.toArray
 | .dK kvs=>kvs.length<=sizeLine/\(a == sysModules)=false/\∃ vs,KV kvs vs/\h.DictOf (mixKind P w) a vs
 | .dT kvs=>kvs.length<=sizeLine/\(a == sysModules)=false/\∃ xs:List (List Key × Addr × Value),
   Paired (fun (p:List Key × V) (q:List Key × Addr × Value)=>p.1=q.1/\H q.2.1=some (.tup (p.1.map kV))/\RelV p.2 q.2.2) kvs xs /\
   ∃ o es ep,h.get? a=some o/\o.ExactDict/\o.data=.dict es ep/\es.toList=xs.map (entryOfKey (tupleKind (mixKind P w)))/\(xs.map (·.1)).Nodup
 | .set S n=>h.SetOf (intKind P w) a S n
 | .ins C dx fs=>H dx=some (.own a)/\fs.length<=1000/\dx≠a/\h.get? a=some (PySem.W.instObj C dx) /\
   ∃ mA,h.Ns1 dx mA/\(∀ f,RelO (fs.lookup f) (mA f))/\PySem.Within mA (fs.map (·.1))
 | .own _=>∃ o,h.get? a=some o
 | .xd fs=>∃ mA,h.Ns1 a mA/\∀ f,RelO (fs.lookup f) (mA f)
 | .rng lo hi=>∃ t u v,h.get? a=some { cls:=.type "range",data:=.fields #[.int lo t,.int hi u,.int 1 v] }
 | .frz o u=>h.get? a=some o/\ObjOk H h a u
 | .tbl ps=>h.get? a=some { cls:=.none,data:=.fields ps }
 | .met f x=>h.get? a=some (PySem.W.methodObj (.ref f) (.ref x))
 | .ext φ=>φ h/\(∃ o,h.get? a=some o)/\∀ h1 h2:Heap,φ h1->(∀ o,h1.get? a=some o->h2.get? a=some o)->φ h2
def HOk (H:Hp) (h:Heap):Prop:=∀ a o,H a=some o->ObjOk P w H h a o
end
section
variable {P:Program} {w:World} {H H':Hp} {h h':Heap} {a:Addr} {o:HO}
theorem ObjOk.lt (x:ObjOk P w H h a o):a < h.objs.size:=by
 cases o with
 | lst xs=>obtain ⟨_,_,_,_,e⟩:=x;exact Heap.lt_size e
 | tup xs=>obtain ⟨_,_,_,p⟩:=x;exact p.lt
 | dK kvs=>obtain ⟨_,_,_,_,o,_,_,e,_⟩:=x;exact Heap.lt_size e
 | dT kvs=>obtain ⟨_,_,_,_,o,_,_,e,_⟩:=x;exact Heap.lt_size e
 | set S n=>obtain ⟨o,_,_,_,e,_⟩:=x;exact Heap.lt_size e
 | ins C dx fs=>obtain ⟨_,_,_,e,_⟩:=x;exact Heap.lt_size e
 | own y=>obtain ⟨_,e⟩:=x;exact Heap.lt_size e
 | xd fs=>obtain ⟨_,⟨_,_,_,e,_⟩,_⟩:=x;exact Heap.lt_size e
 | rng lo hi=>obtain ⟨_,_,_,e⟩:=x;exact Heap.lt_size e
 | frz ob u=>obtain ⟨e,_⟩:=x;exact Heap.lt_size e
 | tbl ps=>exact Heap.lt_size (show h.get? a=some _ from x)
 | met f y=>exact Heap.lt_size (show h.get? a=some _ from x)
 | ext φ=>obtain ⟨_,⟨_,e⟩,_⟩:=x;exact Heap.lt_size e
theorem Paired.mapP {α β:Type} {F G:α->β->Prop}:∀ {l₁:List α} {l₂:List β},Paired F l₁ l₂->(∀ a b,F a b->G a b)->Paired G l₁ l₂
 | _,_,.nil,_=>.nil
 | _,_,.cons r t,f=>.cons (f _ _ r) (Paired.mapP t f)
theorem ObjOk.stay (x:ObjOk P w H h a o) (k:∀ b u,(b=a\/H b=some (.own a))->h.get? b=some u->h'.get? b=some u)
  (ho:∀ b,H b=some (.own a)->H' b=some (.own a)) (ht:∀ b xs,H b=some (.tup xs)->H' b=some (.tup xs)):ObjOk P w H' h' a o:=by
 induction o with
 | lst xs=>obtain ⟨z,its,n,r,e⟩:=x;exact ⟨z,its,n,r,k _ _ (.inl rfl) e⟩
 | tup xs=>obtain ⟨⟨z,o2,e2,c2⟩,its,r,ob,e,c⟩:=x;exact ⟨⟨z,o2,k _ _ (.inl rfl) e2,c2⟩,its,r,ob,k _ _ (.inl rfl) e,c⟩
 | dK kvs=>obtain ⟨z,y,vs,r,ob,es,ep,e,c⟩:=x;exact ⟨z,y,vs,r,ob,es,ep,k _ _ (.inl rfl) e,c⟩
 | dT kvs =>
  obtain ⟨z,y,xs,r,ob,es,ep,e,c⟩:=x
  exact ⟨z,y,xs,Paired.mapP r fun p q z=>⟨z.1,ht _ _ z.2.1,z.2.2⟩,ob,es,ep,k _ _ (.inl rfl) e,c⟩
 | set S n=>obtain ⟨ob,es,ep,t,e,c⟩:=x;exact ⟨ob,es,ep,t,k _ _ (.inl rfl) e,c⟩
 | ins C dx fs =>
  obtain ⟨d,z,ne,e,mA,⟨od,es,ep,e2,c⟩,r⟩:=x
  exact ⟨ho _ d,z,ne,k _ _ (.inl rfl) e,mA,⟨od,es,ep,k _ _ (.inr d) e2,c⟩,r⟩
 | own y=>obtain ⟨ob,e⟩:=x;exact ⟨ob,k _ _ (.inl rfl) e⟩
 | xd fs=>obtain ⟨mA,⟨od,es,ep,e,c⟩,r⟩:=x;exact ⟨mA,⟨od,es,ep,k _ _ (.inl rfl) e,c⟩,r⟩
 | rng lo hi=>obtain ⟨t,u,v,e⟩:=x;exact ⟨t,u,v,k _ _ (.inl rfl) e⟩
 | frz ob u ih=>obtain ⟨e,q⟩:=x;exact ⟨k _ _ (.inl rfl) e,ih q⟩
 | tbl ps =>
  have e:h.get? a=some { cls:=.none,data:=.fields ps }:=x
  show h'.get? a=some { cls:=.none,data:=.fields ps }
  exact k a _ (.inl rfl) e
 | met f y =>
  have e:h.get? a=some (PySem.W.methodObj (.ref f) (.ref y)):=x
  show h'.get? a=some (PySem.W.methodObj (.ref f) (.ref y))
  exact k a _ (.inl rfl) e
 | ext φ=>obtain ⟨p,⟨o,e⟩,st⟩:=x;exact ⟨st _ _ p fun o q=>k _ _ (.inl rfl) q,⟨o,k _ _ (.inl rfl) e⟩,st⟩
theorem HOk.lt (x:HOk P w H h) (e:H a=some o):a < h.objs.size:=(x a o e).lt
theorem HOk.fresh (x:HOk P w H h) (e:h.objs.size<=a):H a=none:=by
 cases q:H a with
 | none=>rfl
 | some u=>exact absurd (Nat.lt_of_lt_of_le (x.lt q) e) (Nat.lt_irrefl _)
theorem HOk.kept (x:HOk P w H h) (k:∀ b u,h.get? b=some u->h'.get? b=some u):HOk P w H h':=fun a o e =>
 (x a o e).stay (fun b u _ q=>k b u q) (fun _ q=>q) fun _ _ q=>q
theorem HOk.laid (x:HOk P w H h) (k:∀ b u,h.get? b=some u->h'.get? b=some u) (hp:h.objs.size<=a) (new:ObjOk P w (upd H a o) h' a o):HOk P w (upd H a o) h':=fun b u e=>by
 have hn:=x.fresh hp
 by_cases hb:b=a
 ·subst hb;rw [upd_same] at e;cases e;exact new
 ·rw [upd_ne hb] at e
  exact (x b u e).stay (fun c v _ q=>k c v q) (fun c q=>by rw [upd_ne (ne_of_none q hn)];exact q) fun c xs q=>by rw [upd_ne (ne_of_none q hn)];exact q
end
def Rd (H:Hp) (a:Addr) (u:HO):Prop:=H a=some u\/∃ o,H a=some (.frz o u)
theorem Rd.ok {P:Program} {w:World} {H:Hp} {h:Heap} {a:Addr} {u:HO} (r:Rd H a u) (x:HOk P w H h):ObjOk P w H h a u:=by
 rcases r with r | ⟨o,r⟩
 ·exact x a u r
 ·obtain ⟨_,q⟩:=x a _ r
  exact q
def Mut:Option HO->Prop
 | some (.lst _)=>True
 | some (.dK _)=>True
 | some (.dT _)=>True
 | some (.set _ _)=>True
 | some (.ins _ _ _)=>True
 | some (.ext _)=>True
 | _=>False
section
variable {P:Program} {w:World} {H:Hp} {h h':Heap} {x e:Addr} {o':HO}
theorem HOk.write (ok:HOk P w H h) (mu:Mut (H x)) (he:e=x\/H e=some (.own x)) (k:∀ b u,b≠e->h.get? b=some u->h'.get? b=some u) (heo:∃ u,h'.get? e=some u)
  (new:ObjOk P w (upd H x o') h' x o'):HOk P w (upd H x o') h':=fun b u q=>by
 have nown:∀ c y,H c=some (.own y)->c≠x:=fun c y r z=>by subst z;rw [r] at mu;exact mu
 have ntup:∀ c xs,H c=some (.tup xs)->c≠x:=fun c xs r z=>by subst z;rw [r] at mu;exact mu
 by_cases hb:b=x
 ·subst hb;rw [upd_same] at q;cases q;exact new
 ·rw [upd_ne hb] at q
  by_cases hbe:b=e
  ·have q':H b=some (.own x):=by
    rcases he with z | z
    ·exact absurd (hbe.trans z) hb
    ·rw [hbe];exact z
   rw [q] at q';cases q'
   obtain ⟨v,hv⟩:=heo
   exact ⟨v,by rw [hbe];exact hv⟩
  ·refine (ok b u q).stay (fun c v hc r=>k c v ?_ r) (fun c r=>by rw [upd_ne (nown c b r)];exact r) fun c xs r=>by rw [upd_ne (ntup c xs r)];exact r
   rcases hc with rfl | hc
   ·exact hbe
   ·rintro rfl
    rcases he with z | z
    ·exact nown c b hc z
    ·rw [hc] at z;cases z;exact hb rfl
end
structure Un (fs ex:List Addr) (H H':Hp) (h h':Heap):Prop where
 keep:∀ b o,h.get? b=some o->H b=none->b∉fs->b∉ex->h'.get? b=some o
 slot:∀ b o,h.get? b=some o->H b=none->b∈fs->b∉ex->∃ sl,h'.get? b=some { o with slots:=sl }
 free:∀ b o,h.get? b=some o->H b=none->b∉ex->H' b=none
 there:∀ b o,h.get? b=some o->b∉ex->∃ o',h'.get? b=some o'
 tups:∀ b xs,H b=some (.tup xs)->H' b=some (.tup xs)
 frzs:∀ b o u,H b=some (.frz o u)->H' b=some (.frz o u)
 tbls:∀ b ps,H b=some (.tbl ps)->∃ more,H' b=some (.tbl (ps++more))
section
variable {fs fs' ex ex':List Addr} {H H1 H2:Hp} {h h1 h2 h':Heap} {a x e:Addr} {o:HO}
theorem Un.any (u:Un fs ex H H1 h h1) {b:Addr} {ob:Obj} (q:h.get? b=some ob) (n:H b=none) (hx:b∉ex):∃ sl,h1.get? b=some { ob with slots:=sl }:=by
 by_cases hb:b∈fs
 ·exact u.slot b ob q n hb hx
 ·exact ⟨ob.slots,u.keep b ob q n hb hx⟩
theorem Un.kept (k:∀ b u,h.get? b=some u->h'.get? b=some u):Un fs ex H H h h' :=
 ⟨fun b ob q _ _ _=>k b ob q,fun b ob q _ _ _=>⟨ob.slots,k b ob q⟩,fun _ _ _ n _=>n,fun b ob q _=>⟨ob,k b ob q⟩,fun _ _ q=>q,fun _ _ _ q=>q,fun _ ps q=>⟨#[],by rw [q];simp⟩⟩
theorem Un.refl:Un fs ex H H h h:=Un.kept fun _ _ q=>q
theorem Un.laid (k:∀ b u,h.get? b=some u->h'.get? b=some u) (hp:h.objs.size<=a) (hn:H a=none):Un fs ex H (upd H a o) h h' where
 keep:=fun b u q _ _ _=>k b u q
 slot:=fun b u q _ _ _=>⟨u.slots,k b u q⟩
 free:=fun b u q n _=>by rw [upd_ne (Nat.ne_of_lt (Nat.lt_of_lt_of_le (Heap.lt_size q) hp))];exact n
 there:=fun b u q _=>⟨u,k b u q⟩
 tups:=fun b xs q=>by rw [upd_ne (ne_of_none q hn)];exact q
 frzs:=fun b u xs q=>by rw [upd_ne (ne_of_none q hn)];exact q
 tbls:=fun b ps q=>⟨#[],by rw [upd_ne (ne_of_none q hn),q];simp⟩
theorem Un.write (mu:Mut (H x)) (he:e=x\/H e=some (.own x)) (k:∀ b u,b≠e->h.get? b=some u->h'.get? b=some u) (heo:∃ u,h'.get? e=some u):Un fs ex H (upd H x o) h h':=by
 have hx:∀ b,H b=none->b≠x:=fun b n z=>by subst z;rw [n] at mu;exact mu
 have hb:∀ b,H b=none->b≠e:=fun b n z=>by
  subst z
  rcases he with r | r
  ·exact hx b n r
  ·rw [n] at r;cases r
 have hm:∀ b u,H b=some u->¬ Mut (some u)->b≠x:=fun b u q nm z=>by subst z;rw [q] at mu;exact nm mu
 refine ⟨fun b u q n _ _=>k b u (hb b n) q,fun b u q n _ _=>⟨u.slots,k b u (hb b n) q⟩,fun b u q n _=>by rw [upd_ne (hx b n)];exact n,fun b u q _=>?_,
  fun b xs q=>by rw [upd_ne (hm b _ q fun z=>z)];exact q,fun b u xs q=>by rw [upd_ne (hm b _ q fun z=>z)];exact q,fun b ps q=>⟨#[],by rw [upd_ne (hm b _ q fun z=>z),q];simp⟩⟩
 by_cases hbe:b=e
 ·subst hbe;exact heo
 ·exact ⟨u,k b u hbe q⟩
end
def trk (h:Heap) (H:Hp):List Addr:=(List.range h.objs.size).filter fun a=>(H a).isSome
def hidT (h:Heap) (H:Hp):Heap:=PySem.W.hideAll h (trk h H)
theorem hidT_size (h:Heap) (H:Hp):(hidT h H).objs.size=h.objs.size:=PySem.W.hideAll_size _ _
theorem hidT_get {h:Heap} {H:Hp} {b:Addr} {o:Obj} (e:h.get? b=some o) (n:H b=none):(hidT h H).get? b=some o :=
 PySem.W.hideAll_get _ e fun hm=>by
  have q:(H b).isSome=true:=(List.mem_filter.mp hm).2
  rw [n] at q;simp at q
theorem of_hidT {h:Heap} {H:Hp} {b:Addr} {o:Obj} (e:(hidT h H).get? b=some o):h.get? b=some o/\H b=none:=by
 have e':h.get? b=some o:=PySem.W.of_hideAll (trk h H) e
 refine ⟨e',?_⟩
 cases q:H b with
 | none=>rfl
 | some x =>
  have hm:b∈trk h H:=List.mem_filter.mpr ⟨List.mem_range.mpr (Heap.lt_size e'),by simp [q]⟩
  have z:(hidT h H).get? b=none:=PySem.W.hideAll_none (trk h H) hm
  rw [z] at e;cases e
def allNews (g h:Heap) (L:Addr):List (Addr × Obj):=(List.range h.objs.size).filterMap fun a=>if a=L\/(g.get? a).isSome=true then none else (h.get? a).map fun o=>(a,o)
def rest (g h:Heap) (L d:Addr):List (Addr × Obj):=(allNews g h L).filter fun p=>decide (p.1≠d)
end L2
namespace L2
open PySem PySem.Spec PyProof.Rows
structure Mod (K:PySem.W.Frag) (mg:Str->Option Value) (base:Heap):Prop where
 kin:K.In base
 glob:base.Ns mainGlobals mg
 blt:∃ mb,base.Ns builtinsNs mb/\∀ x:Str,x ≠ "__name__" -> mb x=bootBuiltins x
 nolimit:base.NoLimit
structure Cx where
 prog:Program
 w:World
 K:PySem.W.Frag
 mg:Str->Option Value
 base:Heap
 A:Around
 N:List Str
 s₀:Shared
 H₀:Hp
 env:Env
 outer:List Env
 stack:List Env
 ex:List Addr
 fn:Str->Bool
 calm:Bool
 pn:List (Addr × Obj)
 xe:Value->Shared->Prop
def frs (l:List Env):List Addr:=l.filterMap (·.frame)
abbrev Cx.fs (X:Cx):List Addr:=frs X.outer
def Vis (sc:Scope) (x:Str):Prop:=sc.names.lookup x=some .local\/sc.names.lookup x=some .cell\/sc.names.lookup x=some .free
def Loc (sc:Scope) (x:Str):Prop:=sc.names.lookup x=some .local\/sc.names.lookup x=some .cell
def Look (env:Env) (h:Heap) (m:Str->Option Value) (x:Str) (u:Value):Prop :=
 (env.kindOf x=some .local/\m x=some u)\/((env.kindOf x=some .cell\/env.kindOf x=some .free)/\∃ c,env.cells.lookup x=some c/\h.IsCell c (some u))
structure Cx.Ok (X:Cx):Prop where
 mod:Mod X.K X.mg X.base
 kind:X.env.scope.kind=.function
 glob:X.env.globals=mainGlobals
 blt:X.env.builtins=builtinsNs
 above:X.s₀.heap.objs.size<=X.env.locals
 inj:∀ x y c,X.env.cells.lookup x=some c->X.env.cells.lookup y=some c->x=y
 has:∀ x,(X.env.kindOf x=some .cell\/X.env.kindOf x=some .free)->∃ c,X.env.cells.lookup x=some c
 cab:∀ x c,X.fn x=true->X.env.cells.lookup x=some c->X.s₀.heap.objs.size<=c
 hd:X.calm=true->X.A.handled=none
 frames:X.A.frames=some X.stack
 stk:X.stack=X.outer\/(X.stack=X.env :: X.outer/\X.env.frame=some X.env.locals)
 exf:∀ b∈X.ex,b≠X.env.locals/\∀ x c,X.env.cells.lookup x=some c->c≠b
 bs:∀ b o,X.base.get? b=some o->X.s₀.heap.get? b=some o/\X.H₀ b=none
 bsz:X.base.objs.size<=X.s₀.heap.objs.size
 noex:∀ b o,X.base.get? b=some o->b∉X.ex
 exfs:∀ b∈X.ex,b∉X.fs
 funs:X.s₀.heap.FunFrames X.base X.outer
 frf:∀ b∈X.fs,X.H₀ b=none
structure Inv (X:Cx) (pins:List (Addr × Obj)) (σ:List (Option V)) (H:Hp) (s:Shared):Prop where
 ok:X.Ok
 os:s.os=X.s₀.os
 bare:AllBare s.gens
 base:Un X.fs X.ex X.H₀ H X.s₀.heap s.heap
 loc:∃ m,s.heap.Ns X.env.locals m/\∀ (i:Nat) (x:Str) (v:V),X.N[i]?=some x->σ[i]?=some (some v)->Vis X.env.scope x->∃ u,RelV v u/\Look X.env s.heap m x u
 cell:∀ x c,X.env.cells.lookup x=some c->∃ v,s.heap.IsCell c v
 free:H X.env.locals=none
 freeC:∀ x c,X.env.cells.lookup x=some c->H c=none
 pin:∀ p∈X.pn++pins,s.heap.get? p.1=some p.2/\H p.1=none/\p.1≠X.env.locals/\p.1∉X.fs/\∀ v,p.2.data≠.cell v
 hok:HOk X.prog X.w H s.heap
 len:σ.length=X.N.length
section
variable {X:Cx} {pins:List (Addr × Obj)} {σ:List (Option V)} {H H':Hp} {s:Shared} {h':Heap}
theorem Cx.Ok.nofr (ok:X.Ok) {b:Addr} {o:Obj} (e:X.base.get? b=some o):b∉X.fs:=fun hb=>by
 have:=(ok.funs.mem hb).1
 rw [e] at this;cases this
theorem Inv.bs (I:Inv X pins σ H s):∀ b o,X.base.get? b=some o->s.heap.get? b=some o/\H b=none:=fun b o e =>
 ⟨I.base.keep b o (I.ok.bs b o e).1 (I.ok.bs b o e).2 (I.ok.nofr e) (I.ok.noex b o e),I.base.free b o (I.ok.bs b o e).1 (I.ok.bs b o e).2 (I.ok.noex b o e)⟩
theorem Inv.bk (I:Inv X pins σ H s):∀ b o,X.base.get? b=some o->s.heap.get? b=some o:=fun b o e=>(I.bs b o e).1
theorem Inv.mod (I:Inv X pins σ H s):Mod X.K X.mg X.base:=I.ok.mod
theorem Inv.kIn (I:Inv X pins σ H s):X.K.In s.heap:=I.ok.mod.kin.keeps I.bk
theorem Inv.lt (I:Inv X pins σ H s):X.env.locals < s.heap.objs.size:=let ⟨_,hn,_⟩:=I.loc;hn.lt
theorem Inv.sz (I:Inv X pins σ H s):X.s₀.heap.objs.size<=s.heap.objs.size:=Nat.le_trans I.ok.above (Nat.le_of_lt I.lt)
theorem Inv.nofs (I:Inv X pins σ H s) {a:Addr} (h:s.heap.objs.size<=a):a∉X.fs:=fun hb=>by
 obtain ⟨_,o,ho,_⟩:=I.ok.funs.mem hb
 exact absurd (Nat.lt_of_lt_of_le (Heap.lt_size ho) (Nat.le_trans I.sz h)) (Nat.lt_irrefl _)
theorem Inv.cne (I:Inv X pins σ H s):∀ x c,X.env.cells.lookup x=some c->c≠X.env.locals:=fun x c e z=>by
 obtain ⟨v,o,ho,hd⟩:=I.cell x c e
 obtain ⟨m,⟨o',es,ep,ho',hd',_⟩,_⟩:=I.loc
 rw [z,ho'] at ho;cases ho;rw [hd'] at hd;cases hd
theorem Inv.funs (I:Inv X pins σ H s):s.heap.FunFrames X.base X.outer:=by
 have all:∀ (l:List Env),(∀ b∈frs l,b∈X.fs)->X.s₀.heap.FunFrames X.base l->s.heap.FunFrames X.base l:=by
  intro l
  induction l with
  | nil=>intro _ _;trivial
  | cons env r ih =>
   intro hs hl
   obtain ⟨hk,⟨L,o,hf,hn,ho,hd⟩,hr⟩:=hl
   have hL:L∈X.fs:=hs L (by unfold frs;rw [List.filterMap_cons,hf];exact List.mem_cons_self)
   obtain ⟨sl,e⟩:=I.base.slot L o ho (I.ok.frf L hL) hL fun z=>I.ok.exfs L z hL
   exact ⟨hk,⟨L,_,hf,hn,e,hd⟩,ih (fun b hb=>hs b (by unfold frs;rw [List.filterMap_cons,hf];exact List.mem_cons_of_mem _ hb)) hr⟩
 exact all X.outer (fun _ hb=>hb) I.ok.funs
theorem Inv.stack (I:Inv X pins σ H s):s.heap.FunFrames X.base X.stack:=by
 rcases I.ok.stk with e | ⟨e,hf⟩
 ·rw [e];exact I.funs
 ·rw [e]
  obtain ⟨m,hn,_⟩:=I.loc
  refine .cons (by rw [I.ok.kind];decide) hf hn ?_ I.funs
  exact Heap.get?_none_of_le (Nat.le_trans I.ok.bsz I.ok.above)
theorem Inv.stkSub (I:Inv X pins σ H s):∀ b∈frs X.stack,b∈X.env.locals :: X.fs:=fun b hb=>by
 rcases I.ok.stk with e | ⟨e,hf⟩
 ·rw [e] at hb;exact List.mem_cons_of_mem _ hb
 ·rw [e] at hb
  unfold frs at hb
  rw [List.filterMap_cons,hf] at hb
  exact hb
theorem Inv.stkFree (I:Inv X pins σ H s):∀ b∈frs X.stack,H b=none:=fun b hb=>by
 rcases List.mem_cons.mp (I.stkSub b hb) with e | hb
 ·rw [e];exact I.free
 ·obtain ⟨_,o,ho,_⟩:=I.ok.funs.mem hb
  exact I.base.free b o ho (I.ok.frf b hb) fun z=>I.ok.exfs b z hb
theorem Inv.step {g':Array GenState} {t':Nat} {d':Drawn} {ch:List Addr} (I:Inv X pins σ H s)
  (hch:∀ b∈ch,(b∈X.ex\/X.s₀.heap.objs.size<=b)/\b≠X.env.locals/\(∀ x c,X.env.cells.lookup x=some c->c≠b)/\∀ p∈X.pn++pins,p.1≠b)
  (keep:∀ b o,b≠X.env.locals->b∉X.fs->b∉ch->s.heap.get? b=some o->H b=none->h'.get? b=some o)
  (slot:∀ b o,b≠X.env.locals->b∈X.fs->b∉ch->s.heap.get? b=some o->H b=none->∃ sl,h'.get? b=some { o with slots:=sl }) (free:∀ b o,b∉ch->s.heap.get? b=some o->H b=none->H' b=none)
  (there:∀ b o,b∉ch->s.heap.get? b=some o->∃ o',h'.get? b=some o')
  (tups:∀ b xs,H b=some (.tup xs)->H' b=some (.tup xs)) (frzs:∀ b o u,H b=some (.frz o u)->H' b=some (.frz o u)) (tbls:∀ b ps,H b=some (.tbl ps)->∃ more,H' b=some (.tbl (ps++more)))
  (ns:∀ m,s.heap.Ns X.env.locals m->h'.Ns X.env.locals m) (hok:HOk X.prog X.w H' h') (hg:AllBare g') :
  Inv X pins σ H' { s with heap:=h',gens:=g',drawn:=d',toks:=t' }:=by
 have neL:∀ b o,X.s₀.heap.get? b=some o->b≠X.env.locals:=fun b o e=>Nat.ne_of_lt (Nat.lt_of_lt_of_le (Heap.lt_size e) I.ok.above)
 have neC:∀ b o,X.s₀.heap.get? b=some o->b∉X.ex->b∉ch:=fun b o e hx hb=>by
  rcases (hch b hb).1 with z | z
  ·exact hx z
  ·exact absurd (Nat.lt_of_lt_of_le (Heap.lt_size e) z) (Nat.lt_irrefl _)
 have cellK:∀ x c,X.env.cells.lookup x=some c->∀ v,s.heap.IsCell c v->h'.IsCell c v:=fun x c e v ⟨o,ho,hd⟩=>by
  have nch:c∉ch:=fun z=>(hch c z).2.2.1 x c e rfl
  by_cases hc:c∈X.fs
  ·obtain ⟨sl,q⟩:=slot c o (I.cne x c e) hc nch ho (I.freeC x c e)
   exact ⟨_,q,hd⟩
  ·exact ⟨o,keep c o (I.cne x c e) hc nch ho (I.freeC x c e),hd⟩
 refine ⟨I.ok,I.os,hg,⟨fun b o e n hb hx=>?_,fun b o e n hb hx=>?_,fun b o e n hx=>?_,fun b o e hx=>?_,fun b xs e=>tups b xs (I.base.tups b xs e),fun b o xs e=>frzs b o xs (I.base.frzs b o xs e),fun b ps e=>?_⟩,?_,fun x c e=>?_,?_,fun x c e=>?_,fun p hp=>?_,hok,I.len⟩
 ·exact keep b o (neL b o e) hb (neC b o e hx) (I.base.keep b o e n hb hx) (I.base.free b o e n hx)
 ·obtain ⟨sl,e1⟩:=I.base.slot b o e n hb hx
  obtain ⟨sl',e2⟩:=slot b _ (neL b o e) hb (neC b o e hx) e1 (I.base.free b o e n hx)
  exact ⟨sl',e2⟩
 ·obtain ⟨o',e1⟩:=I.base.there b o e hx
  exact free b o' (neC b o e hx) e1 (I.base.free b o e n hx)
 ·obtain ⟨o',e1⟩:=I.base.there b o e hx
  exact there b o' (neC b o e hx) e1
 ·obtain ⟨m1,e1⟩:=I.base.tbls b ps e
  obtain ⟨m2,e2⟩:=tbls b _ e1
  exact ⟨m1++m2,by rw [e2,Array.append_assoc]⟩
 ·obtain ⟨m,hn,hl⟩:=I.loc
  refine ⟨m,ns m hn,fun i x v e1 e2 e3=>?_⟩
  obtain ⟨u,r,l⟩:=hl i x v e1 e2 e3
  refine ⟨u,r,?_⟩
  rcases l with l | ⟨k,c,e,z⟩
  ·exact .inl l
  ·exact .inr ⟨k,c,e,cellK x c e _ z⟩
 ·obtain ⟨v,z⟩:=I.cell x c e
  exact ⟨v,cellK x c e v z⟩
 ·obtain ⟨m,⟨o,_,_,ho,_⟩,_⟩:=I.loc
  exact free _ o (fun z=>(hch _ z).2.1 rfl) ho I.free
 ·obtain ⟨v,o,ho,hd⟩:=I.cell x c e
  exact free c o (fun z=>(hch c z).2.2.1 x c e rfl) ho (I.freeC x c e)
 ·obtain ⟨e,n,ne,nf,d⟩:=I.pin p hp
  have nch:p.1∉ch:=fun z=>(hch p.1 z).2.2.2 p hp rfl
  exact ⟨keep p.1 p.2 ne nf nch e n,free p.1 p.2 nch e n,ne,nf,d⟩
theorem Inv.un {t':Nat} (I:Inv X pins σ H s) (u:Un X.fs [] H H' s.heap h') (hok:HOk X.prog X.w H' h'):Inv X pins σ H' { s with heap:=h',toks:=t' }:=by
 obtain ⟨m,⟨o,es,ep,ho,r⟩,_⟩:=id I.loc
 obtain ⟨sl,hL⟩:=u.any ho I.free (by simp)
 exact I.step (g':=s.gens) (d':=s.drawn) (ch:=[]) (fun _ z=>nomatch z) (fun b o _ hb _ e n=>u.keep b o e n hb (by simp)) (fun b o _ hb _ e n=>u.slot b o e n hb (by simp)) (fun b o _ e n=>u.free b o e n (by simp)) (fun b o _ e=>u.there b o e (by simp)) u.tups u.frzs u.tbls (fun m' hm=>by
  obtain ⟨o',es',ep',ho',r'⟩:=hm
  rw [ho] at ho';cases ho'
  exact ⟨_,es',ep',hL,r'⟩) hok I.bare
theorem Inv.call {g':Array GenState} {t':Nat} {d':Drawn} {ch:List Addr} (I:Inv X pins σ H s) (u:Un (frs X.stack) ch H H' s.heap h') (hok:HOk X.prog X.w H' h') (hg:AllBare g')
  (hch:∀ b∈ch,(b∈X.ex\/X.s₀.heap.objs.size<=b)/\b≠X.env.locals/\(∀ x c,X.env.cells.lookup x=some c->c≠b)/\∀ p∈X.pn++pins,p.1≠b) :
  Inv X pins σ H' { s with heap:=h',gens:=g',drawn:=d',toks:=t' }:=by
 obtain ⟨m,⟨o,es,ep,ho,r⟩,_⟩:=id I.loc
 obtain ⟨sl,hL⟩:=u.any ho I.free fun z=>(hch _ z).2.1 rfl
 exact I.step (ch:=ch) hch (fun b o hL hb hc e n=>u.keep b o e n (fun z=>(List.mem_cons.mp (I.stkSub b z)).elim hL hb) hc) (fun b o _ _ hc e n=>u.any e n hc) (fun b o hc e n=>u.free b o e n hc) (fun b o hc e=>u.there b o e hc) u.tups u.frzs u.tbls (fun m' hm=>by
  obtain ⟨o',es',ep',ho',r'⟩:=hm
  rw [ho] at ho';cases ho'
  exact ⟨_,es',ep',hL,r'⟩) hok hg
theorem Inv.turned {t':Nat} {it:Addr} (I:Inv X pins σ H s) (k:∀ b o,b≠it->s.heap.get? b=some o->h'.get? b=some o) (hn:H it=none) (hL:it≠X.env.locals)
  (h1:it∈X.ex\/X.s₀.heap.objs.size<=it) (h2:∀ x c,X.env.cells.lookup x=some c->c≠it) (h3:∀ p∈X.pn++pins,p.1≠it):Inv X pins σ H { s with heap:=h',toks:=t' }:=by
 have nit:∀ b u,H b=some u->b≠it:=fun b u e z=>by rw [z,hn] at e;cases e
 refine I.step (g':=s.gens) (d':=s.drawn) (ch:=[it]) (fun b hb=>?_) (fun b o _ _ hc e _=>k b o (fun z=>hc (by simp [z])) e) (fun b o _ _ hc e _=>⟨o.slots,k b o (fun z=>hc (by simp [z])) e⟩) (fun _ _ _ _ n=>n)
  (fun b o hc e=>⟨o,k b o (fun z=>hc (by simp [z])) e⟩) (fun _ _ e=>e) (fun _ _ _ e=>e) (fun b ps e=>⟨#[],by rw [e];simp⟩) (fun m hm=>?_) (fun b u e=>?_) I.bare
 ·have e:b=it:=by simpa using hb
  subst e
  exact ⟨h1,hL,h2,h3⟩
 ·obtain ⟨o,es,ep,ho,r⟩:=hm
  exact ⟨o,es,ep,k _ o (Ne.symm hL) ho,r⟩
 ·refine (I.hok b u e).stay (fun c v hc q=>k c v ?_ q) (fun _ q=>q) fun _ _ q=>q
  rcases hc with z | z
  ·rw [z];exact nit b u e
  ·exact nit c _ z
theorem Inv.tok (I:Inv X pins σ H s) (t:Nat):Inv X pins σ H { s with toks:=t }:=I.un (h':=s.heap) (t':=t) Un.refl I.hok
theorem Inv.kept {t':Nat} (I:Inv X pins σ H s) (k:∀ b u,s.heap.get? b=some u->h'.get? b=some u):Inv X pins σ H { s with heap:=h',toks:=t' }:=I.un (Un.kept k) (I.hok.kept k)
theorem Inv.laid {a:Addr} {o:HO} {t':Nat} (I:Inv X pins σ H s) (k:∀ b u,s.heap.get? b=some u->h'.get? b=some u) (hp:s.heap.objs.size<=a) (new:ObjOk X.prog X.w (upd H a o) h' a o) :
  Inv X pins σ (upd H a o) { s with heap:=h',toks:=t' }:=I.un (Un.laid k hp (I.hok.fresh hp)) (I.hok.laid k hp new)
theorem Inv.write {x e:Addr} {o:HO} {t':Nat} (I:Inv X pins σ H s) (mu:Mut (H x)) (he:e=x\/H e=some (.own x)) (k:∀ b u,b≠e->s.heap.get? b=some u->h'.get? b=some u) (heo:∃ u,h'.get? e=some u)
  (new:ObjOk X.prog X.w (upd H x o) h' x o):Inv X pins σ (upd H x o) { s with heap:=h',toks:=t' }:=I.un (Un.write mu he k heo) (I.hok.write mu he k heo new)
theorem Inv.pins_of {pins':List (Addr × Obj)} (I:Inv X pins σ H s) (h:∀ p∈pins',s.heap.get? p.1=some p.2/\H p.1=none/\p.1≠X.env.locals/\p.1∉X.fs/\∀ v,p.2.data≠.cell v):Inv X pins' σ H s :=
 ⟨I.ok,I.os,I.bare,I.base,I.loc,I.cell,I.free,I.freeC,fun p hp=>(List.mem_append.mp hp).elim (fun z=>I.pin p (List.mem_append_left _ z)) (h p),I.hok,I.len⟩
theorem nodup_ix {N:List Str} (hN:N.Nodup) {i j:Nat} {x:Str} (a:N[i]?=some x) (b:N[j]?=some x):i=j:=by
 obtain ⟨h1,e1⟩:=List.getElem?_eq_some_iff.mp a
 obtain ⟨h2,e2⟩:=List.getElem?_eq_some_iff.mp b
 exact (List.getElem_inj hN).mp (e1.trans e2.symm)
theorem store_ok2 {M:Model} {A:Around} {E:Value->Shared->Prop} {i:Nat} {x:Str} {v:V} {u:Value} {Q:Unit->Shared->Prop} (I:Inv X pins σ H s) (hN:X.N.Nodup) (hi:X.N[i]?=some x) (hx:Loc X.env.scope x) (r:RelV v u)
  (h:∀ s',Inv X pins (σ.set i (some v)) H s'->(∃ a,Heap.SameBut a s.heap s'.heap/\(a=X.env.locals\/X.env.cells.lookup x=some a))->Q () s') (hf:X.fn x=true\/X.env.scope.names.lookup x=some .local:=by first | exact .inl rfl | exact .inr rfl | assumption):wpAny M A (storeName X.env x u) Q E s:=by
 obtain ⟨m,hn,hl⟩:=id I.loc
 have hcls:(X.env.scope.kind == .class || (X.env.scope.kind == .module && X.env.locals != X.env.globals))=false:=by rw [I.ok.kind];rfl
 have hiσ:i < σ.length:=by rw [I.len];exact (List.getElem?_eq_some_iff.mp hi).1
 have cne:=I.cne
 have tracked:∀ {a:Addr} {h':Heap},(∃ o,s.heap.get? a=some o/\H a=none)->Heap.SameBut a s.heap h'->HOk X.prog X.w H h':=fun {a h'} ha hs b ob e=>by
  obtain ⟨_,_,hfree⟩:=ha
  refine (I.hok b ob e).stay (fun c w' hc q=>(hs.2 c ?_).trans q) (fun _ q=>q) fun _ _ q=>q
  rintro rfl
  rcases hc with rfl | hc
  ·rw [hfree] at e;cases e
  ·rw [hfree] at hc;cases hc
 rcases hx with hk | hk
 ·refine wpAny_storeName_local hk hn (fun h' hn' hs=>?_) hcls
  obtain ⟨oL,_,_,hoL,_⟩:=id hn
  refine h _ ⟨I.ok,I.os,I.bare,⟨fun b o e n hb hx=>?_,fun b o e n hb hx=>?_,I.base.free,fun b o e hx=>?_,I.base.tups,I.base.frzs,I.base.tbls⟩,⟨_,hn',fun j y v' e1 e2 e3=>?_⟩,fun y c e=>?_,I.free,I.freeC,fun p hp=>?_,tracked ⟨oL,hoL,I.free⟩ hs,by simpa using I.len⟩ ⟨_,hs,.inl rfl⟩
  ·exact (hs.2 b (Nat.ne_of_lt (Nat.lt_of_lt_of_le (Heap.lt_size e) I.ok.above))).trans (I.base.keep b o e n hb hx)
  ·obtain ⟨sl,e1⟩:=I.base.slot b o e n hb hx
   exact ⟨sl,(hs.2 b (Nat.ne_of_lt (Nat.lt_of_lt_of_le (Heap.lt_size e) I.ok.above))).trans e1⟩
  ·obtain ⟨o',e1⟩:=I.base.there b o e hx
   exact ⟨o',(hs.2 b (Nat.ne_of_lt (Nat.lt_of_lt_of_le (Heap.lt_size e) I.ok.above))).trans e1⟩
  ·by_cases hj:j=i
   ·subst hj
    rw [hi] at e1;cases e1
    rw [List.getElem?_set_self hiσ] at e2
    cases e2
    exact ⟨u,r,.inl ⟨hk,by simp⟩⟩
   ·rw [List.getElem?_set_ne (Ne.symm hj)] at e2
    obtain ⟨u',r',q⟩:=hl j y v' e1 e2 e3
    refine ⟨u',r',?_⟩
    rcases q with ⟨k,e⟩ | ⟨k,c,e,z⟩
    ·refine .inl ⟨k,?_⟩
     have:y≠x:=fun e=>hj (nodup_ix hN e1 (e ▸ hi))
     simp [this,e]
    ·exact .inr ⟨k,c,e,z.sameBut hs (cne y c e)⟩
  ·obtain ⟨w',z⟩:=I.cell y c e
   exact ⟨w',z.sameBut hs (cne y c e)⟩
  ·obtain ⟨e,n,ne,nf,d⟩:=I.pin p hp
   exact ⟨(hs.2 p.1 ne).trans e,n,ne,nf,d⟩
 ·have hfn:X.fn x=true:=by
   rcases hf with z | z
   ·exact z
   ·rw [z] at hk;cases hk
  obtain ⟨c,hc⟩:=I.ok.has x (.inl hk)
  obtain ⟨w',z⟩:=I.cell x c hc
  refine wpAny_storeName_cell I.ok.kind hk hc z (fun h' hc' hs=>?_)
  obtain ⟨oc,hoc,hocd⟩:=id z
  refine h { s with heap:=h' } ⟨I.ok,I.os,I.bare,⟨fun b o e n hb hx=>?_,fun b o e n hb hx=>?_,I.base.free,fun b o e hx=>?_,I.base.tups,I.base.frzs,I.base.tbls⟩,⟨m,hn.sameBut hs (Ne.symm (cne x c hc)),fun j y v' e1 e2 e3=>?_⟩,fun y c' e=>?_,I.free,I.freeC,fun p hp=>?_,tracked ⟨oc,hoc,I.freeC x c hc⟩ hs,by simpa using I.len⟩ ⟨c,hs,.inr hc⟩
  ·exact (hs.2 b (Nat.ne_of_lt (Nat.lt_of_lt_of_le (Heap.lt_size e) (I.ok.cab x c hfn hc)))).trans (I.base.keep b o e n hb hx)
  ·obtain ⟨sl,e1⟩:=I.base.slot b o e n hb hx
   exact ⟨sl,(hs.2 b (Nat.ne_of_lt (Nat.lt_of_lt_of_le (Heap.lt_size e) (I.ok.cab x c hfn hc)))).trans e1⟩
  ·obtain ⟨o',e1⟩:=I.base.there b o e hx
   exact ⟨o',(hs.2 b (Nat.ne_of_lt (Nat.lt_of_lt_of_le (Heap.lt_size e) (I.ok.cab x c hfn hc)))).trans e1⟩
  ·by_cases hj:j=i
   ·subst hj
    rw [hi] at e1;cases e1
    rw [List.getElem?_set_self hiσ] at e2
    cases e2
    exact ⟨u,r,.inr ⟨.inl hk,c,hc,hc'⟩⟩
   ·rw [List.getElem?_set_ne (Ne.symm hj)] at e2
    obtain ⟨u',r',q⟩:=hl j y v' e1 e2 e3
    refine ⟨u',r',?_⟩
    rcases q with q | ⟨k,c',e,z'⟩
    ·exact .inl q
    ·refine .inr ⟨k,c',e,z'.sameBut hs ?_⟩
     rintro rfl
     exact hj (nodup_ix hN e1 (I.ok.inj _ _ _ e hc ▸ hi))
  ·by_cases hcc:c'=c
   ·subst hcc;exact ⟨_,hc'⟩
   ·obtain ⟨w2,z2⟩:=I.cell y c' e
    exact ⟨w2,z2.sameBut hs hcc⟩
  ·obtain ⟨e,n,ne,nf,d⟩:=I.pin p hp
   refine ⟨(hs.2 p.1 ?_).trans e,n,ne,nf,d⟩
   intro q
   rw [q,hoc] at e
   have q':oc=p.2:=Option.some.inj e
   exact d w' (by rw [<- q'];exact hocd)
theorem store_ok {M:Model} {A:Around} {E:Value->Shared->Prop} {i:Nat} {x:Str} {v:V} {u:Value} {Q:Unit->Shared->Prop} (I:Inv X pins σ H s) (hN:X.N.Nodup) (hi:X.N[i]?=some x) (hx:Loc X.env.scope x) (r:RelV v u)
  (h:∀ s',Inv X pins (σ.set i (some v)) H s'->Q () s') (hf:X.fn x=true\/X.env.scope.names.lookup x=some .local:=by first | exact .inl rfl | exact .inr rfl | assumption):wpAny M A (storeName X.env x u) Q E s :=
 store_ok2 I hN hi hx r (fun s' I' _=>h s' I') hf
theorem Inv.call' {s':Shared} {ch:List Addr} (I:Inv X pins σ H s) (ho:s'.os=s.os) (u:Un (frs X.stack) ch H H' s.heap s'.heap) (hok:HOk X.prog X.w H' s'.heap) (hg:AllBare s'.gens)
  (hch:∀ b∈ch,(b∈X.ex\/X.s₀.heap.objs.size<=b)/\b≠X.env.locals/\(∀ x c,X.env.cells.lookup x=some c->c≠b)/\∀ p∈X.pn++pins,p.1≠b):Inv X pins σ H' s':=by
 obtain ⟨h',g',d',t',o'⟩:=s'
 have e:o'=s.os:=ho
 subst e
 exact I.call (g':=g') (t':=t') (d':=d') u hok hg hch
end
abbrev XK:=Value->Option Addr->Hp->Prop
abbrev St:=List (Option V)
abbrev VK:=V->Hp->Prop
abbrev TE:=St->Hp->VK->Prop
abbrev TT:=St->Hp->(Bool->Hp->Prop)->Prop
abbrev TA:=St->Hp->(List V->Hp->Prop)->Prop
structure Ends where
 nx:St->Hp->Prop
 rt:VK
 bk:St->Hp->Prop:=fun _ _=>False
 ct:St->Hp->Prop:=fun _ _=>False
abbrev TS:=Ends->St->Hp->Prop
def EP (X:Cx) (pins:List (Addr × Obj)) (σ:St) (Q:VK) (u:Value) (s':Shared):Prop:=∃ v H',Inv X pins σ H' s'/\RelV v u/\Q v H'
def TP (X:Cx) (pins:List (Addr × Obj)) (σ:St) (Q:Bool->Hp->Prop) (b:Bool) (s':Shared):Prop:=∃ H',Inv X pins σ H' s'/\Q b H'
def AP (X:Cx) (pins:List (Addr × Obj)) (σ:St) (Q:List V->Hp->Prop) (us:List Value) (s':Shared):Prop:=∃ vs H',Inv X pins σ H' s'/\Vals vs us/\Q vs H'
def SP (X:Cx) (pins:List (Addr × Obj)) (D:Ends) (f:Flow) (s':Shared):Prop :=
 match f with
 | .next=>∃ σ' H',Inv X pins σ' H' s'/\D.nx σ' H'
 | .brk=>∃ σ' H',Inv X pins σ' H' s'/\D.bk σ' H'
 | .cont=>∃ σ' H',Inv X pins σ' H' s'/\D.ct σ' H'
 | .ret u=>∃ v σ' H',Inv X pins σ' H' s'/\RelV v u/\D.rt v H'
def PE (X:Cx) (e:Expr) (t:TE):Prop :=
 ∀ (pins:List (Addr × Obj)) (s:Shared) (σ:St) (H:Hp) (Q:VK),Inv X pins σ H s->t σ H Q->wpAny (model X.prog X.w) X.A (eval e X.env) (EP X pins σ Q) X.xe s
def PA (X:Cx) (es:List Expr) (t:TA):Prop :=
 ∀ (pos:Pos) (pins:List (Addr × Obj)) (s:Shared) (σ:St) (H:Hp) (Q:List V->Hp->Prop),Inv X pins σ H s->t σ H Q->wpAny (model X.prog X.w) X.A (spliced (backTo pos (starEach es X.env))) (AP X pins σ Q) X.xe s
def PSs (X:Cx) (st:List Stmt) (t:TS):Prop :=
 ∀ (pins:List (Addr × Obj)) (s:Shared) (σ:St) (H:Hp) (D:Ends),Inv X pins σ H s->t D σ H->wpAny (model X.prog X.w) X.A (execs st X.env) (SP X pins D) X.xe s
theorem thn {α:Type} {t:Sem α} {Q Q':α->Shared->Prop} {M:Model} {A:Around} {E:Value->Shared->Prop} {s:Shared} (h:wpAny M A t Q E s) (hQ:∀ a s,Q a s->Q' a s):wpAny M A t Q' E s:=wpAny_mono h hQ fun _ _ x=>x
end L2
namespace L2
open PySem PySem.Spec PyProof.Rows
section
variable {X:Cx}
def tVar (i:Nat):TE:=fun σ H Q=>∃ v,σ[i]?=some (some v)/\Q v H
def tC (v:V):TE:=fun _ H Q=>Q v H
theorem pe_var {i:Nat} {x:Str} {pos:Pos} (hN:X.N[i]?=some x) (hv:Vis X.env.scope x) (hd:(x == ("__debug__" : Str))=false:=by decide) (hcd:(x == ("__classdict__" : Str))=false:=by decide):PE X (.Name x pos) (tVar i):=by
 intro pins s σ H Q I h
 obtain ⟨v,e,h⟩:=h
 obtain ⟨m,hn,hl⟩:=I.loc
 obtain ⟨u,r,l⟩:=hl i x v hN e hv
 have fin:EP X pins σ Q u s:=⟨v,H,I,r,h⟩
 rcases l with ⟨hk,hm⟩ | ⟨hk,c,hc,hcell⟩
 ·exact wpAny_Name (wpAny_loadName_local I.ok.kind hk hn hm fin) hd
 ·rcases hk with hk | hk
  ·exact wpAny_Name (wpAny_loadName_cell I.ok.kind hk hc hcell fin) hd
  ·exact wpAny_Name (wpAny_loadName_free I.ok.kind hk hc hcell fin hcd) hd
theorem pe_int {i j pos}:PE X (.Constant (.int i) j pos) (tC (.int i)):=fun _ _ _ H _ I h=>wpAny_Constant_int ⟨.int i,H,I.tok _,⟨_,rfl⟩,h⟩
theorem pe_non {j pos}:PE X (.Constant .none j pos) (tC .non):=fun _ _ _ H _ I h=>Constant_none ⟨.non,H,I,rfl,h⟩
theorem pe_str {x j pos}:PE X (.Constant (.str x) j pos) (tC (.str x)):=fun _ _ _ H _ I h=>Calls.Constant_str ⟨.str x,H,I.tok _,⟨_,rfl⟩,h⟩
def Gl (X:Cx) (x:Str):Prop:=X.env.kindOf x=some .globalImplicit
theorem ld_glob {E:Value->Shared->Prop} {pins:List (Addr × Obj)} {s:Shared} {σ:St} {H:Hp} {x:Str} {u:Value} {pos:Pos} {Q:Value->Shared->Prop} (I:Inv X pins σ H s) (hg:Gl X x) (hm:X.mg x=some u) (h:Q u s)
  (hd:(x == ("__debug__" : Str))=false:=by decide):wpAny (model X.prog X.w) X.A (eval (.Name x pos) X.env) Q E s :=
 Calls.Name_function_global I.ok.kind hg (Calls.loadGlobal_global (by rw [I.ok.glob];exact I.mod.glob.keeps I.bk) hm h) hd
theorem ld_blt {E:Value->Shared->Prop} {pins:List (Addr × Obj)} {s:Shared} {σ:St} {H:Hp} {x:Str} {u:Value} {pos:Pos} {Q:Value->Shared->Prop} (I:Inv X pins σ H s) (hg:Gl X x) (hm:X.mg x=none) (hv:bootBuiltins x=some u) (h:Q u s)
  (hn:x ≠ "__name__" := by decide) (hd:(x == ("__debug__" : Str))=false:=by decide):wpAny (model X.prog X.w) X.A (eval (.Name x pos) X.env) Q E s:=by
 obtain ⟨mb,h1,h2⟩:=I.mod.blt
 exact Calls.Name_function_global I.ok.kind hg (Calls.loadGlobal_builtin (by rw [I.ok.glob];exact I.mod.glob.keeps I.bk) hm (by rw [I.ok.blt];exact h1.keeps I.bk) ((h2 x hn).trans hv) h) hd
theorem pe_glob {x:Str} {v:V} {u:Value} {pos:Pos} (hg:Gl X x) (hm:X.mg x=some u) (r:RelV v u) (hd:(x == ("__debug__" : Str))=false:=by decide):PE X (.Name x pos) (tC v) :=
 fun _ _ _ H _ I h=>ld_glob I hg hm ⟨v,H,I,r,h⟩ hd
theorem pe_bltn {x:Str} {v:V} {u:Value} {pos:Pos} (hg:Gl X x) (hm:X.mg x=none) (hv:bootBuiltins x=some u) (r:RelV v u) (hn:x ≠ "__name__" := by decide) (hd:(x == ("__debug__" : Str))=false:=by decide):PE X (.Name x pos) (tC v) :=
 fun _ _ _ H _ I h=>ld_blt I hg hm hv ⟨v,H,I,r,h⟩ hn hd
variable {a b:Expr} {ta tb:TE} {pos:Pos}
variable {tA tB':TT} {rest:List Expr}
end
end L2
namespace L2
open PySem PySem.Spec PyProof.Rows
def SqL (K:PySem.W.Frag) (H:Hp) (a:Addr) (xs:List V):Prop :=
 Rd H a (.lst xs) \/
  ∃ (o:Obj) (its:Array Value) (n:Nat),K.lookup a=some o/\o.cls=.type "list" /\ o.dict=none/\o.data=.seq its n/\its.size<=sizeLine/\Vals xs its.toList
def SqT (K:PySem.W.Frag) (H:Hp) (a:Addr) (xs:List V):Prop :=
 Rd H a (.tup xs) \/
  ∃ (o:Obj) (its:Array Value) (n:Nat),K.lookup a=some o/\o.cls=.type "tuple" /\ o.data=.seq its n/\its.size<=sizeLine/\Vals xs its.toList
def absV:Value->Option V
 | .none=>some .non
 | .bool b=>some (.bl b)
 | .int i _=>some (.int i)
 | .str x _=>some (.str x)
 | .bytes b _=>some (.byt b)
 | .float b _=>some (.flt b)
 | .ref a=>some (.ref a)
 | .type n=>some (.ty n)
 | _=>none
theorem RelV.abs {x:V} {u:Value} (r:RelV x u):absV u=some x:=by
 cases x with
 | non=>cases r;rfl
 | bl _=>cases r;rfl
 | int _=>obtain ⟨t,rfl⟩:=r;rfl
 | str _=>obtain ⟨t,rfl⟩:=r;rfl
 | byt _=>obtain ⟨t,rfl⟩:=r;rfl
 | flt _=>obtain ⟨t,rfl⟩:=r;rfl
 | ref _=>cases r;rfl
 | ty _=>cases r;rfl
theorem RelV.inj {x y:V} {u:Value} (r:RelV x u) (q:RelV y u):x=y:=Option.some.inj (r.abs.symm.trans q.abs)
theorem Vals.inj:∀ {xs ys:List V} {us:List Value},Vals xs us->Vals ys us->xs=ys
 | _,_,_,.nil,.nil=>rfl
 | _,_,_,.cons r t,.cons r' t'=>by rw [r.inj r',Vals.inj t t']
section
variable {X:Cx} {pins:List (Addr × Obj)} {σ:St} {H:Hp} {s:Shared} {a:Addr} {xs ys:List V}
theorem SqL.of {K:PySem.W.Frag} (h:H a=some (.lst xs)):SqL K H a xs:=.inl (.inl h)
theorem SqT.of {K:PySem.W.Frag} (h:H a=some (.tup xs)):SqT K H a xs:=.inl (.inl h)
theorem Inv.list (I:Inv X pins σ H s) (h:SqL X.K H a xs):∃ its:List Value,Vals xs its/\PlainL s.heap a its.toArray/\xs.length<=sizeLine:=by
 rcases h with h | ⟨o,its,n,hk,hc,hd,hs,hz,r⟩
 ·obtain ⟨z,its,n,r,e⟩:=h.ok I.hok
  exact ⟨its,r,⟨_,n,e,rfl,rfl,rfl⟩,z⟩
 ·refine ⟨its.toList,r,⟨o,n,I.kIn a o hk,hc,hd,by simpa using hs⟩,?_⟩
  have e:=r.length
  simp only [Array.length_toList] at e
  omega
theorem Inv.tuple (I:Inv X pins σ H s) (h:SqT X.K H a xs):∃ its:List Value,Vals xs its/\IsTup s.heap a its.toArray/\xs.length<=sizeLine:=by
 rcases h with h | ⟨o,its,n,hk,hc,hs,hz,r⟩
 ·obtain ⟨z,its,r,p⟩:=h.ok I.hok
  exact ⟨its,r,p,z.1⟩
 ·refine ⟨its.toList,r,⟨o,I.kIn a o hk,hc,n,by simpa using hs⟩,?_⟩
  have e:=r.length
  simp only [Array.length_toList] at e
  omega
theorem Inv.list_inj (I:Inv X pins σ H s) (h:SqL X.K H a xs) (h':SqL X.K H a ys):xs=ys:=by
 obtain ⟨its,r,⟨o,n,e,_,_,d⟩,_⟩:=I.list h
 obtain ⟨its',r',⟨o',n',e',_,_,d'⟩,_⟩:=I.list h'
 rw [e] at e';cases e'
 rw [d] at d'
 injection d' with d1 _
 have:its=its':=by simpa using congrArg Array.toList d1
 subst this
 exact r.inj r'
theorem Inv.tuple_inj (I:Inv X pins σ H s) (h:SqT X.K H a xs) (h':SqT X.K H a ys):xs=ys:=by
 obtain ⟨its,r,⟨o,e,_,n,d⟩,_⟩:=I.tuple h
 obtain ⟨its',r',⟨o',e',_,n',d'⟩,_⟩:=I.tuple h'
 rw [e] at e';cases e'
 rw [d] at d'
 injection d' with d1 _
 have:its=its':=by simpa using congrArg Array.toList d1
 subst this
 exact r.inj r'
end
abbrev Cx.wish (X:Cx) (E:Value->Shared->Prop):Cx:={ X with xe:=E }
abbrev Cx.nox (X:Cx):Cx:=X.wish fun _ _=>False
theorem Cx.Ok.wish {X:Cx} (ok:X.Ok) (E:Value->Shared->Prop):(X.wish E).Ok :=
 ⟨ok.mod,ok.kind,ok.glob,ok.blt,ok.above,ok.inj,ok.has,ok.cab,ok.hd,ok.frames,ok.stk,ok.exf,ok.bs,ok.bsz,ok.noex,ok.exfs,ok.funs,ok.frf⟩
theorem Cx.Ok.unwish {X:Cx} {E:Value->Shared->Prop} (ok:(X.wish E).Ok):X.Ok :=
 ⟨ok.mod,ok.kind,ok.glob,ok.blt,ok.above,ok.inj,ok.has,ok.cab,ok.hd,ok.frames,ok.stk,ok.exf,ok.bs,ok.bsz,ok.noex,ok.exfs,ok.funs,ok.frf⟩
section
variable {X:Cx} {pins:List (Addr × Obj)} {σ:St} {H:Hp} {s:Shared} {E:Value->Shared->Prop}
theorem Inv.wish (I:Inv X pins σ H s) (E:Value->Shared->Prop):Inv (X.wish E) pins σ H s:=⟨I.ok.wish E,I.os,I.bare,I.base,I.loc,I.cell,I.free,I.freeC,I.pin,I.hok,I.len⟩
theorem Inv.unwish (I:Inv (X.wish E) pins σ H s):Inv X pins σ H s:=⟨I.ok.unwish,I.os,I.bare,I.base,I.loc,I.cell,I.free,I.freeC,I.pin,I.hok,I.len⟩
theorem SP.unwish {D:Ends} {f:Flow} {s':Shared} (h:SP (X.wish E) pins D f s'):SP X pins D f s':=by
 cases f with
 | next=>obtain ⟨σ',H',I,q⟩:=h;exact ⟨σ',H',I.unwish,q⟩
 | brk=>obtain ⟨σ',H',I,q⟩:=h;exact ⟨σ',H',I.unwish,q⟩
 | cont=>obtain ⟨σ',H',I,q⟩:=h;exact ⟨σ',H',I.unwish,q⟩
 | ret u=>obtain ⟨v,σ',H',I,r,q⟩:=h;exact ⟨v,σ',H',I.unwish,r,q⟩
theorem PSs.nox {st:List Stmt} {t:TS} (h:PSs X.nox st t):PSs X st t:=fun pins s σ H D I hw =>
 wpAny_mono (h pins s σ H D (I.wish _) hw) (fun _ _ q=>q.unwish) fun _ _ z=>False.elim z
end
section
variable {X:Cx} {st:Stmt} {rest:List Stmt} {t u:TS} {e:Expr} {te:TE} {pos:Pos}
theorem Inv.quiet {pins:List (Addr × Obj)} {σ:St} {H:Hp} {s:Shared} (I:Inv X pins σ H s):interactive X.env=false:=by simp [interactive,I.ok.kind]
end
abbrev TSet:=V->V->V->Hp->(Hp->Prop)->Prop
def PSet (X:Cx) (t:TSet):Prop :=
 ∀ (pins:List (Addr × Obj)) (s:Shared) (σ:St) (H:Hp) (o i v:V) (ov iv u:Value) (Q:Hp->Prop),Inv X pins σ H s->RelV o ov->RelV i iv->RelV v u->t o i v H Q ->
  wpAny (model X.prog X.w) X.A (setItem ov iv u) (fun _ s'=>∃ H',Inv X pins σ H' s'/\Q H') X.xe s
section
variable {X:Cx} {pos:Pos}
end
section
variable {X:Cx} {pos:Pos}
end
structure It where
 go:Nat->Hp->Prop
 yld:Nat->Hp->V->Hp->Prop
 stop:Nat->Hp->Prop
def FpOk (X:Cx) (pins:List (Addr × Obj)) (H:Hp) (b:Addr):Prop :=
 H b=none/\b≠X.env.locals/\b∉X.fs/\(b∈X.ex\/X.s₀.heap.objs.size<=b)/\(∀ x c,X.env.cells.lookup x=some c->c≠b)/\∀ p∈X.pn++pins,p.1≠b
theorem Inv.fpOk {X:Cx} {pins:List (Addr × Obj)} {σ:St} {H H':Hp} {s:Shared} {b:Addr} (I:Inv X pins σ H s) (hb:s.heap.objs.size<=b) (hn:H' b=none):FpOk X pins H' b:=by
 refine ⟨hn,Nat.ne_of_gt (Nat.lt_of_lt_of_le I.lt hb),I.nofs hb,.inr (Nat.le_trans I.sz hb),fun x c e z=>?_,fun p hp z=>?_⟩
 ·obtain ⟨v,q⟩:=I.cell x c e
  exact absurd (Nat.lt_of_lt_of_le q.lt (by rw [z];exact hb)) (Nat.lt_irrefl _)
 ·exact absurd (Nat.lt_of_lt_of_le (Heap.lt_size (I.pin p hp).1) (by rw [z];exact hb)) (Nat.lt_irrefl _)
structure Turn (P:Program) (w:World) (K:PySem.W.Frag) (tg:Expr) (J:It) (fp:List Addr) (it:Addr) (tn:Nat->Heap->Prop):Prop where
 mem:it∈fp
 obj:∀ i h,tn i h->∀ b∈fp,∃ o,h.get? b=some o/\∀ v,o.data≠.cell v
 keep:∀ i h h',tn i h->(∀ b∈fp,∀ o,h.get? b=some o->h'.get? b=some o)->tn i h'
 item:∀ (X:Cx),X.prog=P->X.w=w->X.K=K->X.calm=true->∀ (i:Nat) (pins:List (Addr × Obj)) (s:Shared) (σ:St) (H:Hp) (E:Value->Shared->Prop),Inv X pins σ H s->(∀ b∈fp,FpOk X pins H b)->tn i s.heap->J.go i H ->
  wpAny (model P w) X.A (pyNext (.ref it)) (fun r s1=>∃ u,r=some u /\
   wpAny (model P w) X.A (letOwnedTupleGo tg (.ref it) u) (fun _ s2=>∃ x H',Inv X pins σ H' s2/\RelV x u/\J.yld i H x H'/\tn (i+1) s2.heap/\∀ b∈fp,H' b=none) E s1) E s
 done:∀ (X:Cx),X.prog=P->X.w=w->X.K=K->X.calm=true->∀ (i:Nat) (pins:List (Addr × Obj)) (s:Shared) (σ:St) (H:Hp) (E:Value->Shared->Prop),Inv X pins σ H s->(∀ b∈fp,FpOk X pins H b)->tn i s.heap->J.stop i H ->
  wpAny (model P w) X.A (pyNext (.ref it)) (fun r s1=>r=none/\Inv X pins σ H s1) E s
 self:∀ (A:Around) (i:Nat) (s:Shared) (Q:Value->Shared->Prop) (E:Value->Shared->Prop),tn i s.heap->Q (.ref it) s->wpAny (model P w) A (pyIter (.ref it)) Q E s
abbrev TI:=St->Hp->(It->Hp->Prop)->Prop
def PIE (X:Cx) (pins:List (Addr × Obj)) (σ:St) (tg:Expr) (R:It->Hp->Prop) (itv:Value) (s2:Shared):Prop :=
 ∃ (it:Addr) (fp:List Addr) (tn:Nat->Heap->Prop) (J:It) (H':Hp),itv=.ref it/\Inv X pins σ H' s2/\Turn X.prog X.w X.K tg J fp it tn/\tn 0 s2.heap/\(∀ b∈fp,FpOk X pins H' b)/\R J H'
def PI (X:Cx) (tg iter:Expr) (wi:TI):Prop :=
 ∀ (pins:List (Addr × Obj)) (s:Shared) (σ:St) (H:Hp) (R:It->Hp->Prop),Inv X pins σ H s->wi σ H R ->
  wpAny (model X.prog X.w) X.A (eval iter X.env) (fun v s1=>wpAny (model X.prog X.w) X.A (pyIter v) (PIE X pins σ tg R) X.xe s1) X.xe s
theorem go_of {M : Model} {A : Around} {E : Value → Shared → Prop} {s : Shared} {tg : Expr} {it : Addr} {u : Value} {o : Obj} {n : String} {vs : Array Value} {Q : Unit → Shared → Prop} (ho : s.heap.get? it = some o) (hc : o.cls = .type n) (hd : o.data = .fields vs)
    (hn : ["enumerate", "zip", "dict_itemiterator", "dict_reverseitemiterator", "odict_iterator", "itertools.zip_longest", "itertools.pairwise"].contains n = false) (hQ : Q () s) : wpAny M A (letOwnedTupleGo tg (.ref it) u) Q E s := by
  unfold letOwnedTupleGo
  cases tg <;> first
    | exact wpAny_pure hQ
    | (cases u <;> first
        | exact wpAny_pure hQ
        | (refine wpAny_bind (wpAny_load ho ?_)
           rw [hc, hd]
           show wpAny M A (if (["enumerate", "zip", "dict_itemiterator", "dict_reverseitemiterator", "odict_iterator", "itertools.zip_longest", "itertools.pairwise"].contains n && vs[0]? == some (rawInt _)) = true then _ else _) Q E s
           rw [if_neg (by intro h; rw [hn, Bool.false_and] at h; cases h)]
           exact wpAny_pure hQ))
def Itl (K:PySem.W.Frag) (a:Addr):It :=
 ⟨fun i H=>∃ xs x,SqL K H a xs/\xs[i]?=some x,fun i H x H'=>H'=H/\∀ xs,SqL K H a xs->xs[i]?=some x,fun i H=>∃ xs,SqL K H a xs/\xs.length<=i⟩
def Itt (K:PySem.W.Frag) (a:Addr):It :=
 ⟨fun i H=>∃ xs x,SqT K H a xs/\xs[i]?=some x,fun i H x H'=>H'=H/\∀ xs,SqT K H a xs->xs[i]?=some x,fun i H=>∃ xs,SqT K H a xs/\xs.length<=i⟩
def Itr (lo:Int) (n:Nat):It:=⟨fun i _=>i < n,fun i H x H'=>H'=H/\x=.int (lo+i),fun i _=>n<=i⟩
theorem turn_list {P:Program} {w:World} {K:PySem.W.Frag} {tg:Expr} (a it:Addr):Turn P w K tg (Itl K a) [it] it (fun i h=>h.IsListIter it a i) where
 mem:=by simp
 obj:=fun i h st b hb=>by
  have e:b=it:=by simpa using hb
  subst e
  obtain ⟨o,e,c,d⟩:=st
  exact ⟨o,e,fun v z=>by rw [d] at z;cases z⟩
 keep:=fun i h h' st k=>st.at fun o e=>k it (by simp) o e
 item:=by
  intro X hP hw hK hc i pins s σ H E I hf st hg
  subst hP hw hK
  obtain ⟨xs,x,hq,hx⟩:=hg
  obtain ⟨its,rv,p,hz⟩:=I.list hq
  obtain ⟨u,hu,ru⟩:=rv.get hx
  obtain ⟨f0,f1,f2,f3,f4,f5⟩:=hf it (by simp)
  refine wpAny_pyNext_list_item st p.isList (x:=u) (by simpa using hu) fun h' st' sb=>?_
  have I1:Inv X pins σ H { s with heap:=h' }:=I.turned (t':=s.toks) (fun b o hb e=>(sb.2 b hb).trans e) f0 f1 f3 f4 f5
  obtain ⟨o,e,c,d⟩:=id st'
  exact ⟨u,rfl,go_of (s:={ s with heap:=h' }) e c d (by decide) ⟨x,H,I1,ru,⟨rfl,fun ys hy=>by rw [I.list_inj hy hq];exact hx⟩,st',fun b hb=>(hf b hb).1⟩⟩
 done:=by
  intro X hP hw hK hc i pins s σ H E I hf st hg
  subst hP hw hK
  obtain ⟨xs,hq,hx⟩:=hg
  obtain ⟨its,rv,p,hz⟩:=I.list hq
  obtain ⟨f0,f1,f2,f3,f4,f5⟩:=hf it (by simp)
  have hl:=rv.length
  exact wpAny_pyNext_list_end (I.ok.hd hc) st p.isList (by simp;omega) fun h' eb=>⟨rfl,I.turned (t':=s.toks) (fun b o hb e=>eb b o hb e) f0 f1 f3 f4 f5⟩
 self:=fun _ _ _ _ _ st h=>wpAny_pyIter_listiter st h
theorem turn_tuple {P:Program} {w:World} {K:PySem.W.Frag} {tg:Expr} (a it:Addr):Turn P w K tg (Itt K a) [it] it (fun i h=>h.IsTupleIter it a i) where
 mem:=by simp
 obj:=fun i h st b hb=>by
  have e:b=it:=by simpa using hb
  subst e
  obtain ⟨o,e,c,d⟩:=st
  exact ⟨o,e,fun v z=>by rw [d] at z;cases z⟩
 keep:=fun i h h' st k=>st.at fun o e=>k it (by simp) o e
 item:=by
  intro X hP hw hK hc i pins s σ H E I hf st hg
  subst hP hw hK
  obtain ⟨xs,x,hq,hx⟩:=hg
  obtain ⟨its,rv,p,hz⟩:=I.tuple hq
  obtain ⟨u,hu,ru⟩:=rv.get hx
  obtain ⟨f0,f1,f2,f3,f4,f5⟩:=hf it (by simp)
  refine wpAny_pyNext_tuple_item st (show s.heap.IsTuple a its.toArray from p) (x:=u) (by simpa using hu) fun h' st' sb=>?_
  have I1:Inv X pins σ H { s with heap:=h' }:=I.turned (t':=s.toks) (fun b o hb e=>(sb.2 b hb).trans e) f0 f1 f3 f4 f5
  obtain ⟨o,e,c,d⟩:=id st'
  exact ⟨u,rfl,go_of (s:={ s with heap:=h' }) e c d (by decide) ⟨x,H,I1,ru,⟨rfl,fun ys hy=>by rw [I.tuple_inj hy hq];exact hx⟩,st',fun b hb=>(hf b hb).1⟩⟩
 done:=by
  intro X hP hw hK hc i pins s σ H E I hf st hg
  subst hP hw hK
  obtain ⟨xs,hq,hx⟩:=hg
  obtain ⟨its,rv,p,hz⟩:=I.tuple hq
  obtain ⟨f0,f1,f2,f3,f4,f5⟩:=hf it (by simp)
  have hl:=rv.length
  exact wpAny_pyNext_tuple_end (I.ok.hd hc) st (show s.heap.IsTuple a its.toArray from p) (by simp;omega) fun h' eb=>⟨rfl,I.turned (t':=s.toks) (fun b o hb e=>eb b o hb e) f0 f1 f3 f4 f5⟩
 self:=fun _ _ _ _ _ st h=>wpAny_pyIter_tupleiter st h
theorem turn_range {P:Program} {w:World} {K:PySem.W.Frag} {tg:Expr} (it:Addr) (lo:Int) (n:Nat):Turn P w K tg (Itr lo n) [it] it (fun i h=>IsRangeIter h it (lo+(i:Nat) * 1) ((n:Int) - (i:Nat)) 1) where
 mem:=by simp
 obj:=fun i h st b hb=>by
  have e:b=it:=by simpa using hb
  subst e
  exact ⟨_,st,fun v z=>by
   have z':Data.fields _=Data.cell v:=z
   cases z'⟩
 keep:=fun i h h' st k=>k it (by simp) _ st
 item:=by
  intro X hP hw hK hc i pins s σ H E I hf st hg
  subst hP hw hK
  obtain ⟨f0,f1,f2,f3,f4,f5⟩:=hf it (by simp)
  have W:=Walks.range (prog:=X.prog) (w:=X.w) (I.ok.hd hc) it lo 1 n
  refine W.item i s _ _ hg st fun v h' tk hv st' kk=>?_
  obtain ⟨t,rfl⟩:=hv
  have I1:Inv X pins σ H { s with heap:=h',toks:=tk }:=I.turned (fun b o hb e=>kk b o (by simpa using hb) e) f0 f1 f3 f4 f5
  refine ⟨_,rfl,go_of (s:={ s with heap:=h',toks:=tk }) (n := "range_iterator") st' rfl rfl (by decide) ⟨.int (lo+i),H,I1,⟨t,?_⟩,⟨rfl,rfl⟩,st',fun b hb=>(hf b hb).1⟩⟩
  rw [Int.mul_one]
 done:=by
  intro X hP hw hK hc i pins s σ H E I hf st hg
  subst hP hw hK
  obtain ⟨f0,f1,f2,f3,f4,f5⟩:=hf it (by simp)
  exact wpAny_pyNext_range_end (I.ok.hd hc) st (by have:n<=i:=hg;omega) fun h' eb=>⟨rfl,I.turned (t':=s.toks) (fun b o hb e=>eb b o hb e) f0 f1 f3 f4 f5⟩
 self:=fun _ _ _ _ _ st h=>wpAny_pyIter_rangeiter st h
end L2
namespace L2
open PySem PySem.Spec PyProof.Rows
section
variable {X:Cx} {tg:Expr}
def iList (K:PySem.W.Frag) (tl:TE):TI:=fun σ H R=>tl σ H fun x H1=>∃ a,x=.ref a/\(∃ xs,SqL K H1 a xs)/\R (Itl K a) H1
def iTup (K:PySem.W.Frag) (tl:TE):TI:=fun σ H R=>tl σ H fun x H1=>∃ a,x=.ref a/\(∃ xs,SqT K H1 a xs)/\R (Itt K a) H1
theorem pi_list {l:Expr} {tl:TE} (hl:PE X l tl):PI X tg l (iList X.K tl):=by
 intro pins s σ H R I h
 refine thn (hl pins s σ H _ I h) fun v s1 ⟨x,H1,I1,r1,q1⟩=>?_
 obtain ⟨a,e,⟨xs,hq⟩,q⟩:=q1
 subst e
 cases r1
 obtain ⟨its,rv,p,hz⟩:=I1.list hq
 refine wpAny_pyIter_list p.isList ?_
 refine ⟨s1.heap.objs.size,[s1.heap.objs.size],_,_,H1,rfl,I1.kept (t':=s1.toks) fun b o e=>Heap.get?_push_of_some _ e,turn_list a _,⟨_,Heap.get?_push_size _ rfl,rfl,rfl⟩,fun b hb=>?_,q⟩
 have e:b=s1.heap.objs.size:=by simpa using hb
 subst e
 exact I1.fpOk (Nat.le_refl _) (I1.hok.fresh (Nat.le_refl _))
theorem pi_tup {l:Expr} {tl:TE} (hl:PE X l tl):PI X tg l (iTup X.K tl):=by
 intro pins s σ H R I h
 refine thn (hl pins s σ H _ I h) fun v s1 ⟨x,H1,I1,r1,q1⟩=>?_
 obtain ⟨a,e,⟨xs,hq⟩,q⟩:=q1
 subst e
 cases r1
 obtain ⟨its,rv,p,hz⟩:=I1.tuple hq
 refine wpAny_pyIter_tuple (show s1.heap.IsTuple a its.toArray from p) ?_
 refine ⟨s1.heap.objs.size,[s1.heap.objs.size],_,_,H1,rfl,I1.kept (t':=s1.toks) fun b o e=>Heap.get?_push_of_some _ e,turn_tuple a _,⟨_,Heap.get?_push_size _ rfl,rfl,rfl⟩,fun b hb=>?_,q⟩
 have e:b=s1.heap.objs.size:=by simpa using hb
 subst e
 exact I1.fpOk (Nat.le_refl _) (I1.hok.fresh (Nat.le_refl _))
theorem range_it {pins:List (Addr × Obj)} {σ:St} {H:Hp} {s:Shared} {R:It->Hp->Prop} {E:Value->Shared->Prop} {lo hi:Int} {t u v:Tok} {tk:Nat} (I:Inv X pins σ H s) (h1:-(2 ^ 62)<=lo) (h2:lo < 2 ^ 62) (h3:-(2 ^ 62)<=hi) (h4:hi < 2 ^ 62)
  (q:R (Itr lo (hi - lo).toNat) H):wpAny (model X.prog X.w) X.A (pyIter (.ref s.heap.objs.size)) (PIE X pins σ tg R) E { s with heap:=s.heap.push { cls:=.type "range",data:=.fields #[.int lo t,.int hi u,.int 1 v] },toks:=tk }:=by
 refine wpAny_pyIter_range (IsRange.new ..) (small_one h1 h2 h3 h4) ?_
 have I1:Inv X pins σ H { s with heap:=s.heap.push { cls:=.type "range",data:=.fields #[.int lo t,.int hi u,.int 1 v] },toks:=tk }:=I.kept fun b o e=>Heap.get?_push_of_some _ e
 refine ⟨(s.heap.push { cls:=.type "range",data:=.fields #[.int lo t,.int hi u,.int 1 v] }).objs.size,[(s.heap.push { cls:=.type "range",data:=.fields #[.int lo t,.int hi u,.int 1 v] }).objs.size],_,_,H,rfl,
  I1.kept (t':=tk) fun b o e=>Heap.get?_push_of_some _ e,turn_range _ lo (hi - lo).toNat,?_,fun b hb=>?_,q⟩
 ·have e1:lo+((0:Nat):Int) * 1=lo:=by simp
  have e2:(((hi - lo).toNat:Nat):Int) - ((0:Nat):Int)=Builtin.Range.rangeSize lo hi 1:=by rw [rangeSize_one];split<;>omega
  show IsRangeIter _ _ (lo+((0:Nat):Int) * 1) ((((hi - lo).toNat:Nat):Int) - ((0:Nat):Int)) 1
  rw [e1,e2]
  exact Heap.get?_push_size _ rfl
 ·have e:b=(s.heap.push { cls:=.type "range",data:=.fields #[.int lo t,.int hi u,.int 1 v] }).objs.size:=by simpa using hb
  subst e
  exact I1.fpOk (Nat.le_refl _) (I1.hok.fresh (Nat.le_refl _))
def iRng1 (ta:TA):TI:=fun σ H R=>ta σ H fun vs H1=>∃ j:Int,vs=[.int j]/\-(2 ^ 62)<=j/\j < 2 ^ 62/\R (Itr 0 j.toNat) H1
theorem pi_range1 {a:Expr} {ta:TA} {p pos:Pos} (hg:Gl X "range") (hm:X.mg "range" = none) (ha:PA X [a] ta) (hs:starEach [a] X.env=[(false,eval a X.env)]:=by rfl):PI X tg (.Call (.Name "range" p) [a] [] pos) (iRng1 ta):=by
 intro pins s σ H R I h
 refine Call_ (ld_blt I hg hm boot_range (PyProof.Rows.callWith_type1 (thn (ha pos pins s σ H _ I h) fun us s1 ⟨vs,H1,I1,r1,q1⟩=>?_) hs rfl))
 obtain ⟨j,e,q1,q2,q⟩:=q1
 subst e
 cases r1 with
 | cons r rr =>
  cases rr
  obtain ⟨t,rfl⟩:=r
  exact call_range_1 (range_it I1 (by omega) (by omega) q1 q2 (by simpa using q))
def pinsAt (fp:List Addr) (h:Heap):List (Addr × Obj):=fp.filterMap fun b=>(h.get? b).map fun o=>(b,o)
theorem mem_pinsAt {fp:List Addr} {h:Heap} {b:Addr} {o:Obj} (hb:b∈fp) (e:h.get? b=some o):(b,o)∈pinsAt fp h:=List.mem_filterMap.mpr ⟨b,hb,by rw [e];rfl⟩
theorem of_pinsAt {fp:List Addr} {h:Heap} {p:Addr × Obj} (hp:p∈pinsAt fp h):p.1∈fp/\h.get? p.1=some p.2:=by
 obtain ⟨b,hb,e⟩:=List.mem_filterMap.mp hp
 cases q:h.get? b with
 | none=>rw [q] at e;cases e
 | some o =>
  rw [q] at e
  have e':(b,o)=p:=Option.some.inj e
  subst e'
  exact ⟨hb,q⟩
theorem Inv.pinned {pins:List (Addr × Obj)} {σ:St} {H:Hp} {s:Shared} {fp:List Addr} (I:Inv X pins σ H s) (hf:∀ b∈fp,FpOk X pins H b) (ho:∀ b∈fp,∃ o,s.heap.get? b=some o/\∀ v,o.data≠.cell v):Inv X (pins++pinsAt fp s.heap) σ H s :=
 I.pins_of fun p hp=>(List.mem_append.mp hp).elim (fun z=>I.pin p (List.mem_append_right _ z)) fun z=>by
  obtain ⟨hb,e⟩:=of_pinsAt z
  obtain ⟨f0,f1,f2,_⟩:=hf p.1 hb
  obtain ⟨o,e',d⟩:=ho p.1 hb
  rw [e] at e';cases e'
  exact ⟨e,f0,f1,f2,d⟩
theorem Inv.unpinned {pins pl:List (Addr × Obj)} {σ:St} {H:Hp} {s:Shared} (I:Inv X (pins++pl) σ H s):Inv X pins σ H s:=I.pins_of fun p hp=>I.pin p (List.mem_append_right _ (List.mem_append_left _ hp))
end
end L2
namespace L2
open PySem PySem.Spec PyProof.Rows
abbrev R2:=V->V->Hp->VK->Prop
def OpR (X:Cx) (f:Value->Value->Sem Value) (r:R2):Prop :=
 ∀ (pins:List (Addr × Obj)) (s:Shared) (σ:St) (H:Hp) (x y:V) (v u:Value) (Q:VK),Inv X pins σ H s->RelV x v->RelV y u->r x y H Q ->
  wpAny (model X.prog X.w) X.A (f v u) (EP X pins σ Q) X.xe s
def UnR (X:Cx) (f:Value->Sem Value) (r:V->Hp->VK->Prop):Prop :=
 ∀ (pins:List (Addr × Obj)) (s:Shared) (σ:St) (H:Hp) (x:V) (v:Value) (Q:VK),Inv X pins σ H s->RelV x v->r x H Q ->
  wpAny (model X.prog X.w) X.A (f v) (EP X pins σ Q) X.xe s
def CallR (X:Cx) (f:Value) (r:List V->Hp->VK->Prop):Prop :=
 ∀ (pins:List (Addr × Obj)) (s:Shared) (σ:St) (H:Hp) (xs:List V) (us:List Value) (Q:VK),Inv X pins σ H s->Vals xs us->r xs H Q ->
  wpAny (model X.prog X.w) X.A (call f us) (EP X pins σ Q) X.xe s
def TruR (X:Cx) (r:V->Hp->(Bool->Hp->Prop)->Prop):Prop :=
 ∀ (pins:List (Addr × Obj)) (s:Shared) (σ:St) (H:Hp) (x:V) (v:Value) (Q:Bool->Hp->Prop),Inv X pins σ H s->RelV x v->r x H Q ->
  wpAny (model X.prog X.w) X.A (truthy v) (TP X pins σ Q) X.xe s
def rI (C:Int->Int->Prop) (g:Int->Int->V):R2:=fun x y H Q=>∃ i j,x=.int i/\y=.int j/\C i j/\Q (g i j) H
def rI0 (g:Int->Int->V):R2:=fun x y H Q=>∃ i j,x=.int i/\y=.int j/\Q (g i j) H
def rU (g:Int->V):V->Hp->VK->Prop:=fun x H Q=>∃ i,x=.int i/\Q (g i) H
section
variable {X:Cx} {a b c:Expr} {ta tb tc:TE} {pos:Pos}
theorem opI {f:Value->Value->Sem Value} {C:Int->Int->Prop} {g:Int->Int->Int}
  (rule:∀ (i j:Int) (t u:Tok) (s:Shared) (Q:Value->Shared->Prop) (E:Value->Shared->Prop),C i j->Q (.int (g i j) s.toks) { s with toks:=s.toks+1 }->wpAny (model X.prog X.w) X.A (f (.int i t) (.int j u)) Q E s) :
  OpR X f (rI C fun i j=>.int (g i j)):=by
 intro pins s σ H x y v u Q I rx ry h
 obtain ⟨i,j,rfl,rfl,hc,q⟩:=h
 obtain ⟨t,rfl⟩:=rx
 obtain ⟨t',rfl⟩:=ry
 exact rule i j t t' s _ _ hc ⟨.int (g i j),H,I.tok _,⟨_,rfl⟩,q⟩
theorem opI0 {f:Value->Value->Sem Value} {g:Int->Int->Int}
  (rule:∀ (i j:Int) (t u:Tok) (s:Shared) (Q:Value->Shared->Prop) (E:Value->Shared->Prop),Q (.int (g i j) s.toks) { s with toks:=s.toks+1 }->wpAny (model X.prog X.w) X.A (f (.int i t) (.int j u)) Q E s) :
  OpR X f (rI0 fun i j=>.int (g i j)):=by
 intro pins s σ H x y v u Q I rx ry h
 obtain ⟨i,j,rfl,rfl,q⟩:=h
 obtain ⟨t,rfl⟩:=rx
 obtain ⟨t',rfl⟩:=ry
 exact rule i j t t' s _ _ ⟨.int (g i j),H,I.tok _,⟨_,rfl⟩,q⟩
theorem opB0 {f:Value->Value->Sem Value} {g:Int->Int->Bool}
  (rule:∀ (i j:Int) (t u:Tok) (s:Shared) (Q:Value->Shared->Prop) (E:Value->Shared->Prop),Q (.bool (g i j)) s->wpAny (model X.prog X.w) X.A (f (.int i t) (.int j u)) Q E s) :
  OpR X f (rI0 fun i j=>.bl (g i j)):=by
 intro pins s σ H x y v u Q I rx ry h
 obtain ⟨i,j,rfl,rfl,q⟩:=h
 obtain ⟨t,rfl⟩:=rx
 obtain ⟨t',rfl⟩:=ry
 exact rule i j t t' s _ _ ⟨.bl (g i j),H,I,rfl,q⟩
def CPow (i j:Int):Prop:=0<=j/\j<=1000000/\i.natAbs < 2 ^ 64
theorem op_add:OpR X (binaryOp .Add) (rI0 fun i j=>.int (i+j)):=opI0 fun _ _ _ _ _ _ _ q=>add_int q
theorem op_sub:OpR X (binaryOp .Sub) (rI0 fun i j=>.int (i - j)):=opI0 fun _ _ _ _ _ _ _ q=>sub_int q
theorem op_modN:OpR X (binaryOp .Mod) (rI (fun _ j=>j≠0) fun i j=>.int (i.fmod j)):=opI fun _ _ _ _ _ _ _ hc q=>mod_int' hc q
theorem op_pow:OpR X (binaryOp .Pow) (rI CPow fun i j=>.int (i ^ j.toNat)):=opI fun _ _ _ _ _ _ _ hc q=>pow_int_small hc.1 hc.2.1 hc.2.2 q
theorem unI {f:Value->Sem Value} {g:Int->Int}
  (rule:∀ (i:Int) (t:Tok) (s:Shared) (Q:Value->Shared->Prop) (E:Value->Shared->Prop),Q (.int (g i) s.toks) { s with toks:=s.toks+1 }->wpAny (model X.prog X.w) X.A (f (.int i t)) Q E s) :
  UnR X f (rU fun i=>.int (g i)):=by
 intro pins s σ H x v Q I rx h
 obtain ⟨i,rfl,q⟩:=h
 obtain ⟨t,rfl⟩:=rx
 exact rule i t s _ _ ⟨.int (g i),H,I.tok _,⟨_,rfl⟩,q⟩
theorem un_neg:UnR X (unaryOp .USub) (rU fun i=>.int (-i)):=unI fun _ _ _ _ _ q=>neg_int q
end
def scal:V->V->Bool
 | .non,.non=>true | .non,.int _=>true | .int _,.non=>true | .non,.bl _=>true | .bl _,.non=>true | .non,.str _=>true | .str _,.non=>true
 | .int _,.int _=>true | .bl _,.bl _=>true | .str _,.str _=>true | .byt _,.byt _=>true
 | .int _,.str _=>true | .str _,.int _=>true | .bl _,.str _=>true | .str _,.bl _=>true
 | _,_=>false
def rEq:R2:=fun x y H Q=>scal x y=true/\Q (.bl (decide (x=y))) H
def rNe:R2:=fun x y H Q=>scal x y=true/\Q (.bl (!decide (x=y))) H
theorem dec_int {i j:Int}:decide (V.int i=V.int j)=(i == j):=by
 rw [Bool.eq_iff_iff]
 simp
theorem dec_bl {i j:Bool}:decide (V.bl i=V.bl j)=(i == j):=by
 rw [Bool.eq_iff_iff]
 simp
theorem dec_str {i j:Str}:decide (V.str i=V.str j)=(i == j):=by
 rw [Bool.eq_iff_iff]
 simp
theorem dec_byt {i j:Array UInt8}:decide (V.byt i=V.byt j)=(i.toList == j.toList):=by
 rw [Bool.eq_iff_iff]
 cases i
 cases j
 simp
section
variable {X:Cx} {a b c:Expr} {ta tb tc:TE} {pos:Pos}
theorem fin_bl {pins:List (Addr × Obj)} {σ:St} {H:Hp} {s:Shared} {Q:VK} {k k':Bool} (I:Inv X pins σ H s) (q:Q (.bl k) H) (e:k=k'):EP X pins σ Q (.bool k') s:=by
 subst e
 exact ⟨.bl k,H,I,rfl,q⟩
theorem op_eq:OpR X (compareOp .Eq) rEq:=by
 intro pins s σ H x y v u Q I rx ry h
 obtain ⟨hs,q⟩:=h
 cases x with
 | non =>
  cases rx
  cases y with
  | non=>cases ry;exact PySem.EqNone.eq_none_none (fin_bl I q (by simp))
  | bl j=>cases ry;exact PySem.EqNone.eq_none_bool (fin_bl I q (by simp))
  | int j=>obtain ⟨t',rfl⟩:=ry;exact PySem.EqNone.eq_none_int (fin_bl I q (by simp))
  | str j=>obtain ⟨t',rfl⟩:=ry;exact PySem.EqNone.eq_none_str (fin_bl I q (by simp))
  | _=>exact absurd (show false=true from hs) Bool.false_ne_true
 | bl i =>
  cases rx
  cases y with
  | non=>cases ry;exact PySem.EqNone.eq_bool_none (fin_bl I q (by simp))
  | bl j=>cases ry;exact eq_bool (fin_bl I q dec_bl)
  | str j=>obtain ⟨t',rfl⟩:=ry;exact PySem.EqMixed.eq_bool_str (fin_bl I q (by simp))
  | _=>exact absurd (show false=true from hs) Bool.false_ne_true
 | int i =>
  obtain ⟨t,rfl⟩:=rx
  cases y with
  | non=>cases ry;exact PySem.EqNone.eq_int_none (fin_bl I q (by simp))
  | int j=>obtain ⟨t',rfl⟩:=ry;exact eq_int (fin_bl I q dec_int)
  | str j=>obtain ⟨t',rfl⟩:=ry;exact PySem.EqMixed.eq_int_str (fin_bl I q (by simp))
  | _=>exact absurd (show false=true from hs) Bool.false_ne_true
 | str i =>
  obtain ⟨t,rfl⟩:=rx
  cases y with
  | non=>cases ry;exact PySem.EqNone.eq_str_none (fin_bl I q (by simp))
  | bl j=>cases ry;exact PySem.EqMixed.eq_str_bool (fin_bl I q (by simp))
  | int j=>obtain ⟨t',rfl⟩:=ry;exact PySem.EqMixed.eq_str_int (fin_bl I q (by simp))
  | str j=>obtain ⟨t',rfl⟩:=ry;exact eq_str (fin_bl I q dec_str)
  | _=>exact absurd (show false=true from hs) Bool.false_ne_true
 | byt i =>
  obtain ⟨t,rfl⟩:=rx
  cases y with
  | byt j=>obtain ⟨t',rfl⟩:=ry;exact PySem.W.eq_bytes (fin_bl I q dec_byt)
  | _=>exact absurd (show false=true from hs) Bool.false_ne_true
 | _=>cases y<;>exact absurd (show false=true from hs) Bool.false_ne_true
theorem op_ne:OpR X (compareOp .NotEq) rNe:=by
 intro pins s σ H x y v u Q I rx ry h
 obtain ⟨hs,q⟩:=h
 cases x with
 | non =>
  cases rx
  cases y with
  | non=>cases ry;exact PySem.EqNone.ne_none_none (fin_bl I q (by simp))
  | bl j=>cases ry;exact PySem.EqNone.ne_none_bool (fin_bl I q (by simp))
  | int j=>obtain ⟨t',rfl⟩:=ry;exact PySem.EqNone.ne_none_int (fin_bl I q (by simp))
  | str j=>obtain ⟨t',rfl⟩:=ry;exact PySem.EqNone.ne_none_str (fin_bl I q (by simp))
  | _=>exact absurd (show false=true from hs) Bool.false_ne_true
 | bl i =>
  cases rx
  cases y with
  | non=>cases ry;exact PySem.EqNone.ne_bool_none (fin_bl I q (by simp))
  | bl j=>cases ry;exact ne_bool (fin_bl I q (congrArg not dec_bl))
  | str j=>obtain ⟨t',rfl⟩:=ry;exact PySem.EqMixed.ne_bool_str (fin_bl I q (by simp))
  | _=>exact absurd (show false=true from hs) Bool.false_ne_true
 | int i =>
  obtain ⟨t,rfl⟩:=rx
  cases y with
  | non=>cases ry;exact PySem.EqNone.ne_int_none (fin_bl I q (by simp))
  | int j=>obtain ⟨t',rfl⟩:=ry;exact ne_int (fin_bl I q (congrArg not dec_int))
  | str j=>obtain ⟨t',rfl⟩:=ry;exact PySem.EqMixed.ne_int_str (fin_bl I q (by simp))
  | _=>exact absurd (show false=true from hs) Bool.false_ne_true
 | str i =>
  obtain ⟨t,rfl⟩:=rx
  cases y with
  | non=>cases ry;exact PySem.EqNone.ne_str_none (fin_bl I q (by simp))
  | bl j=>cases ry;exact PySem.EqMixed.ne_str_bool (fin_bl I q (by simp))
  | int j=>obtain ⟨t',rfl⟩:=ry;exact PySem.EqMixed.ne_str_int (fin_bl I q (by simp))
  | str j=>obtain ⟨t',rfl⟩:=ry;exact ne_str (fin_bl I q (congrArg not dec_str))
  | _=>exact absurd (show false=true from hs) Bool.false_ne_true
 | byt i =>
  obtain ⟨t,rfl⟩:=rx
  cases y with
  | byt j=>obtain ⟨t',rfl⟩:=ry;exact PySem.W.ne_bytes (fin_bl I q (congrArg not dec_byt))
  | _=>exact absurd (show false=true from hs) Bool.false_ne_true
 | _=>cases y<;>exact absurd (show false=true from hs) Bool.false_ne_true
theorem op_lt:OpR X (compareOp .Lt) (rI0 fun i j=>.bl (decide (i < j))):=opB0 fun _ _ _ _ _ _ _ q=>lt_int q
theorem op_le:OpR X (compareOp .LtE) (rI0 fun i j=>.bl (decide (i<=j))):=opB0 fun _ _ _ _ _ _ _ q=>le_int q
theorem op_gt:OpR X (compareOp .Gt) (rI0 fun i j=>.bl (decide (j < i))):=opB0 fun _ _ _ _ _ _ _ q=>gt_int q
theorem op_notN:OpR X (compareOp .IsNot) (fun x y H Q=>y=.non/\Q (.bl (!decide (x=.non))) H):=by
 intro pins s σ H x y v u Q I rx ry h
 obtain ⟨rfl,q⟩:=h
 cases ry
 refine isnot_none_gen (fin_bl I q ?_)
 cases x<;>first
  | (cases rx;rfl)
  | (obtain ⟨t,rfl⟩:=rx;rfl)
theorem OpR.or {f:Value->Value->Sem Value} {r r':R2} (h:OpR X f r) (h':OpR X f r'):OpR X f (fun x y H Q=>r x y H Q\/r' x y H Q):=by
 intro pins s σ H x y v u Q I rx ry q
 rcases q with q | q
 ·exact h pins s σ H x y v u Q I rx ry q
 ·exact h' pins s σ H x y v u Q I rx ry q
theorem nomark (b:Expr) {op:CmpOp} (h:op≠.In:=by decide) (h2:op≠.NotIn:=by decide):behindInMarks op b=false:=by
 have e1:(op == CmpOp.In)=false:=by cases op<;>first | rfl | exact absurd rfl h
 have e2:(op == CmpOp.NotIn)=false:=by cases op<;>first | rfl | exact absurd rfl h2
 cases b<;>simp [behindInMarks,e1,e2]
def TruV (K:PySem.W.Frag) (x:V) (H:Hp) (k:Bool):Prop :=
 match x with
 | .non=>k=false
 | .bl b=>k=b
 | .int i=>k=(i != 0)
 | .str y=>y.length<=sizeLine/\k=((y.length:Int) != 0)
 | .byt y=>y.size<=sizeLine/\k=((y.size:Int) != 0)
 | .ref p=>(∃ xs,SqL K H p xs/\k=!xs.isEmpty)\/(∃ xs,SqT K H p xs/\k=!xs.isEmpty)\/∃ kvs,H p=some (.dK kvs)/\k=!kvs.isEmpty
 | _=>False
theorem isEmpty_kv {κ:Type} {kvs:List (κ × V)} {vs:List (κ × Value)} (r:KV kvs vs):(!vs.isEmpty)=!kvs.isEmpty:=by
 cases r<;>rfl
theorem isEmpty_of {xs:List V} {its:List Value} (r:Vals xs its):(!its.toArray.isEmpty)=!xs.isEmpty:=by
 cases r<;>simp
theorem line63:(sizeLine:Nat) < 2 ^ 63:=by rw [sizeLine_eq];decide
theorem tru_ok:TruR X (fun x H Q=>∃ k,TruV X.K x H k/\Q k H):=by
 intro pins s σ H x v Q I rx h
 obtain ⟨k,e,q⟩:=h
 have hl:=line63
 have hs:sizeLine=16777216:=sizeLine_eq
 cases x with
 | non =>
  cases rx
  have e':k=false:=e
  subst e'
  exact truthy_none ⟨H,I,q⟩
 | bl b =>
  cases rx
  have e':k=b:=e
  subst e'
  exact wpAny_truthy_bool ⟨H,I,q⟩
 | int i =>
  obtain ⟨t,rfl⟩:=rx
  have e':k=(i != 0):=e
  subst e'
  exact PySem.P.truthy_int ⟨H,I,q⟩
 | str y =>
  obtain ⟨t,rfl⟩:=rx
  obtain ⟨hy,e'⟩:y.length<=sizeLine/\k=((y.length:Int) != 0):=e
  subst e'
  exact PySem.P.truthy_str (by omega) ⟨H,I.tok _,q⟩
 | byt y =>
  obtain ⟨t,rfl⟩:=rx
  obtain ⟨hy,e'⟩:y.size<=sizeLine/\k=((y.size:Int) != 0):=e
  subst e'
  exact PySem.W.truthy_bytes (by omega) ⟨H,I.tok _,q⟩
 | ref p =>
  cases rx
  have e':(∃ xs,SqL X.K H p xs/\k=!xs.isEmpty)\/(∃ xs,SqT X.K H p xs/\k=!xs.isEmpty)\/∃ kvs,H p=some (.dK kvs)/\k=!kvs.isEmpty:=e
  rcases e' with ⟨xs,hx,e'⟩ | ⟨xs,hx,e'⟩ | ⟨kvs,hx,e'⟩
  ·subst e'
   obtain ⟨its,r,pl,hz⟩:=I.list hx
   have hlen:=r.length
   exact wpAny_truthy_list pl.isList (by simp only [List.size_toArray];omega) ⟨H,I.tok _,by rw [isEmpty_of r];exact q⟩
  ·subst e'
   obtain ⟨its,r,pl,hz⟩:=I.tuple hx
   have hlen:=r.length
   exact truthy_tuple pl (by simp only [List.size_toArray];omega) ⟨H,I.tok _,by rw [isEmpty_of r];exact q⟩
  ·subst e'
   obtain ⟨hz,hS,vs,r,m⟩:kvs.length<=sizeLine/\(p == sysModules)=false/\∃ vs,KV kvs vs/\s.heap.DictOf (mixKind X.prog X.w) p vs:=I.hok p _ hx
   have hlen:kvs.length=vs.length:=Paired.length r
   exact wpAny_truthy_dict hS m (by omega) ⟨H,I.tok _,by rw [isEmpty_kv r];exact q⟩
 | _=>exact (show False from e).elim
theorem op_add_str:OpR X (binaryOp .Add) (fun x y H Q=>∃ i j,x=.str i/\y=.str j/\i.length+j.length<=sizeLine/\Q (.str (i++j)) H):=by
 intro pins s σ H x y v u Q I rx ry h
 obtain ⟨i,j,rfl,rfl,hz,q⟩:=h
 obtain ⟨t,rfl⟩:=rx
 obtain ⟨t',rfl⟩:=ry
 exact add_str (fun t' tk=>⟨.str (i++j),H,I.tok _,⟨_,rfl⟩,q⟩) hz
theorem vals1 {x:V} {us:List Value} (r:Vals [x] us):∃ u,us=[u]/\RelV x u:=by
 cases r with
 | cons r1 r2=>cases r2;exact ⟨_,rfl,r1⟩
theorem vals2 {x y:V} {us:List Value} (r:Vals [x,y] us):∃ u w',us=[u,w']/\RelV x u/\RelV y w':=by
 cases r with
 | cons r1 r2 =>
  cases r2 with
  | cons r3 r4=>cases r4;exact ⟨_,_,rfl,r1,r3⟩
theorem call_abs:CallR X (.builtin "abs") (fun xs H Q=>∃ i,xs=[.int i]/\Q (.int (if i < 0 then -i else i)) H):=by
 intro pins s σ H xs us Q I r h
 obtain ⟨i,rfl,q⟩:=h
 obtain ⟨u,rfl,t,rfl⟩:=vals1 r
 exact call_abs_int fun u tk=>⟨.int (if i < 0 then -i else i),H,I.tok _,⟨_,rfl⟩,q⟩
theorem call_min2 (hc:X.calm=true):CallR X (.builtin "min") (fun xs H Q=>∃ i j,xs=[.int i,.int j]/\Q (.int (if j < i then j else i)) H):=by
 intro pins s σ H xs us Q I r h
 obtain ⟨i,j,rfl,q⟩:=h
 obtain ⟨u,w',rfl,⟨t,rfl⟩,⟨t',rfl⟩⟩:=vals2 r
 refine min_two_ints (I.ok.hd hc) fun h' tk k=>⟨_,H,I.kept k,?_,q⟩
 by_cases hj:j < i
 ·rw [if_pos hj,if_pos hj];exact ⟨_,rfl⟩
 ·rw [if_neg hj,if_neg hj];exact ⟨_,rfl⟩
theorem call_int1:CallR X (.type "int") (fun xs H Q=>(∃ i,xs=[.int i]/\Q (.int i) H)\/∃ k,xs=[.bl k]/\Q (.int (if k then 1 else 0)) H):=by
 intro pins s σ H xs us Q I r h
 rcases h with ⟨i,rfl,q⟩ | ⟨k,rfl,q⟩
 ·obtain ⟨u,rfl,t,rfl⟩:=vals1 r
  exact call_int_int ⟨.int i,H,I,⟨_,rfl⟩,q⟩
 ·obtain ⟨u,rfl,r1⟩:=vals1 r
  cases r1
  exact call_int_bool ⟨.int (if k then 1 else 0),H,I.tok _,⟨_,rfl⟩,q⟩
theorem call_str_int:CallR X (.type "str") (fun xs H Q=>∃ i,xs=[.int i]/\i.natAbs.log2 < 1920/\Q (.str (toString i)) H):=by
 intro pins s σ H xs us Q I r h
 obtain ⟨i,rfl,hz,q⟩:=h
 obtain ⟨u,rfl,t,rfl⟩:=vals1 r
 exact PySem.P.str_of_int hz ⟨.str _,H,I.tok _,⟨_,rfl⟩,q⟩
end
end L2
namespace L2
open PySem PySem.Spec PyProof.Rows
structure ObjM (h:Heap) (x dx C:Addr) (mA:Str->Option Value):Prop where
 obj:h.get? x=some (PySem.W.instObj C dx)
 ns:h.Ns1 dx mA
 ne:dx≠x
theorem lookIn_ns {h:Heap} {dx:Addr} {mA:Str->Option Value} (n:h.Ns1 dx mA):∃ od,h.get? dx=some od/\∀ name,PySem.W.lookIn name od=some (mA name):=by
 obtain ⟨o,es,ep,ho,hd,hk,_,hm⟩:=n
 refine ⟨o,ho,fun name=>?_⟩
 have e:=hm name
 unfold nsFind findBy at e
 rw [<- Array.find?_toList] at e
 unfold PySem.W.lookIn
 rw [hd]
 dsimp only
 split
 ·rename_i y q
  rw [q] at e
  exact congrArg some e
 ·rename_i q
  rw [q] at e
  have a:es.toList.any (·.refKey)=false:=by
   rw [List.any_eq_false]
   intro y hy
   obtain ⟨z,t,hkey⟩:=hk y (Array.mem_toList_iff.mp hy)
   simp [DictEntry.refKey,hkey]
  have a':¬ es.toList.any (·.refKey)=true:=by rw [a];exact Bool.false_ne_true
  rw [if_neg a']
  exact congrArg some e
theorem ObjM.look {h:Heap} {x dx C:Addr} {mA:Str->Option Value} (I:ObjM h x dx C mA):∃ od,PySem.W.InstAt h x (PySem.W.instObj C dx) C (some od)/\∀ name,PySem.W.lookIn name od=some (mA name) :=
 let ⟨od,ho,hl⟩:=lookIn_ns I.ns
 ⟨od,⟨I.obj,rfl,rfl,ho⟩,hl⟩
section
variable {prog:Program} {w:World} {A:Around} {E:Value->Shared->Prop} {s:Shared} {K:PySem.W.Frag} {x dx C f:Addr} {mA:Str->Option Value} {name:Str} {v:Value}
theorem get_map {expr:Bool} {Q:Value->Shared->Prop} (X:K.In s.heap) (I:ObjM s.heap x dx C mA) (hg:PySem.W.plainGet K C name=true) (hh:PySem.W.hasDictIn K C=true)
  (ha:PySem.W.findIn K (.ref C) name=some none) (hv:mA name=some v) (hv':PySem.W.handedIn v=true) (h:Q v { s with toks:=s.toks+1 }) :
  wpAny (model prog w) A (getAttr (.ref x) name expr) Q E s:=by
 obtain ⟨od,J,hl⟩:=I.look
 exact PySem.W.get_value X J (PySem.W.plainGet_of hg).1 (PySem.W.findObj_own hh ha rfl (by rw [hl,hv])) hv' h
theorem get_meth {pl:Sem Bool} {Q:Value × List Value->Shared->Prop} (X:K.In s.heap) (I:ObjM s.heap x dx C mA) (hg:PySem.W.plainGet K C name=true)
  (hf:PySem.W.findIn K (.ref C) name=some (some (.ref f))) (ht:PySem.W.isFn K (.ref f)=true) (hv:mA name=none) (h:Q (.ref f,[.ref x]) s) :
  wpAny (model prog w) A (getMethod (.ref x) name pl) Q E s:=by
 obtain ⟨od,J,hl⟩:=I.look
 exact PySem.W.method_fn X J (PySem.W.plainGet_of hg).1 (PySem.W.plainGet_of hg).2 hf (beq_iff_eq.mp ht) (by show (PySem.W.lookIn name od).map (·.isSome)=some false;rw [hl,hv];rfl) h
theorem set_map {ns:List Str} {Q:Unit->Shared->Prop} (X:K.In s.heap) (I:ObjM s.heap x dx C mA)
  (hs:PySem.W.findIn K (.ref C) "__setattr__" = some (some (.builtin "object.__setattr__"))) (hp:PySem.W.plainOver K C=true) (ht:PySem.W.takerIn K C name=some none) (hh:PySem.W.hasDictIn K C=true)
  (hw:PySem.Within mA ns) (hsz:ns.length<=sizeLine)
  (h:∀ h',ObjM h' x dx C (fun y=>if y=name then some v else mA y)->Heap.SameBut dx s.heap h'->Q () { s with heap:=h',toks:=s.toks+2 }) :
  wpAny (model prog w) A (setAttr (.ref x) name v) Q E s:=by
 obtain ⟨od,J,hl⟩:=I.look
 refine PySem.W.set_plain X J hs (PySem.W.osa_open (s:={ s with toks:=s.toks+1 }) (r:=none) X J hp ht fun b=>?_)
 obtain ⟨cd,hc,hd'⟩:=PySem.W.any_some hh
 have hx:s.heap.get? x=some ⟨.ref C,some dx,.plain,#[]⟩:=I.obj
 refine wpAny_bind (wpAny_pure (wpAny_bind (wpAny_bind (wpAny_loadPart hx (wpAny_bind (PySem.W.Looks.here (s:={ s with toks:=s.toks+1 }) (PySem.W.looks_clsIn X hc) ?_))))))
 rw [hd']
 refine wpAny_pure (a:=some dx) (wpAny_bind (wpAny_pure (wpAny_bind ?_)))
 refine wpAny_nsSet1 (s:={ s with toks:=s.toks+1 }) I.ns fun h' hn2 hs2=>?_
 obtain ⟨oD,esD,epD,hoD,hdD,hcD⟩:=hn2.count (PySem.Within.cons name v hw)
 refine wpAny_bind (wpAny_lookBehind hoD (by rw [hdD];exact pastItsLine_dict (Nat.le_trans hcD (by rw [List.length_cons];omega))) ?_)
 exact wpAny_pure (h _ ⟨(hs2.2 _ (Ne.symm I.ne)).trans I.obj,hn2,I.ne⟩ hs2)
theorem make_map {R:Result->Shared->Prop} {vs:List Value} {kw:List (Str × Value)} (X:K.In s.heap) (hm:PySem.W.makesIn K C=true)
  (hi:PySem.W.findIn K (.ref C) "__init__" = some (some (.ref f))) (hf:PySem.W.typeIn K (.ref f)=some (.type "function"))
  (h:codeAny (model prog w) (A.under (.builtin "type.__call__" ⟨.ref C :: vs,kw⟩)) (.call (.ref f) ⟨.ref (s.heap.objs.size+1) :: vs,kw⟩) (PySem.W.InitBack (s.heap.objs.size+1) R)
   { s with heap:=(s.heap.push PySem.W.emptyDict).push (PySem.W.instObj C s.heap.objs.size) }) :
  codeAny (model prog w) A (.call (.ref C) ⟨vs,kw⟩) R s:=by
 obtain ⟨hh,g,d,t,os⟩:=s
 exact PySem.W.make_core (PySem.W.makes_of X hm) (PySem.W.looks_findIn X hi) (fun self=>PySem.W.bind_fn X self hf) (.inl rfl) h
end
def putF (f:Str) (v:V):List (Str × V)->List (Str × V)
 | []=>[(f,v)]
 | (g,x) :: r=>if g=f then (g,v) :: r else (g,x) :: putF f v r
theorem lookup_putF (f g:Str) (v:V):∀ fs:List (Str × V),(putF f v fs).lookup g=if g=f then some v else fs.lookup g
 | []=>by
  show List.lookup g [(f,v)]=_
  by_cases h:g=f
  ·have hb:(g == f)=true:=beq_iff_eq.mpr h
   simp only [List.lookup,hb,if_pos h]
  ·have hb:(g == f)=false:=beq_eq_false_iff_ne.mpr h
   simp only [List.lookup,hb,if_neg h]
 | (k,x) :: r=>by
  have ih:=lookup_putF f g v r
  rw [show putF f v ((k,x) :: r)=(if k=f then (k,v) :: r else (k,x) :: putF f v r) from rfl]
  by_cases hk:k=f
  ·rw [if_pos hk]
   by_cases h:g=k
   ·have hb:(g == k)=true:=beq_iff_eq.mpr h
    simp only [List.lookup,hb,if_pos (h.trans hk)]
   ·have hb:(g == k)=false:=beq_eq_false_iff_ne.mpr h
    simp only [List.lookup,hb,if_neg (fun e:g=f=>h (e.trans hk.symm))]
  ·rw [if_neg hk]
   by_cases h:g=k
   ·have hb:(g == k)=true:=beq_iff_eq.mpr h
    simp only [List.lookup,hb,if_neg (fun e:g=f=>hk (h.symm.trans e))]
   ·have hb:(g == k)=false:=beq_eq_false_iff_ne.mpr h
    simp only [List.lookup,hb]
    exact ih
theorem keys_putF (f:Str) (v:V):∀ fs:List (Str × V),f∈(putF f v fs).map (·.1)/\∀ g,g∈fs.map (·.1)->g∈(putF f v fs).map (·.1)
 | []=>⟨by simp [putF],fun g h=>by simp at h⟩
 | (k,x) :: r=>by
  obtain ⟨i1,i2⟩:=keys_putF f v r
  rw [show putF f v ((k,x) :: r)=(if k=f then (k,v) :: r else (k,x) :: putF f v r) from rfl]
  by_cases hk:k=f
  ·rw [if_pos hk]
   subst hk
   exact ⟨by simp,fun g h=>by simpa using h⟩
  ·rw [if_neg hk]
   refine ⟨?_,fun g h=>?_⟩
   ·rw [List.map_cons]
    exact List.mem_cons_of_mem _ i1
   ·rw [List.map_cons] at h ⊢
    rcases List.mem_cons.mp h with e | e
    ·exact List.mem_cons.mpr (.inl e)
    ·exact List.mem_cons_of_mem _ (i2 g e)
theorem length_putF (f:Str) (v:V):∀ fs:List (Str × V),(putF f v fs).length<=fs.length+1
 | []=>by simp [putF]
 | (k,x) :: r=>by
  have ih:=length_putF f v r
  rw [show putF f v ((k,x) :: r)=(if k=f then (k,v) :: r else (k,x) :: putF f v r) from rfl]
  by_cases hk:k=f
  ·rw [if_pos hk,List.length_cons,List.length_cons];omega
  ·rw [if_neg hk,List.length_cons,List.length_cons];omega
theorem RelO.some_of {v:V} {o:Option Value} (r:RelO (some v) o):∃ u,o=some u/\RelV v u:=by
 cases o with
 | none=>exact (show False from r).elim
 | some u=>exact ⟨u,rfl,r⟩
theorem RelO.none_of {o:Option Value} (r:RelO none o):o=none:=by
 cases o with
 | none=>rfl
 | some u=>exact (show False from r).elim
theorem handed_of {v:V} {u:Value} (r:RelV v u):PySem.W.handedIn u=true:=by
 cases v with
 | non=>cases (show u=Value.none from r);rfl
 | bl b=>cases (show u=Value.bool b from r);rfl
 | int i=>obtain ⟨t,e⟩:=(show ∃ t,u=Value.int i t from r);cases e;rfl
 | str x=>obtain ⟨t,e⟩:=(show ∃ t,u=Value.str x t from r);cases e;rfl
 | byt b=>obtain ⟨t,e⟩:=(show ∃ t,u=Value.bytes b t from r);cases e;rfl
 | flt b=>obtain ⟨t,e⟩:=(show ∃ t,u=Value.float b t from r);cases e;rfl
 | ref a=>cases (show u=Value.ref a from r);rfl
 | ty n=>cases (show u=Value.type n from r);rfl
section
variable {P:Program} {w:World} {H H':Hp} {h h':Heap} {a C dx:Addr} {fs fs':List (Str × V)}
theorem ins_get (hok:HOk P w H h) (e:H a=some (.ins C dx fs)):∃ mA,ObjM h a dx C mA/\(∀ f,RelO (fs.lookup f) (mA f))/\PySem.Within mA (fs.map (·.1))/\fs.length<=1000/\H dx=some (.own a):=by
 obtain ⟨d,z,ne,ob,mA,n,r,q⟩:=(show ObjOk P w H h a (.ins C dx fs) from hok a _ e)
 exact ⟨mA,⟨ob,n,ne⟩,r,q,z,d⟩
end
structure Cls (K:PySem.W.Frag) (C:Addr):Prop where
 pg:PySem.W.plainGet K C Str.empty=true
 hd:PySem.W.hasDictIn K C=true
 po:PySem.W.plainOver K C=true
 sa:PySem.W.findIn K (.ref C) "__setattr__" = some (some (.builtin "object.__setattr__"))
theorem Cls.get {K:PySem.W.Frag} {C:Addr} (c:Cls K C) (f:Str):PySem.W.plainGet K C f=true:=c.pg
def NoAttr (K:PySem.W.Frag) (C:Addr) (f:Str):Prop:=PySem.W.findIn K (.ref C) f=some none
theorem NoAttr.taker {K:PySem.W.Frag} {C:Addr} {f:Str} (n:NoAttr K C f):PySem.W.takerIn K C f=some none:=by
 unfold PySem.W.takerIn
 rw [show PySem.W.findIn K (.ref C) f=some none from n]
 rfl
structure Meth (K:PySem.W.Frag) (C:Addr) (m:Str) (f:Addr):Prop where
 at_:PySem.W.findIn K (.ref C) m=some (some (.ref f))
 fn:PySem.W.isFn K (.ref f)=true
 kp:PySem.W.keepIn K (.ref f)=true
section
variable {X:Cx} {pins:List (Addr × Obj)} {σ:St} {H:Hp} {s:Shared} {a C dx:Addr} {fs:List (Str × V)} {f:Str} {v:V} {A:Around} {E:Value->Shared->Prop}
theorem getattr_ok {b:Bool} {Q:Value->Shared->Prop} (I:Inv X pins σ H s) (e:H a=some (.ins C dx fs)) (c:Cls X.K C) (n:NoAttr X.K C f) (l:fs.lookup f=some v)
  (h:∀ u s',Inv X pins σ H s'->RelV v u->Q u s'):wpAny (model X.prog X.w) A (getAttr (.ref a) f b) Q E s:=by
 obtain ⟨mA,O,r,_,_,_⟩:=ins_get I.hok e
 obtain ⟨u,hu,ru⟩:=RelO.some_of (v:=v) (o:=mA f) (by rw [<- l];exact r f)
 exact get_map I.kIn O (c.get f) c.hd n hu (handed_of ru) (h u _ (I.tok _) ru)
theorem getmeth_ok {m:Str} {g:Addr} {pl:Sem Bool} {Q:Value × List Value->Shared->Prop} (I:Inv X pins σ H s) (e:H a=some (.ins C dx fs)) (c:Cls X.K C) (k:Meth X.K C m g) (l:fs.lookup m=none)
  (h:Q (.ref g,[.ref a]) s):wpAny (model X.prog X.w) A (getMethod (.ref a) m pl) Q E s:=by
 obtain ⟨mA,O,r,_,_,_⟩:=ins_get I.hok e
 have hn:mA m=none:=RelO.none_of (by rw [<- l];exact r m)
 exact get_meth I.kIn O (c.get m) k.at_ k.fn hn h
theorem setattr_ok {y:V} {u:Value} {Q:Unit->Shared->Prop} (I:Inv X pins σ H s) (e:H a=some (.ins C dx fs)) (c:Cls X.K C) (n:NoAttr X.K C f) (hl:fs.length < 1000) (ry:RelV y u)
  (h:∀ s',Inv X pins σ (upd H a (.ins C dx (putF f y fs))) s'->Q () s'):wpAny (model X.prog X.w) A (setAttr (.ref a) f u) Q E s:=by
 obtain ⟨mA,O,r,wi,_,ho⟩:=ins_get I.hok e
 have hz:(fs.map (·.1)).length<=sizeLine:=by rw [List.length_map,sizeLine_eq];omega
 refine set_map I.kIn O c.sa c.po n.taker c.hd wi hz fun h' O' sb=>h _ ?_
 have hd:∃ o,h'.get? dx=some o:=let ⟨o,_,_,e',_⟩:=O'.ns;⟨o,e'⟩
 refine I.write (x:=a) (e:=dx) (by rw [e];exact True.intro) (.inr ho) (fun b q hb z=>(sb.2 b hb).trans z) hd ?_
 refine ⟨by rw [upd_ne O.ne];exact ho,?_,O.ne,O'.obj,_,O'.ns,fun g=>?_,fun g hg=>?_⟩
 ·have:=length_putF f y fs;omega
 ·show RelO ((putF f y fs).lookup g) (if g=f then some u else mA g)
  rw [lookup_putF]
  by_cases q:g=f
  ·rw [if_pos q,if_pos q];exact ry
  ·rw [if_neg q,if_neg q];exact r g
 ·by_cases q:g=f
  ·rw [q];exact (keys_putF f y fs).1
  ·refine (keys_putF f y fs).2 g (wi g fun z=>hg ?_)
   show (if g=f then some u else mA g)=none
   rw [if_neg q];exact z
theorem Inv.made (I:Inv X pins σ H s):Inv X pins σ (upd (upd H s.heap.objs.size (.own (s.heap.objs.size+1))) (s.heap.objs.size+1) (.ins C s.heap.objs.size []))
  { s with heap:=(s.heap.push PySem.W.emptyDict).push (PySem.W.instObj C s.heap.objs.size) }:=by
 have e1:(s.heap.push PySem.W.emptyDict).get? s.heap.objs.size=some PySem.W.emptyDict:=Heap.get?_push_size s.heap rfl
 have e2:((s.heap.push PySem.W.emptyDict).push (PySem.W.instObj C s.heap.objs.size)).get? (s.heap.objs.size+1)=some (PySem.W.instObj C s.heap.objs.size):=by
  have:=Heap.get?_push_size (s.heap.push PySem.W.emptyDict) (o:=PySem.W.instObj C s.heap.objs.size) rfl
  rwa [Heap.size_push] at this
 have e3:(s.heap.push PySem.W.emptyDict).Ns s.heap.objs.size (fun _=>none):=⟨PySem.W.emptyDict,#[],_,e1,rfl,(fun e he=>absurd he (by simp)),fun _=>rfl⟩
 have I1:=I.laid (a:=s.heap.objs.size) (o:=.own (s.heap.objs.size+1)) (h':=s.heap.push PySem.W.emptyDict) (t':=s.toks) (fun b u q=>Heap.get?_push_of_some _ q) (Nat.le_refl _) ⟨_,e1⟩
 refine I1.laid (a:=s.heap.objs.size+1) (o:=.ins C s.heap.objs.size []) (t':=s.toks) (fun b u q=>Heap.get?_push_of_some _ q) (Nat.le_of_eq (Heap.size_push _ _)) ?_
 have ne:s.heap.objs.size≠s.heap.objs.size+1:=Nat.ne_of_lt (Nat.lt_succ_self _)
 refine ⟨by rw [upd_ne ne,upd_same],Nat.zero_le _,ne,e2,fun _=>none,(Heap.Ns1.of_empty e3).at fun o q=>Heap.get?_push_of_some _ q,fun _=>True.intro,fun y hy=>absurd rfl hy⟩
theorem attr_of {prog:Program} {w:World} {env:Env} {e:Expr} {f:Str} {pos:Pos} {s:Shared} {Q:Value->Shared->Prop} (hb:attributeBase e f env (eval e env)=eval e env)
  (h:wpAny (model prog w) A (eval e env) (fun o s₁=>wpAny (model prog w) A (getAttr o f true) Q E s₁) E s):wpAny (model prog w) A (eval (.Attribute e f pos) env) Q E s :=
 Attribute_any_ h (by rw [arm_eval_Attribute,hb])
end
def tFld (K:PySem.W.Frag) (ta:TE) (f:Str):TE:=fun σ H Q=>ta σ H fun x H1=>∃ a C dx fs v,x=.ref a/\H1 a=some (.ins C dx fs)/\Cls K C/\NoAttr K C f/\fs.lookup f=some v/\Q v H1
section
variable {X:Cx} {o e value:Expr} {f:Str} {pos pos' tpos:Pos} {ta tv:TE}
theorem pe_fld (he:PE X e ta) (hb:attributeBase e f X.env (eval e X.env)=eval e X.env):PE X (.Attribute e f pos) (tFld X.K ta f):=by
 intro pins s σ H Q I h
 refine attr_of hb (thn (he pins s σ H _ I h) fun u s1 ⟨x,H1,I1,rx,a,C,dx,fs,v,ex,ea,c,n,l,q⟩=>?_)
 subst ex
 obtain rfl:u=Value.ref a:=rx
 exact getattr_ok I1 ea c n l fun u' s2 I2 ru=>⟨v,H1,I2,ru,q⟩
end
section
variable {X:Cx} {pins:List (Addr × Obj)} {σ:St} {H:Hp} {s:Shared} {A:Around} {E:Value->Shared->Prop} {Q:Value->Shared->Prop} {c:Value} {b:Bool}
inductive TyOf (K:PySem.W.Frag) (H:Hp):V->Value->Prop where
 | non:TyOf K H .non (.type "NoneType")
 | bl (x:Bool):TyOf K H (.bl x) (.type "bool")
 | int (i:Int):TyOf K H (.int i) (.type "int")
 | str (x:Str):TyOf K H (.str x) (.type "str")
 | flt (x:UInt64):TyOf K H (.flt x) (.type "float")
 | lst {a:Addr} {xs:List V} (e:H a=some (.lst xs)):TyOf K H (.ref a) (.type "list")
 | frz {a:Addr} {o:Obj} {xs:List V} (e:H a=some (.frz o (.lst xs))):TyOf K H (.ref a) (.type "list")
 | tup {a:Addr} {xs:List V} (e:H a=some (.tup xs)):TyOf K H (.ref a) (.type "tuple")
 | dK {a:Addr} {kvs:List (Key × V)} (e:H a=some (.dK kvs)):TyOf K H (.ref a) (.type "dict")
 | dT {a:Addr} {kvs:List (List Key × V)} (e:H a=some (.dT kvs)):TyOf K H (.ref a) (.type "dict")
 | ins {a C dx:Addr} {fs:List (Str × V)} (e:H a=some (.ins C dx fs)) (cl:Cls K C) (ha:PySem.W.findIn K (.ref C) "__class__" = some (some (.builtin "object.__class__")))
   (hn:PySem.W.specialIn K (.builtin "object.__class__") "__get__" = some (some (.builtin "getset_descriptor.__get__"))) (htk:PySem.W.takesIn K (.builtin "object.__class__")=some true)
   (hm:PySem.W.mroIn K C (.type "object")=some true):TyOf K H (.ref a) (.ref C)
theorem isinst_ok {x:V} {u t:Value} (I:Inv X pins σ H s) (rx:RelV x u) (ty:TyOf X.K H x t) (e:PySem.W.kitOne X.K t c=some b) (h:∀ tk,Q (.bool b) { s with toks:=tk }) :
  wpAny (model X.prog X.w) A (call (.builtin "isinstance") [u,c]) Q E s:=by
 cases ty with
 | non=>cases (show u=Value.none from rx);exact PySem.W.kia_one PySem.W.kitx_none I.kIn True.intro e (fun z=>nomatch z) h
 | bl y=>cases (show u=Value.bool y from rx);exact PySem.W.kia_one PySem.W.kitx_bool I.kIn True.intro e (fun z=>nomatch z) h
 | int i=>obtain ⟨t,q⟩:=(show ∃ t,u=Value.int i t from rx);cases q;exact PySem.W.kia_one PySem.W.kitx_int I.kIn True.intro e (fun z=>nomatch z) h
 | str y=>obtain ⟨t,q⟩:=(show ∃ t,u=Value.str y t from rx);cases q;exact PySem.W.kia_one PySem.W.kitx_str I.kIn True.intro e (fun z=>nomatch z) h
 | flt y=>obtain ⟨t,q⟩:=(show ∃ t,u=Value.float y t from rx);cases q;exact PySem.W.kia_one PySem.W.kitx_float I.kIn True.intro e (fun z=>nomatch z) h
 | @lst a xs ea =>
  cases (show u=Value.ref a from rx)
  obtain ⟨_,_,n,_,h1⟩:=(show ObjOk X.prog X.w H s.heap a (.lst xs) from I.hok a _ ea)
  exact PySem.W.kia_one PySem.W.kitx_list I.kIn ⟨_,h1,rfl⟩ e (fun z=>nomatch z) h
 | @frz a ob xs ea =>
  cases (show u=Value.ref a from rx)
  obtain ⟨_,_,_,n,_,h1⟩:=(show ObjOk X.prog X.w H s.heap a (.frz ob (.lst xs)) from I.hok a _ ea)
  exact PySem.W.kia_one PySem.W.kitx_list I.kIn ⟨_,h1,rfl⟩ e (fun z=>nomatch z) h
 | @tup a xs ea =>
  cases (show u=Value.ref a from rx)
  obtain ⟨_,_,_,p⟩:=(show ObjOk X.prog X.w H s.heap a (.tup xs) from I.hok a _ ea)
  obtain ⟨o,h1,h2,_⟩:=p
  exact PySem.W.kia_one PySem.W.kitx_tuple I.kIn ⟨o,h1,h2⟩ e (fun z=>nomatch z) h
 | @dK a kvs ea =>
  cases (show u=Value.ref a from rx)
  obtain ⟨_,_,vs,_,p⟩:=(show ObjOk X.prog X.w H s.heap a (.dK kvs) from I.hok a _ ea)
  obtain ⟨o,es,ep,h1,h2,_⟩:=p
  exact PySem.W.kia_one PySem.W.kitx_dict I.kIn ⟨o,h1,h2.1⟩ e (fun z=>nomatch z) h
 | @dT a kvs ea =>
  cases (show u=Value.ref a from rx)
  obtain ⟨_,_,xs,_,o,es,ep,h1,h2,_⟩:=(show ObjOk X.prog X.w H s.heap a (.dT kvs) from I.hok a _ ea)
  exact PySem.W.kia_one PySem.W.kitx_dict I.kIn ⟨o,h1,h2.1⟩ e (fun z=>nomatch z) h
 | @ins a C dx fs ea cl ha hn htk hm =>
  cases (show u=Value.ref a from rx)
  obtain ⟨mA,O,_⟩:=ins_get I.hok ea
  obtain ⟨od,J,_⟩:=O.look
  exact PySem.W.kia_one (PySem.W.kitx_own (cl.get _) cl.hd ha hn htk hm) I.kIn J e (fun z=>nomatch z) h
end
end L2
namespace L2
open PySem PySem.Spec PyProof.Rows
structure Room (k:Nat) (A:Around):Prop where
 hd:A.handled=none
 dp:A.depth+3 * k+5 < recursionLimit
 un:A.units+16 * k+200 < cLine
theorem Room.mono {j k:Nat} {A:Around} (r:Room k A) (h:j<=k):Room j A:=⟨r.hd,by have:=r.dp;omega,by have:=r.un;omega⟩
theorem Room.deeper {k:Nat} {A:Around} (r:Room (k+1) A) (env:Env):Room k (A.deeper env) :=
 ⟨r.hd,by have:=r.dp;show A.depth+1+3 * k+5 < _;omega,by have:=r.un;show A.units+3+16 * k+200 < _;omega⟩
theorem make_depth {A:Around} {C:Addr} {us:List Value} {kw:List (Str × Value)}:(A.under (.builtin "type.__call__" ⟨.ref C :: us,kw⟩)).depth=A.depth+1:=by
 first | rfl | simp [Around.under,Code.weight,Code.isCreation,Code.isGuard,Code.isCaller,Code.frames,Code.isFrame,guardIds]
theorem make_units {A:Around} {C:Addr} {us:List Value} {kw:List (Str × Value)}:(A.under (.builtin "type.__call__" ⟨.ref C :: us,kw⟩)).units=A.units+1:=by
 first | rfl | simp [Around.under,Code.cUnits,Code.frames,Code.isFrame]
theorem Room.make {k:Nat} {A:Around} (r:Room (k+1) A) (C:Addr) (us:List Value) (kw:List (Str × Value)):Room k (A.under (.builtin "type.__call__" ⟨.ref C :: us,kw⟩)) :=
 ⟨r.hd,by have:=r.dp;rw [make_depth];omega,by have:=r.un;rw [make_units];omega⟩
theorem Room.depth {k:Nat} {A:Around} (r:Room k A):A.depth < recursionLimit:=by have:=r.dp;omega
theorem Room.units {k:Nat} {A:Around} (r:Room k A):A.units+64 < cLine:=by have:=r.un;omega
section
variable {X:Cx} {e:Expr} {es:List Expr} {te:TE} {t:TA} {pos:Pos}
end
abbrev Sp:=List V->Hp->VK->XK->Prop
abbrev CXT:=List Env->Hp->Shared->XK->Value->Shared->Prop
structure Env0 (P:Program) (w:World) (K:PySem.W.Frag) (mg:Str->Option Value) (base:Heap) (A:Around) (outer:List Env) (s:Shared) (H:Hp):Prop where
 frames:A.frames=some outer
 mod:Mod K mg base
 bs:∀ b o,base.get? b=some o->s.heap.get? b=some o/\H b=none
 bsz:base.objs.size<=s.heap.objs.size
 funs:s.heap.FunFrames base outer
 frf:∀ b∈frs outer,H b=none
 hok:HOk P w H s.heap
 bare:AllBare s.gens
def CE (outer:List Env) (P:Program) (w:World) (H:Hp) (s:Shared) (Q:VK) (u:Value) (s':Shared):Prop :=
 ∃ v H',s'.os=s.os/\AllBare s'.gens/\Un (frs outer) [] H H' s.heap s'.heap/\HOk P w H' s'.heap/\RelV v u/\Q v H'
def CR (CX:CXT) (outer:List Env) (P:Program) (w:World) (H:Hp) (s:Shared) (Q:VK) (E:XK) (r:Result) (s':Shared):Prop :=
 match r with
 | .ok (.ret u)=>CE outer P w H s Q u s'
 | .ok _=>False
 | .error e=>CX outer H s E e s'
structure FnOk (P:Program) (w:World) (K:PySem.W.Frag) (mg:Str->Option Value) (base:Heap) (CX:CXT) (k:Nat) (f:Addr) (fd:FuncData) (ps:List Str) (sp:Sp):Prop where
 len:∀ vs H Q E,sp vs H Q E->vs.length=ps.length
 run:∀ (A:Around) (outer:List Env) (s:Shared) (H:Hp) (args:Args) (us:List Value) (vs:List V) (Q:VK) (E:XK),Room k A->Env0 P w K mg base A outer s H->BindsTo s fd args (ps.zip us)->Vals vs us->sp vs H Q E ->
  codeAny (model P w) A (.call (.ref f) args) (CR CX outer P w H s Q E) s
theorem FnOk.mono {P:Program} {w:World} {K:PySem.W.Frag} {mg:Str->Option Value} {base:Heap} {CX:CXT} {j k:Nat} {f:Addr} {fd:FuncData} {ps:List Str} {sp:Sp} (F:FnOk P w K mg base CX j f fd ps sp) (h:j<=k) :
  FnOk P w K mg base CX k f fd ps sp:=⟨F.len,fun A outer s H args us vs Q E hr=>F.run A outer s H args us vs Q E (hr.mono h)⟩
theorem Env0.make {P:Program} {w:World} {K:PySem.W.Frag} {mg:Str->Option Value} {base:Heap} {A:Around} {outer:List Env} {s:Shared} {H:Hp} (e:Env0 P w K mg base A outer s H) (C:Addr) (us:List Value) (kw:List (Str × Value)) :
  Env0 P w K mg base (A.under (.builtin "type.__call__" ⟨.ref C :: us,kw⟩)) outer s H:=⟨by first | exact e.frames | (simpa [Around.under,Code.envs,Code.isFrame,pushEnvs] using e.frames),e.mod,e.bs,e.bsz,e.funs,e.frf,e.hok,e.bare⟩
section
variable {X:Cx} {pins:List (Addr × Obj)} {σ:St} {H:Hp} {s s':Shared}
theorem Inv.env0 (I:Inv X pins σ H s):Env0 X.prog X.w X.K X.mg X.base X.A X.stack s H :=
 ⟨I.ok.frames,I.ok.mod,I.bs,Nat.le_trans I.ok.bsz I.sz,I.stack,I.stkFree,I.hok,I.bare⟩
theorem Inv.after {Q:VK} {u:Value} (I:Inv X pins σ H s) (h:CE X.stack X.prog X.w H s Q u s'):EP X pins σ Q u s':=by
 obtain ⟨v,H',os,bare,un,hok,r,q⟩:=h
 obtain ⟨hh,g,d,t,os'⟩:=s'
 obtain rfl:os'=s.os:=os
 exact ⟨v,H',I.call (h':=hh) (g':=g) (d':=d) (t':=t) (ch:=[]) un hok bare (fun b z=>absurd z (by simp)),r,q⟩
end
def Binds (K:PySem.W.Frag) (fd:FuncData) (ps:List Str) (ds:List Value):Prop :=
 ∀ (s:Shared) (us:List Value),K.In s.heap->(us++ds).length=ps.length->BindsTo s fd ⟨us,[]⟩ (ps.zip (us++ds))
theorem Binds.all {K:PySem.W.Frag} {fd:FuncData} {ps:List Str} (h:∀ us:List Value,us.length=ps.length->bindArgs fd ⟨us,[]⟩=pure (ps.zip us)):Binds K fd ps []:=fun s us _ hl=>by
 rw [List.append_nil] at hl ⊢
 exact .of_eq (h us hl)
def Passes (CX:CXT) (X:Cx) (E:XK):Prop:=∀ (pins:List (Addr × Obj)) (σ:St) (H:Hp) (s:Shared) (e:Value) (s':Shared),Inv X pins σ H s->CX X.stack H s E e s'->X.xe e s'
section
variable {X:Cx} {CX:CXT} {k:Nat} {f C:Addr} {fd:FuncData} {ps:List Str} {sp:Sp} {dvs:List V} {ds:List Value} {E:XK} {x m:Str} {p pos apos:Pos} {e o:Expr} {es:List Expr} {ta:TE} {t:TA}
theorem run_fn {pins:List (Addr × Obj)} {σ:St} {H:Hp} {s:Shared} {Q:VK} {us:List Value} {vs:List V} (F:FnOk X.prog X.w X.K X.mg X.base CX k f fd ps sp) (hr:Room k X.A) (hb:Binds X.K fd ps ds) (hd:Vals dvs ds) (hx:Passes CX X E)
  (I:Inv X pins σ H s) (r:Vals vs us) (h:sp (vs++dvs) H Q E):wpAny (model X.prog X.w) X.A (call (.ref f) us) (EP X pins σ Q) X.xe s:=by
 have r2:Vals (vs++dvs) (us++ds):=r.append hd
 have hl:(us++ds).length=ps.length:=by rw [<- r2.length];exact F.len _ _ _ _ h
 refine wpAny_call (codeAny_mono (F.run X.A X.stack s H ⟨us,[]⟩ (us++ds) (vs++dvs) Q E hr I.env0 (hb s us I.kIn hl) r2 h) fun r s' hq=>?_)
 cases r with
 | error e=>exact hx pins σ H s e s' I hq
 | ok fl =>
  cases fl with
  | ret u=>exact I.after hq
  | next=>exact False.elim hq
  | brk=>exact False.elim hq
  | cont=>exact False.elim hq
structure Mk (K:PySem.W.Frag) (C f:Addr):Prop where
 makes:PySem.W.makesIn K C=true
 init:PySem.W.findIn K (.ref C) "__init__" = some (some (.ref f))
 fn:PySem.W.isFn K (.ref f)=true
 kp:PySem.W.keepIn K (.ref C)=true
end
section
variable {X:Cx} {CX:CXT} {k:Nat} {f C:Addr} {fd:FuncData} {ps ks:List Str} {sp:Sp} {E:XK} {x m:Str} {p pos apos kpos:Pos} {e o:Expr} {es:List Expr} {kws:List Keyword} {te ta:TE} {t tk:TA} {nm:Option Str}
variable {g:List Value->List Value->List Value} {gV:List V->List V->List V}
end
structure FnScope (N P:List Str) (sc:Scope):Prop where
 kind:sc.kind=.function
 co:sc.isCoroutine=false
 gen:sc.isGenerator=false
 nd:N.Nodup
 pre:N.take P.length=P
 par:∀ x∈P,sc.names.lookup x=some .local\/sc.names.lookup x=some .cell
 nofree:∀ y∈sc.names,y.2≠.free
theorem bindL_out {kindOf:Str->Option NameKind} {x:Str}:∀ {binds:List (Str × Value)} {m:Str->Option Value},(∀ v,(x,v)∉binds)->bindL kindOf binds m x=m x
 | [],_,_=>rfl
 | (n,v) :: r,m,h=>by
  unfold bindL
  rw [bindL_out fun w hw=>h w (List.mem_cons_of_mem _ hw)]
  split
  ·have:x≠n:=by rintro rfl;exact h v List.mem_cons_self
   simp [this]
  ·rfl
theorem bindC_out {kindOf:Str->Option NameKind} {x:Str}:∀ {binds:List (Str × Value)} {m:Str->Option Value},(∀ v,(x,v)∉binds)->bindC kindOf binds m x=m x
 | [],_,_=>rfl
 | (n,v) :: r,m,h=>by
  unfold bindC
  rw [bindC_out fun w hw=>h w (List.mem_cons_of_mem _ hw)]
  split
  ·rfl
  ·have:x≠n:=by rintro rfl;exact h v List.mem_cons_self
   simp [this]
theorem bindL_get {kindOf:Str->Option NameKind} {x:Str} {v:Value}:∀ {P:List Str} {vs:List Value} {i:Nat} {m:Str->Option Value},P.Nodup->P[i]?=some x->vs[i]?=some v->kindOf x=some .local ->
  bindL kindOf (P.zip vs) m x=some v
 | [],_,_,_,_,h,_,_=>by simp at h
 | _ :: _,[],_,_,_,_,h,_=>by simp at h
 | p :: P,w :: vs,0,m,nd,h1,h2,hk=>by
  simp at h1 h2;subst h1;subst h2
  show bindL kindOf ((p,w) :: P.zip vs) m p=_
  unfold bindL
  rw [bindL_out fun v hv=>(List.nodup_cons.mp nd).1 (List.of_mem_zip hv).1,if_pos hk]
  simp
 | p :: P,w :: vs,i+1,m,nd,h1,h2,hk=>by
  show bindL kindOf ((p,w) :: P.zip vs) m x=_
  unfold bindL
  exact bindL_get (i:=i) (List.nodup_cons.mp nd).2 (by simpa using h1) (by simpa using h2) hk
theorem bindC_get {kindOf:Str->Option NameKind} {x:Str} {v:Value}:∀ {P:List Str} {vs:List Value} {i:Nat} {m:Str->Option Value},P.Nodup->P[i]?=some x->vs[i]?=some v->kindOf x≠some .local ->
  bindC kindOf (P.zip vs) m x=some v
 | [],_,_,_,_,h,_,_=>by simp at h
 | _ :: _,[],_,_,_,_,h,_=>by simp at h
 | p :: P,w :: vs,0,m,nd,h1,h2,hk=>by
  simp at h1 h2;subst h1;subst h2
  show bindC kindOf ((p,w) :: P.zip vs) m p=_
  unfold bindC
  rw [bindC_out fun v hv=>(List.nodup_cons.mp nd).1 (List.of_mem_zip hv).1,if_neg hk]
  simp
 | p :: P,w :: vs,i+1,m,nd,h1,h2,hk=>by
  show bindC kindOf ((p,w) :: P.zip vs) m x=_
  unfold bindC
  exact bindC_get (i:=i) (List.nodup_cons.mp nd).2 (by simpa using h1) (by simpa using h2) hk
def start (N:List Str) (vs:List V):St:=vs.map some++List.replicate (N.length - vs.length) none
def cxOf (CX:CXT) (P:Program) (w:World) (K:PySem.W.Frag) (mg:Str->Option Value) (base:Heap) (N:List Str) (qual:Str) (scope:Scope) (f:Addr) (cd:Value) (A:Around) (outer:List Env) (s:Shared) (H:Hp) (E:XK):Cx where
 prog:=P
 w:=w
 K:=K
 mg:=mg
 base:=base
 A:=A.deeper (envOfC qual scope s.heap.objs.size f cd)
 N:=N
 s₀:=s
 H₀:=H
 env:=envOfC qual scope s.heap.objs.size f cd
 outer:=outer
 stack:=envOfC qual scope s.heap.objs.size f cd :: outer
 ex:=[]
 calm:=true
 fn:=fun _=>true
 pn:=[]
 xe:=fun e s'=>wpAny (model P w) (A.deeper (envOfC qual scope s.heap.objs.size f cd)) (leaving (envOfC qual scope s.heap.objs.size f cd) e) (fun _ s''=>CX outer H s E e s'') (fun e' s''=>CX outer H s E e' s'') s'
theorem cell_has {sc:Scope} {n:Nat} {x:Str} (h:sc.names.lookup x=some .cell):∃ c,(cellsFrom n sc.names []).lookup x=some c:=by
 have q:=PySem.W.cellsFrom_some sc.names n [] (.inl h)
 exact Option.isSome_iff_exists.mp q
theorem inv_start {CX:CXT} {P:Program} {w:World} {K:PySem.W.Frag} {mg:Str->Option Value} {base:Heap} {N ps:List Str} {qual:Str} {scope:Scope} {f:Addr} {cd:Value} {A:Around} {outer:List Env} {s s1:Shared} {H:Hp} {E:XK} {us:List Value} {vs:List V}
  (S:FnScope N ps scope) (hd:A.handled=none) (e0:Env0 P w K mg base A outer s H) (hl:vs.length=ps.length) (r:Vals vs us)
  (x:InCallC s s.heap.objs.size (bindL (envOfC qual scope s.heap.objs.size f cd).kindOf (ps.zip us) fun _=>none) (cellsFrom (s.heap.objs.size+1) scope.names []) (bindC (envOfC qual scope s.heap.objs.size f cd).kindOf (ps.zip us) fun _=>none) s1) :
  Inv (cxOf CX P w K mg base N qual scope f cd A outer s H E) [] (start N vs) H s1:=by
 have hpl:ps.length<=N.length:=by have:=congrArg List.length S.pre;rw [List.length_take] at this;omega
 obtain ⟨h1,tk,rfl,hk⟩:=x.done
 have noA:∀ b:Addr,b∉(cxOf CX P w K mg base N qual scope f cd A outer s H E).ex:=fun b z=>absurd (show b∈([] : List Addr) from z) (by simp)
 refine ⟨⟨e0.mod,S.kind,rfl,rfl,Nat.le_refl _,fun y z c h1 h2=>?_,fun y hy=>?_,fun y c _ h=>?_,fun _=>hd,Around.frames_deeper e0.frames,.inr ⟨rfl,rfl⟩,fun b z=>absurd z (noA b),e0.bs,e0.bsz,fun b _ _=>noA b,fun b z=>absurd z (noA b),e0.funs,e0.frf⟩,
  rfl,e0.bare,Un.kept hk,⟨_,x.toInCall.ns,fun i y v h1 h2 h3=>?_⟩,fun y c h=>⟨_,x.cell y c h⟩,e0.hok.fresh (Nat.le_refl _),fun y c h=>?_,fun p hp=>absurd (show p∈([] : List (Addr × Obj)) from hp) (by simp),e0.hok.kept hk,?_⟩
 ·exact name_of_addr x.apart (PySem.mem_of_lookup h1) (PySem.mem_of_lookup h2)
 ·have hy:scope.names.lookup y=some .cell\/scope.names.lookup y=some .free:=hy
  rcases hy with hy | hy
  ·exact cell_has hy
  ·exact absurd rfl (S.nofree _ (PySem.mem_of_lookup hy))
 ·exact Nat.le_of_lt (x.above y c (PySem.mem_of_lookup h))
 ·have hi:i < vs.length:=by
   unfold start at h2
   by_cases hi:i < vs.length
   ·exact hi
   ·rw [List.getElem?_append_right (by simpa using hi)] at h2
    rw [List.getElem?_replicate] at h2
    split at h2<;>cases h2
  have ha:vs[i]?=some v:=by
   unfold start at h2
   rw [List.getElem?_append_left (by simpa using hi),List.getElem?_map] at h2
   cases e:vs[i]? with
   | none=>rw [e] at h2;cases h2
   | some a=>rw [e] at h2;cases h2;rfl
  obtain ⟨u,hu,rv⟩:=r.get ha
  have hp:ps[i]?=some y:=by
   rw [<- S.pre,List.getElem?_take_of_lt (by omega)];exact h1
  have ndP:ps.Nodup:=by rw [<- S.pre];exact S.nd.sublist (List.take_sublist _ _)
  refine ⟨u,rv,?_⟩
  rcases S.par y (List.mem_of_getElem? hp) with k | k
  ·exact .inl ⟨k,bindL_get ndP hp hu k⟩
  ·obtain ⟨c,e⟩:=cell_has (n:=s.heap.objs.size+1) k
   refine .inr ⟨.inl k,c,e,?_⟩
   have q:=x.cell y c e
   rw [bindC_get ndP hp hu (by show scope.names.lookup y≠_;rw [k];decide)] at q
   exact q
 ·exact e0.hok.fresh (Nat.le_of_lt (x.above y c (PySem.mem_of_lookup h)))
 ·unfold start
  show _=N.length
  rw [List.length_append,List.length_map,List.length_replicate]
  omega
theorem fn_of {CX:CXT} {P:Program} {w:World} {K:PySem.W.Frag} {mg:Str->Option Value} {base:Heap} {k:Nat} {f:Addr} {name qual:Str} {params:Arguments} {body:List Stmt} {scope:Scope} {dV kV doc pm cdv ct oc:Value} {an od:Option Addr}
  {osl:Array (Option Value)} {N ps:List Str} {sp:Sp} (lk:K.lookup f=some ⟨oc,od,.func (PySem.W.fnOf name qual params body scope dV kV doc pm an cdv ct),osl⟩) (hcd:PySem.W.codeIn K cdv qual=true) (S:FnScope N ps scope)
  (len:∀ vs H Q E,sp vs H Q E->vs.length=ps.length)
  (hbody:∀ (A:Around) (outer:List Env) (s:Shared) (H:Hp) (vs:List V) (Q:VK) (E:XK),Room k (A.deeper (envOfC qual scope s.heap.objs.size f cdv))->sp vs H Q E ->
   ∃ t,PSs (cxOf CX P w K mg base N qual scope f cdv A outer s H E) body t/\t { nx:=fun _ H'=>Q .non H',rt:=Q } (start N vs) H) :
  FnOk P w K mg base CX (k+1) f (PySem.W.fnOf name qual params body scope dV kV doc pm an cdv ct) ps sp:=by
 refine ⟨len,fun A outer s H args us vs Q E hr e0 hb r hsp=>?_⟩
 have hl:=len _ _ _ _ hsp
 have KX:K.In s.heap:=e0.mod.kin.keeps fun b o e=>(e0.bs b o e).1
 have lim:s.heap.NoLimit:=e0.mod.nolimit.keeps fun b o e=>(e0.bs b o e).1
 have hkind:∀ y∈ps.zip us,scope.names.lookup y.1=some .local\/(scope.names.lookup y.1=some .cell/\((cellsFrom (s.heap.objs.size+1) scope.names []).lookup y.1).isSome=true):=fun ⟨n,v⟩ hy=>by
  rcases S.par n (List.of_mem_zip hy).1 with q | q
  ·exact .inl q
  ·exact .inr ⟨q,PySem.W.cellsFrom_some _ _ _ (.inl q)⟩
 refine codeAny_call_function hr.depth (KX _ _ lk) rfl S.co S.gen rfl (PySem.W.codeRec_of KX hcd) (hb _ _ _ _ ?_)
 refine wpAny_newFunctionEnv_cells S.kind hkind fun env he s1 x=>?_
 subst he
 refine ⟨lim.keeps x.toInCall.keep,codeAny_func ?_⟩
 obtain ⟨t,ht,hq⟩:=hbody A outer s H vs Q E (hr.deeper _) hsp
 have I:Inv (cxOf CX P w K mg base N qual scope f cdv A outer s H E) [] (start N vs) H s1:=inv_start S hr.hd e0 hl r x
 refine wpAny_mono (ht [] s1 (start N vs) H _ I hq) (fun fl s' hs=>?_) fun e s' hs=>hs
 have fin:∀ {σ':St} {H':Hp} {v:V} {u:Value},Inv (cxOf CX P w K mg base N qual scope f cdv A outer s H E) [] σ' H' s'->RelV v u->Q v H'->CE outer P w H s Q u s' :=
  fun {σ' H' v u} J rv q=>⟨v,H',J.os,J.bare,J.base,J.hok,rv,q⟩
 cases fl with
 | ret u =>
  obtain ⟨v,σ',H',J,rv,q⟩:=hs
  exact fin J rv q
 | next =>
  obtain ⟨σ',H',J,q⟩:=hs
  exact fin (v:=V.non) (u:=Value.none) J rfl q
 | brk =>
  obtain ⟨_,_,_,q⟩:=hs
  exact False.elim q
 | cont =>
  obtain ⟨_,_,_,q⟩:=hs
  exact False.elim q
end L2
namespace L2
open PySem PySem.Spec PyProof.Rows
section
variable {X:Cx} {x:Str} {p pos:Pos} {e:Expr} {es:List Expr} {t:TA} {id T:String} {r:List V->Hp->VK->Prop}
end
end L2
namespace HT
open PySem PyProof.Rows
section
open PySem.SeqAt
open PySem.AutoSeq1 (wpAny_loadPart')
open PySem.MeetsSeq PySem.MeetsSeq2 PySem.MeetsSeq3
end
section
variable {prog:Program} {w:World} {A:Around} {E:Value->Shared->Prop} {s:Shared}
theorem cat_tup {t b:Addr} {vs ws:List Value} {Q:Value->Shared->Prop} (ht:IsTup s.heap t vs.toArray) (hb:IsTup s.heap b ws.toArray) (hv:vs≠[])
  (h1:ws=[]->Q (.ref t) s) (h2:ws≠[]->Q (.ref s.heap.objs.size) { s with heap:=s.heap.push { cls:=.type "tuple",data:=.seq (vs++ws).toArray } })
  (hsz:vs.length+ws.length<=sizeLine):wpAny (model prog w) A (binaryOp .Add (.ref t) (.ref b)) Q E s:=by
 obtain ⟨⟨cls,dd,data,sl⟩,ho,hc,n,hd⟩:=id ht
 obtain ⟨⟨cls2,dd2,data2,sl2⟩,ho2,hc2,n2,hd2⟩:=id hb
 simp only at hc hd hc2 hd2
 subst hc hd hc2 hd2
 have e:vs.toArray++ws.toArray=(vs++ws).toArray:=by simp
 by_cases hw:ws=[]
 ·exact concat_meets ⟨_,ho,rfl⟩ ⟨_,ho2,rfl⟩ noFill_tuple_add seq_tuple_add PySem.F.slot_tuple_add PySem.F.entry_tuple_add (PySem.F.args_tuple_add_2 _ _)
   (tuple_addW1 t b vs.toArray ws.toArray n n2 dd dd2 sl sl2 (by simpa using hv) (by simp [hw])) ⟨ho,ho2,h1 hw⟩
 ·refine concat_meets ⟨_,ho,rfl⟩ ⟨_,ho2,rfl⟩ noFill_tuple_add seq_tuple_add PySem.F.slot_tuple_add PySem.F.entry_tuple_add (PySem.F.args_tuple_add_2 _ _)
   (tuple_addW2 t b vs.toArray ws.toArray n n2 dd dd2 sl sl2 (by simpa using hv) (by simpa using hw) (by rw [List.size_toArray,List.size_toArray];exact hsz)) ⟨ho,ho2,?_⟩
  rw [e]
  exact h2 hw
def sIx (n d:Nat):Option Int->Nat
 | none=>d
 | some v=>if v < 0 then (v+(n:Int)).toNat else min v.toNat n
theorem sIx_none (n d:Nat):sIx n d none=d:=rfl
theorem sIx_nat (n d k:Nat):sIx n d (some (k:Int))=min k n:=by
 show (if (k:Int) < 0 then ((k:Int)+(n:Int)).toNat else min (k:Int).toNat n)=min k n
 rw [if_neg (by omega),Int.toNat_natCast]
theorem sIx_le (n d:Nat) (hd:d<=n) (o:Option Int):sIx n d o<=n:=by
 cases o with
 | none=>exact hd
 | some v =>
  show (if v < 0 then (v+(n:Int)).toNat else min v.toNat n)<=n
  by_cases hv:v < 0
  ·rw [if_pos hv];omega
  ·rw [if_neg hv];exact Nat.min_le_right _ _
theorem clip_eq (v:Int) (n d:Nat):(if v < 0 then max (v+(n:Int)) 0 else min v (n:Int))=((sIx n d (some v):Nat):Int):=by
 show (if v < 0 then max (v+(n:Int)) 0 else min v (n:Int))=(((if v < 0 then (v+(n:Int)).toNat else min v.toNat n):Nat):Int)
 by_cases hv:v < 0
 ·simp only [if_pos hv];omega
 ·simp only [if_neg hv];omega
theorem adjust_gen (lo hi:Option Int) (n:Nat):Builtin.Slice.sliceAdjust lo hi 1 (n:Int)=(((sIx n 0 lo:Nat):Int),((sIx n n hi:Nat):Int)):=by
 have h1:¬ ((1:Int) < 0):=by omega
 unfold Builtin.Slice.sliceAdjust
 simp only [h1,if_false]
 refine Prod.ext ?_ ?_
 ·cases lo with
  | none=>rfl
  | some v=>exact clip_eq v n 0
 ·cases hi with
  | none=>rfl
  | some v=>exact clip_eq v n n
theorem places_gen (i j:Nat):Builtin.Slice.slicePlaces (i:Int) (j:Int) 1=j - i:=by
 unfold Builtin.Slice.slicePlaces
 have h1:(1:Int) > 0:=by omega
 simp only [h1,if_true,Int.ediv_one]
 split<;>omega
theorem slicePart_ {v:Value} {o:Option Int} {Q:Option Int->Shared->Prop} (p:IsPart v o) (h:Q o s):wpAny (model prog w) A (Builtin.Slice.slicePartIndex v) Q E s:=by
 cases p with
 | none=>exact slicePart_none h
 | int i t=>exact slicePart_int h
theorem sliceApplied_gen {sl:Addr} {vl vu:Value} {lo hi:Option Int} {n:Nat} {Q:Int × Int × Nat->Shared->Prop} (hs:s.heap.IsSliceOf sl vl vu .none) (pl:IsPart vl lo) (pu:IsPart vu hi)
  (h:Q (((sIx n 0 lo:Nat):Int),1,sIx n n hi - sIx n 0 lo) s):wpAny (model prog w) A (Builtin.Slice.sliceApplied (.ref sl) (pure (n:Int))) Q E s:=by
 obtain ⟨os,hos,hcs,hds⟩:=id hs
 unfold Builtin.Slice.sliceApplied Builtin.Slice.sliceFields
 refine wpAny_bind (wpAny_bind (wpAny_field hos hds (x:=vl) rfl (wpAny_bind (wpAny_field hos hds (x:=vu) rfl (wpAny_bind (wpAny_field hos hds (x:=.none) rfl (wpAny_pure ?_)))))))
 refine wpAny_bind (slicePart_none ?_)
 show wpAny _ _ (if ((1:Int) == 0)=true then _ else _) _ _ s
 rw [if_neg (by decide)]
 refine wpAny_bind (slicePart_ pl (wpAny_bind (slicePart_ pu (wpAny_bind (wpAny_pure ?_)))))
 show wpAny _ _ (match Builtin.Slice.sliceAdjust lo hi 1 (n:Int) with | (lo,hi)=>pure (lo,(1:Int),Builtin.Slice.slicePlaces lo hi 1)) _ _ s
 rw [adjust_gen lo hi n]
 show wpAny _ _ (pure (((sIx n 0 lo:Nat):Int),(1:Int),Builtin.Slice.slicePlaces ((sIx n 0 lo:Nat):Int) ((sIx n n hi:Nat):Int) 1)) _ _ s
 rw [places_gen]
 exact wpAny_pure h
theorem pick_gen (xs:Array Value) (i k:Nat):((List.range k).filterMap fun (m:Nat)=>xs[((i:Int)+(m:Int) * 1).toNat]?).toArray=((xs.toList.drop i).take k).toArray:=by
 have e:(fun (m:Nat)=>xs[((i:Int)+(m:Int) * 1).toNat]?)=fun m=>xs[i+m]?:=by
  funext m
  have:((i:Int)+(m:Int) * 1).toNat=i+m:=by omega
  rw [this]
 rw [e]
 have:=pick_run xs i k
 rw [List.filterMap_map] at this
 have e2:((fun x=>xs[x]?) ∘ fun x=>i+x)=fun m=>xs[i+m]?:=rfl
 rw [e2] at this
 rw [this]
theorem getItem_tuple_cut {t sl:Addr} {items:Array Value} {vl vu:Value} {lo hi:Option Int} {Q:Value->Shared->Prop} (ht:IsTup s.heap t items) (hs:s.heap.IsSliceOf sl vl vu .none) (pl:IsPart vl lo) (pu:IsPart vu hi)
  (hw:¬ (sIx items.size 0 lo=0/\sIx items.size items.size hi=items.size))
  (h:Q (.ref s.heap.objs.size) { s with heap:=s.heap.push { cls:=.type "tuple",data:=.seq ((items.toList.drop (sIx items.size 0 lo)).take (sIx items.size items.size hi - sIx items.size 0 lo)).toArray } })
  (hsz:items.size<=sizeLine):wpAny (model prog w) A (getItem (.ref t) (.ref sl)) Q E s:=by
 have htake:sizeOk (.seq ((items.toList.drop (sIx items.size 0 lo)).take (sIx items.size items.size hi - sIx items.size 0 lo)).toArray):=by
  show ((items.toList.drop (sIx items.size 0 lo)).take (sIx items.size items.size hi - sIx items.size 0 lo)).toArray.size<=sizeLine
  rw [List.size_toArray,List.length_take,List.length_drop,Array.length_toList]
  omega
 have hj:sIx items.size items.size hi<=items.size:=sIx_le _ _ (Nat.le_refl _) hi
 obtain ⟨os,hos,hcs,hds⟩:=id hs
 have hTs:s.TypeIs (.ref sl) "slice" := ⟨os,hos,hcs⟩
 unfold getItem
 try with_reducible refine wpAny_holding ?_
 first | refine wpAny_bind (wpAny_pure ?_) | skip
 refine wpAny_bind (wpAny_sequenceKey ht.typeIs (by decide) ?_)
 refine wpAny_bind (wpAny_callSpecial?_slot (name:=Str.ofString "__getitem__") ht.typeIs PyProof.Rows.slot_tuple_getitem
  (wpAny_call_entry PyProof.Rows.slot_tuple_getitem ht.typeIs entry_tuple_getitem ?_ (args_tuple_getitem _ _)))
 show wpAny _ _ (Builtin.Tuple.tupleItemsOf (.ref t) >>= _) _ _ s
 refine wpAny_bind (tupleItemsOf_ ht ?_)
 refine wpAny_bind (wpAny_typeOf hTs ?_)
 rw [if_pos (by decide)]
 refine wpAny_bind (sliceApplied_gen hs pl pu ?_)
 have hno:¬ ((((sIx items.size 0 lo:Nat):Int) == 0 && (1:Int) == 1 && (sIx items.size items.size hi - sIx items.size 0 lo) == items.size)=true):=by
  intro q
  rw [Bool.and_eq_true,Bool.and_eq_true] at q
  have q1:((sIx items.size 0 lo:Nat):Int)=0:=eq_of_beq q.1.1
  have q2:sIx items.size items.size hi - sIx items.size 0 lo=items.size:=eq_of_beq q.2
  exact hw ⟨by omega,by omega⟩
 show wpAny _ _ (if (((sIx items.size 0 lo:Nat):Int) == 0 && (1:Int) == 1 && (sIx items.size items.size hi - sIx items.size 0 lo) == items.size)=true then _ else _) _ _ s
 rw [if_neg hno,pick_gen]
 first
  | exact wpAny_bind (m:=Builtin.Tuple.tupleExact _) (wpAny_newObj_type (wpAny_pure ⟨_,rfl,wpAny_pure h⟩) htake)
  | exact wpAny_bind (m:=Builtin.Tuple.tupleExact _) (wpAny_newObj_type (wpAny_bind (wpAny_pure (wpAny_pure ⟨_,rfl,wpAny_pure h⟩))) htake)
  | exact wpAny_bind (wpAny_bind (m:=Builtin.Tuple.tupleExact _) (wpAny_newObj_type (wpAny_pure (wpAny_pure ⟨_,rfl,wpAny_pure h⟩)) htake))
  | exact wpAny_bind (wpAny_bind (m:=Builtin.Tuple.tupleExact _) (wpAny_newObj_type (wpAny_pure ⟨_,rfl,wpAny_pure h⟩) htake))
end
end HT
namespace L2
open PySem PySem.Spec PyProof.Rows
abbrev TO:=St->Hp->(Option Int->Hp->Prop)->Prop
section
variable {X:Cx} {e:Expr} {te:TE} {lo hi:Option Expr} {tl th:TO} {pos p2:Pos}
def SlR (X:Cx) (r:V->Option Int->Option Int->Hp->VK->Prop):Prop :=
 ∀ (pins:List (Addr × Obj)) (s:Shared) (σ:St) (H:Hp) (x:V) (v vl vu:Value) (lo hi:Option Int) (sl:Addr) (Q:VK),Inv X pins σ H s->RelV x v->s.heap.IsSliceOf sl vl vu .none->IsPart vl lo->IsPart vu hi->r x lo hi H Q ->
  ∃ T id,typeLookup (.type T) "__getitem__" = pure (some (.builtin id))/\s.TypeIs v T/\wpAny (model X.prog X.w) X.A (getItem v (.ref sl)) (EP X pins σ Q) X.xe s
def cutV (xs:List V) (lo hi:Option Int):List V:=(xs.drop (HT.sIx xs.length 0 lo)).take (HT.sIx xs.length xs.length hi - HT.sIx xs.length 0 lo)
theorem cutV_length (xs:List V) (lo hi:Option Int):(cutV xs lo hi).length<=xs.length:=by
 unfold cutV
 rw [List.length_take,List.length_drop]
 omega
def rSlT (K:PySem.W.Frag):V->Option Int->Option Int->Hp->VK->Prop:=fun x lo hi H Q=>∃ a xs,x=.ref a/\SqT K H a xs /\
 ¬ (HT.sIx xs.length 0 lo=0/\HT.sIx xs.length xs.length hi=xs.length)/\∀ p,H p=none->Q (.ref p) (upd H p (.tup (cutV xs lo hi)))
theorem sl_tup:SlR X (rSlT X.K):=by
 intro pins s σ H x v vl vu lo hi sl Q I rx hs pl pu h
 obtain ⟨a,xs,rfl,hx,hw,q⟩:=h
 cases rx
 obtain ⟨its,r,ht,hz⟩:=I.tuple hx
 have hlen:its.toArray.size=xs.length:=by rw [List.size_toArray];exact r.length.symm
 refine ⟨"tuple",_,PyProof.Rows.slot_tuple_getitem.lookup,ht.typeIs,?_⟩
 refine HT.getItem_tuple_cut ht hs pl pu (by rw [hlen];exact hw) ?_ (by rw [hlen];exact hz)
 rw [hlen]
 refine ⟨.ref s.heap.objs.size,_,I.laid (t':=s.toks) (o:=.tup (cutV xs lo hi)) (fun b ob q=>Heap.get?_push_of_some _ q) (Nat.le_refl _) ?_,rfl,q _ (I.hok.fresh (Nat.le_refl _))⟩
 exact ⟨⟨Nat.le_trans (cutV_length xs lo hi) hz,_,Heap.get?_push_size _ rfl,rfl⟩,_,(r.drop (HT.sIx xs.length 0 lo)).take (HT.sIx xs.length xs.length hi - HT.sIx xs.length 0 lo),IsTup.new _ _⟩
def rCatT (K:PySem.W.Frag):R2:=fun x y H Q=>∃ a b xs ys,x=.ref a/\y=.ref b/\SqT K H a xs/\SqT K H b ys/\xs≠[]/\xs.length+ys.length<=sizeLine /\
 (ys=[]->Q (.ref a) H)/\(ys≠[]->∀ p,H p=none->Q (.ref p) (upd H p (.tup (xs++ys))))
theorem Vals.nil_iff {xs:List V} {us:List Value} (r:Vals xs us):us=[] ↔ xs=[]:=by
 cases r with
 | nil=>simp
 | cons _ _=>simp
theorem op_catT:OpR X (binaryOp .Add) (rCatT X.K):=by
 intro pins s σ H x y v u Q I rx ry h
 obtain ⟨a,b,xs,ys,rfl,rfl,ha,hb,hx,hz,q1,q2⟩:=h
 cases rx
 cases ry
 obtain ⟨its,r1,p1,_⟩:=I.tuple ha
 obtain ⟨its2,r2,p2,_⟩:=I.tuple hb
 refine HT.cat_tup p1 p2 (fun z=>hx (r1.nil_iff.mp z)) (fun z=>⟨.ref a,H,I,rfl,q1 (r2.nil_iff.mp z)⟩) (fun z=>?_) (by rw [<- r1.length,<- r2.length];exact hz)
 refine ⟨.ref s.heap.objs.size,_,I.laid (t':=s.toks) (o:=.tup (xs++ys)) (fun b ob q=>Heap.get?_push_of_some _ q) (Nat.le_refl _) ?_,rfl,q2 (fun w=>z (r2.nil_iff.mpr w)) _ (I.hok.fresh (Nat.le_refl _))⟩
 exact ⟨⟨by rw [List.length_append];exact hz,_,Heap.get?_push_size _ rfl,rfl⟩,_,r1.append r2,IsTup.new _ _⟩
end
end L2
namespace L2
open PySem PySem.Spec PyProof.Rows
def ixN (n:Nat) (i:Int):Option Nat:=if 0<=i then (if i < n then some i.toNat else none) else if -(n:Int)<=i then some (i+n).toNat else none
def atI {α:Type} (xs:List α) (i:Int):Option α:=(ixN xs.length i).bind fun j=>xs[j]?
theorem ixN_seq {n:Nat} {i:Int} {j:Nat} (h:ixN n i=some j):seqIndex? i n=some j/\j < n/\-(n:Int)<=i/\i < n:=by
 unfold ixN at h
 by_cases h0:0<=i
 ·rw [if_pos h0] at h
  by_cases h1:i < n
  ·rw [if_pos h1] at h
   have e:i.toNat=j:=Option.some.inj h
   exact ⟨by rw [seqIndex_of h0 h1,e],by omega,by omega,h1⟩
  ·rw [if_neg h1] at h;cases h
 ·rw [if_neg h0] at h
  by_cases h1:-(n:Int)<=i
  ·rw [if_pos h1] at h
   have e:(i+n).toNat=j:=Option.some.inj h
   exact ⟨by rw [seqIndex_neg (by omega) h1,e],by omega,h1,by omega⟩
  ·rw [if_neg h1] at h;cases h
theorem atI_get {α:Type} {xs:List α} {i:Int} {v:α} (h:atI xs i=some v):∃ j,seqIndex? i xs.length=some j/\xs[j]?=some v/\j < xs.length/\-(xs.length:Int)<=i/\i < xs.length:=by
 unfold atI at h
 cases e:ixN xs.length i with
 | none=>rw [e] at h;cases h
 | some j =>
  rw [e] at h
  obtain ⟨h1,h2,h3,h4⟩:=ixN_seq e
  exact ⟨j,h1,h,h2,h3,h4⟩
theorem atI_nat {α:Type} {xs:List α} {j:Nat} {v:α} (h:xs[j]?=some v):atI xs (j:Int)=some v:=by
 have hj:j < xs.length:=(List.getElem?_eq_some_iff.mp h).1
 have e:ixN xs.length (j:Int)=some j:=by
  unfold ixN
  rw [if_pos (by omega),if_pos (by omega)];simp
 unfold atI;rw [e];exact h
theorem atI_last {α:Type} (xs:List α) (v:α):atI (xs++[v]) (-1)=some v:=by
 have hl:(xs++[v]).length=xs.length+1:=by simp
 have e:ixN (xs++[v]).length (-1)=some xs.length:=by
  unfold ixN
  rw [hl,if_neg (by decide),if_pos (by omega)]
  congr 1
  omega
 unfold atI
 rw [e]
 show (xs++[v])[xs.length]?=some v
 simp
def PlainIx (b:Expr):Prop:=∀ o i,subscripted b false o i=operate [o,i] (getItem o i)
def IxR (X:Cx) (r:R2):Prop :=
 ∀ (value slice:Expr) (pins:List (Addr × Obj)) (s:Shared) (σ:St) (H:Hp) (x y:V) (v u:Value) (Q:VK),Inv X pins σ H s->RelV x v->RelV y u->r x y H Q ->
  subscripted slice false v u=operate [v,u] (getItem v u)->wpAny (model X.prog X.w) X.A (subscriptTail value slice v u) (EP X pins σ Q) X.xe s
def MtR (X:Cx) (id:String) (r:V->List V->Hp->VK->Prop):Prop :=
 ∀ (pins:List (Addr × Obj)) (s:Shared) (σ:St) (H:Hp) (x:V) (xs:List V) (v:Value) (us:List Value) (Q:VK),Inv X pins σ H s->RelV x v->Vals xs us->r x xs H Q ->
  wpAny (model X.prog X.w) X.A (call (.builtin id) (v :: us)) (EP X pins σ Q) X.xe s
section
variable {X:Cx} {a b:Expr} {ta tb:TE} {pos:Pos}
theorem IxR.or {r r':R2} (h:IxR X r) (h':IxR X r'):IxR X (fun x y H Q=>r x y H Q\/r' x y H Q):=by
 intro value slice pins s σ H x y v u Q I rx ry q hs
 rcases q with q | q
 ·exact h value slice pins s σ H x y v u Q I rx ry q hs
 ·exact h' value slice pins s σ H x y v u Q I rx ry q hs
def rIxL (K:PySem.W.Frag):R2:=fun x y H Q=>∃ p xs i v,x=.ref p/\y=.int i/\SqL K H p xs/\atI xs i=some v/\Q v H
def rIxT (K:PySem.W.Frag):R2:=fun x y H Q=>∃ p xs i v,x=.ref p/\y=.int i/\SqT K H p xs/\atI xs i=some v/\Q v H
def rIxS:R2:=fun x y H Q=>∃ z i c,x=.str z/\y=.int i/\z.length<=sizeLine/\atI z.cps.toList i=some c/\Q (.str ⟨#[c]⟩) H
theorem ix_list:IxR X (rIxL X.K):=by
 intro value slice pins s σ H x y v u Q I rx ry h hs
 obtain ⟨p,xs,i,z,rfl,rfl,hq,he,q⟩:=h
 cases rx
 obtain ⟨t,rfl⟩:=ry
 obtain ⟨its,r,pl,hz⟩:=I.list hq
 obtain ⟨j,h1,h2,h3,h4,h5⟩:=atI_get he
 obtain ⟨w,ew,rw'⟩:=r.get h2
 have hl:=r.length
 have hn:=line63
 have fin:EP X pins σ Q w s:=⟨z,H,I,rw',q⟩
 by_cases h0:0<=i
 ·have hj:i.toNat=j:=by
   rw [seqIndex_of h0 h5] at h1
   exact Option.some.inj h1
  exact item_listR pl.isList h0 (by omega) (by rw [hj];simpa using ew) fin hs
 ·have hj:(i+(its.toArray.size:Int)).toNat=j:=by
   rw [seqIndex_neg (by omega) h4] at h1
   rw [List.size_toArray,<- hl]
   exact Option.some.inj h1
  exact subscriptTail_builtinR (x:=w) pl.isList.typeIs slot_list_getitem.lookup
   (wpAny_getItem_list_neg (Q:=fun r s'=>r=w/\EP X pins σ Q r s') pl.isList (by omega) (by rw [List.size_toArray]<;>omega) (by omega) (by rw [hj];simpa using ew) ⟨rfl,fin⟩) hs
theorem ix_tup:IxR X (rIxT X.K):=by
 intro value slice pins s σ H x y v u Q I rx ry h hs
 obtain ⟨p,xs,i,z,rfl,rfl,hq,he,q⟩:=h
 cases rx
 obtain ⟨t,rfl⟩:=ry
 obtain ⟨its,r,pl,hz⟩:=I.tuple hq
 obtain ⟨j,h1,h2,h3,h4,h5⟩:=atI_get he
 obtain ⟨w,ew,rw'⟩:=r.get h2
 have hl:=r.length
 have hn:=line63
 have fin:EP X pins σ Q w s:=⟨z,H,I,rw',q⟩
 exact subscriptTail_builtinR (x:=w) pl.typeIs slot_tuple_getitem.lookup
  (getItem_tuple (j:=j) (Q:=fun r s'=>r=w/\EP X pins σ Q r s') pl (by omega) (by omega) (by rw [List.size_toArray,<- hl];exact h1) (by simpa using ew) ⟨rfl,fin⟩) hs
theorem ix_str:IxR X rIxS:=by
 intro value slice pins s σ H x y v u Q I rx ry h hs
 obtain ⟨z,i,c,rfl,rfl,hz,he,q⟩:=h
 obtain ⟨t,rfl⟩:=rx
 obtain ⟨t',rfl⟩:=ry
 obtain ⟨j,h1,h2,h3,h4,h5⟩:=atI_get he
 have hl:z.cps.toList.length=z.length:=by simp [Str.length]
 rw [hl] at h1 h4 h5
 have hn:=line63
 exact tail_any (typeIs_str s z t) slot_str_getitem.lookup (getItem_str (c:=c) (by
  have e1:decide (i < -(2 ^ 63:Int))=false:=decide_eq_false (by omega)
  have e2:decide (i ≥ 2 ^ 63)=false:=decide_eq_false (by omega)
  rw [e1,e2,Bool.or_false]) (by rw [h1];simpa using h2) ⟨.str ⟨#[c]⟩,H,I.tok _,⟨_,rfl⟩,q⟩) hs
def rIx (K:PySem.W.Frag):R2:=fun x y H Q=>rIxL K x y H Q\/rIxT K x y H Q\/rIxS x y H Q
theorem ix_seq:IxR X (rIx X.K):=ix_list.or (ix_tup.or ix_str)
theorem mapSeq_set (its:List Value) (n j:Nat) (u:Value):Obj.mapSeq (·.setIfInBounds j u) { cls:=.type "list",data:=.seq its.toArray n }={ cls:=.type "list",data:=.seq (its.set j u).toArray n }:=by
 simp [Obj.mapSeq]
theorem Inv.lst {pins:List (Addr × Obj)} {σ:St} {H:Hp} {s:Shared} {p:Addr} {xs:List V} (I:Inv X pins σ H s) (h:H p=some (.lst xs)) :
  ∃ (its:List Value) (n:Nat),Vals xs its/\s.heap.get? p=some { cls:=.type "list",data:=.seq its.toArray n }/\xs.length<=sizeLine:=by
 obtain ⟨z,its,n,r,e⟩:=I.hok p _ h
 exact ⟨its,n,r,e,z⟩
theorem Inv.lstUpd {pins:List (Addr × Obj)} {σ:St} {H:Hp} {s:Shared} {p:Addr} {xs ys:List V} {its its':List Value} {n n':Nat} {f:Obj->Obj} (I:Inv X pins σ H s) (h:H p=some (.lst xs))
  (ho:s.heap.get? p=some { cls:=.type "list",data:=.seq its.toArray n }) (hf:f { cls:=.type "list",data:=.seq its.toArray n }={ cls:=.type "list",data:=.seq its'.toArray n' }) (r:Vals ys its') (hz:ys.length<=sizeLine) (t:Nat) :
  Inv X pins σ (upd H p (.lst ys)) { s with heap:=s.heap.update p f,toks:=t }:=by
 have e:(s.heap.update p f).get? p=some { cls:=.type "list",data:=.seq its'.toArray n' }:=by
  rw [Heap.get?_update_self f ho (by rw [hf]<;>rfl),hf]
 refine I.write (x:=p) (e:=p) (by rw [h];trivial) (.inl rfl) (fun b u hb q=>(Heap.get?_update_other _ _ (Ne.symm hb)).trans q) ⟨_,e⟩ ?_
 exact ⟨hz,its',n',r,e⟩
def rSetL:V->V->V->Hp->(Hp->Prop)->Prop:=fun o i v H Q=>∃ p xs k j,o=.ref p/\i=.int k/\H p=some (.lst xs)/\ixN xs.length k=some j/\Q (upd H p (.lst (xs.set j v)))
theorem set_list:PSet X rSetL:=by
 intro pins s σ H o i v ov iv u Q I ro ri rv h
 obtain ⟨p,xs,k,j,rfl,rfl,hp,hj,q⟩:=h
 cases ro
 obtain ⟨t,rfl⟩:=ri
 obtain ⟨its,n,r,ho,hz⟩:=I.lst hp
 obtain ⟨h1,h2,h3,h4⟩:=ixN_seq hj
 have hl:=r.length
 have hn:=line63
 have I':Inv X pins σ (upd H p (.lst (xs.set j v))) { s with heap:=s.heap.update p (Obj.mapSeq (·.setIfInBounds j u)) } :=
  I.lstUpd hp ho (mapSeq_set its n j u) (r.set rv j) (by rw [List.length_set];exact hz) s.toks
 by_cases h0:0<=k
 ·have hk:k.toNat=j:=by
   rw [seqIndex_of h0 h4] at h1
   exact Option.some.inj h1
  exact PySem.W.ki_setAt ho h0 (by omega) (by rw [List.size_toArray,<- hl];exact h4) (by rw [hk];exact ⟨_,I',q⟩)
 ·have hk:(k+(its.toArray.size:Int)).toNat=j:=by
   rw [seqIndex_neg (by omega) h3] at h1
   rw [List.size_toArray,<- hl]
   exact Option.some.inj h1
  exact PySem.W.ki_setBack ho (by omega) (by rw [List.size_toArray,<- hl];exact h3) (by omega) (by rw [hk];exact ⟨_,I',q⟩)
theorem slice_bounds (lo hi:Option Int) (n:Nat):(sliceBounds lo hi none n).1=((HT.sIx n 0 lo:Nat):Int)/\(sliceBounds lo hi none n).2.1=((HT.sIx n n hi:Nat):Int)/\(sliceBounds lo hi none n).2.2=1:=by
 refine ⟨?_,?_,rfl⟩
 ·cases lo with
  | none=>simp [sliceBounds,HT.sIx]
  | some i =>
   simp only [sliceBounds,HT.sIx,Option.getD_none,show (1:Int) > 0 by decide,if_true]
   by_cases h:i < 0
   ·simp only [h,if_true]<;>omega
   ·simp only [h,if_false]<;>omega
 ·cases hi with
  | none=>simp [sliceBounds,HT.sIx]
  | some i =>
   simp only [sliceBounds,HT.sIx,Option.getD_none,show (1:Int) > 0 by decide,if_true]
   by_cases h:i < 0
   ·simp only [h,if_true]<;>omega
   ·simp only [h,if_false]<;>omega
theorem slicePick_cut (its:List Value) (lo hi:Option Int):slicePick its.toArray lo hi none=((its.drop (HT.sIx its.length 0 lo)).take (HT.sIx its.length its.length hi - HT.sIx its.length 0 lo)).toArray:=by
 obtain ⟨h1,h2,h3⟩:=slice_bounds lo hi its.toArray.size
 unfold slicePick
 rw [h1,h2,h3]
 simp only [sliceRange_one,pick_run,List.size_toArray]<;>rfl
def rSlL (K:PySem.W.Frag):V->Option Int->Option Int->Hp->VK->Prop:=fun x lo hi H Q=>∃ a xs,x=.ref a/\SqL K H a xs/\∀ p,H p=none->Q (.ref p) (upd H p (.lst (cutV xs lo hi)))
theorem sl_list:SlR X (rSlL X.K):=by
 intro pins s σ H x v vl vu lo hi sl Q I rx hs pl pu h
 obtain ⟨a,xs,rfl,hx,q⟩:=h
 cases rx
 obtain ⟨its,r,ht,hz⟩:=I.list hx
 have hlen:=r.length
 refine ⟨"list",_,slot_list_getitem.lookup,ht.isList.typeIs,?_⟩
 refine wpAny_getItem_list_slice ht.isList hs pl pu .none (by simp) ?_ (by rw [List.size_toArray]<;>omega)
 rw [slicePick_cut,<- hlen]
 refine ⟨.ref s.heap.objs.size,_,I.laid (t':=s.toks) (o:=.lst (cutV xs lo hi)) (fun b ob q=>Heap.get?_push_of_some _ q) (Nat.le_refl _) ?_,rfl,q _ (I.hok.fresh (Nat.le_refl _))⟩
 exact ⟨Nat.le_trans (cutV_length xs lo hi) hz,_,0,(r.drop (HT.sIx xs.length 0 lo)).take (HT.sIx xs.length xs.length hi - HT.sIx xs.length 0 lo),Heap.get?_push_size _ rfl⟩
def flatV:V->Bool
 | .non=>true
 | .bl _=>true
 | .int _=>true
 | .str _=>true
 | _=>false
def eqV:V->V->Bool
 | .non,.non=>true
 | .bl a,.bl b=>a == b
 | .bl a,.int b=>(if a then 1 else 0) == b
 | .int a,.bl b=>a == (if b then 1 else 0)
 | .int a,.int b=>a == b
 | .str a,.str b=>a == b
 | _,_=>false
theorem eqAt_V {A:Around} {s:Shared} {y x:V} {u v:Value} (ry:RelV y u) (rx:RelV x v) (fy:flatV y=true) (fx:flatV x=true):SeqAt.EqAt A s u v (eqV y x):=by
 cases y with
 | non =>
  cases ry
  cases x with
  | non=>cases rx;exact SeqAt.EqAt.same _
  | bl b=>cases rx;exact SeqAt.EqAt.none_bool b
  | int b=>obtain ⟨t,rfl⟩:=rx;exact SeqAt.EqAt.none_int b t
  | str b=>obtain ⟨t,rfl⟩:=rx;exact SeqAt.EqAt.none_str b t
  | _=>exact absurd (show false=true from fx) Bool.false_ne_true
 | bl a =>
  cases ry
  cases x with
  | non=>cases rx;exact SeqAt.EqAt.bool_none a
  | bl b=>cases rx;exact SeqAt.EqAt.bool_bool a b
  | int b=>obtain ⟨t,rfl⟩:=rx;exact SeqAt.EqAt.bool_int a b t
  | str b=>obtain ⟨t,rfl⟩:=rx;exact SeqAt.EqAt.bool_str a b t
  | _=>exact absurd (show false=true from fx) Bool.false_ne_true
 | int a =>
  obtain ⟨t',rfl⟩:=ry
  cases x with
  | non=>cases rx;exact SeqAt.EqAt.int_none a t'
  | bl b=>cases rx;exact SeqAt.EqAt.int_bool a t' b
  | int b=>obtain ⟨t,rfl⟩:=rx;exact SeqAt.EqAt.int_int a t' b t
  | str b=>obtain ⟨t,rfl⟩:=rx;exact SeqAt.EqAt.int_str a t' b t
  | _=>exact absurd (show false=true from fx) Bool.false_ne_true
 | str a =>
  obtain ⟨t',rfl⟩:=ry
  cases x with
  | non=>cases rx;exact SeqAt.EqAt.str_none a t'
  | bl b=>cases rx;exact SeqAt.EqAt.str_bool a t' b
  | int b=>obtain ⟨t,rfl⟩:=rx;exact SeqAt.EqAt.str_int a t' b t
  | str b=>obtain ⟨t,rfl⟩:=rx;exact SeqAt.EqAt.str_str a t' b t
  | _=>exact absurd (show false=true from fx) Bool.false_ne_true
 | _=>exact absurd (show false=true from fy) Bool.false_ne_true
def eqU (x:V) (u:Value):Bool:=match u with
 | .none=>eqV .non x
 | .bool b=>eqV (.bl b) x
 | .int i _=>eqV (.int i) x
 | .str z _=>eqV (.str z) x
 | _=>false
theorem eqU_of {x y:V} {u:Value} (r:RelV y u) (f:flatV y=true):eqU x u=eqV y x:=by
 cases y with
 | non=>cases r;rfl
 | bl b=>cases r;rfl
 | int i=>obtain ⟨t,rfl⟩:=r;rfl
 | str z=>obtain ⟨t,rfl⟩:=r;rfl
 | _=>exact absurd (show false=true from f) Bool.false_ne_true
theorem any_eqU {x:V}:∀ {xs:List V} {us:List Value},Vals xs us->xs.all flatV=true->us.any (eqU x)=xs.any fun y=>eqV y x
 | _,_,.nil,_=>rfl
 | y :: xs,u :: us,.cons r t,f=>by
  rw [List.all_cons,Bool.and_eq_true] at f
  rw [List.any_cons,List.any_cons,eqU_of r f.1,any_eqU t f.2]
theorem mem_eqAt {A:Around} {s:Shared} {x:V} {v:Value} (rx:RelV x v) (fx:flatV x=true):∀ {xs:List V} {us:List Value},Vals xs us->xs.all flatV=true->∀ u∈us,SeqAt.EqAt A s u v (eqU x u)
 | _,_,.nil,_=>fun u hu=>by cases hu
 | y :: xs,u :: us,.cons r t,f=>fun u' hu=>by
  rw [List.all_cons,Bool.and_eq_true] at f
  rcases List.mem_cons.mp hu with rfl | hu
  ·rw [eqU_of r f.1];exact eqAt_V r rx f.1 fx
  ·exact mem_eqAt rx fx t f.2 u' hu
def inV (x:V) (xs:List V):Bool:=xs.any fun y=>eqV y x
def rIn (K:PySem.W.Frag) (neg:Bool):R2:=fun x y H Q=>∃ p xs,y=.ref p/\(SqL K H p xs\/SqT K H p xs)/\flatV x=true/\xs.all flatV=true/\Q (.bl (if neg then !inV x xs else inV x xs)) H
theorem op_in_seq:OpR X (compareOp .In) (rIn X.K false):=by
 intro pins s σ H x y v u Q I rx ry h
 obtain ⟨p,xs,rfl,hq,fx,fs,q⟩:=h
 cases ry
 rcases hq with hq | hq
 ·obtain ⟨its,r,pl,hz⟩:=I.list hq
  refine SeqAt.in_listAt (eqU x) pl.isList (fun w hw=>mem_eqAt rx fx r fs w (by simpa using hw)) ⟨.bl _,H,I,rfl,?_⟩
  rw [show its.toArray.any (eqU x)=its.any (eqU x) by simp,any_eqU r fs]
  exact q
 ·obtain ⟨its,r,pl,hz⟩:=I.tuple hq
  refine SeqAt.in_tupleAt (eqU x) pl (fun w hw=>mem_eqAt rx fx r fs w (by simpa using hw)) ⟨.bl _,H,I,rfl,?_⟩
  rw [show its.toArray.any (eqU x)=its.any (eqU x) by simp,any_eqU r fs]
  exact q
theorem call_len_seq:CallR X (.builtin "len") (fun xs H Q=>∃ p ys,xs=[.ref p]/\(SqL X.K H p ys\/SqT X.K H p ys)/\Q (.int ys.length) H):=by
 intro pins s σ H xs us Q I r h
 obtain ⟨p,ys,rfl,hq,q⟩:=h
 obtain ⟨u,rfl,rx⟩:=vals1 r
 cases rx
 have hn:=line63
 rcases hq with hq | hq
 ·obtain ⟨its,r',pl,hz⟩:=I.list hq
  have hlen:=r'.length
  exact Calls.call_len_list pl.isList (by simp only [List.size_toArray]<;>omega) ⟨.int ys.length,H,I.tok _,⟨s.toks+1,by rw [List.size_toArray,hlen]⟩,q⟩
 ·obtain ⟨its,r',pl,hz⟩:=I.tuple hq
  have hlen:=r'.length
  exact len_tuple pl (by simp only [List.size_toArray]<;>omega) ⟨.int ys.length,H,I.tok _,⟨s.toks+1,by rw [List.size_toArray,hlen]⟩,q⟩
theorem call_tuple_of:CallR X (.type "tuple") (fun xs H Q=>∃ p ys,xs=[.ref p]/\((SqL X.K H p ys/\∀ l,H l=none->Q (.ref l) (upd H l (.tup ys)))\/(SqT X.K H p ys/\Q (.ref p) H))):=by
 intro pins s σ H xs us Q I r h
 obtain ⟨p,ys,rfl,h⟩:=h
 obtain ⟨u,rfl,rx⟩:=vals1 r
 cases rx
 rcases h with ⟨hq,q⟩ | ⟨hq,q⟩
 ·obtain ⟨its,r',pl,hz⟩:=I.list hq
  have hlen:=r'.length
  refine call_tuple_list pl.isList (fun h' kp=>?_) (by simp only [List.size_toArray]<;>omega)
  have I1:Inv X pins σ H { s with heap:=h' }:=I.kept (t':=s.toks) kp
  have I2:Inv X pins σ (upd H h'.objs.size (.tup ys)) { s with heap:=h'.push { cls:=.type "tuple",data:=.seq its.toArray } } :=
   I1.laid (t':=s.toks) (fun b o e=>Heap.get?_push_of_some _ e) (Nat.le_refl _) (show ObjOk X.prog X.w _ _ _ (.tup ys) from ⟨⟨hz,_,Heap.get?_push_size _ rfl,rfl⟩,its,r',IsTup.new _ _⟩)
  exact ⟨.ref h'.objs.size,_,I2,rfl,q _ (I1.hok.fresh (Nat.le_refl _))⟩
 ·obtain ⟨its,r',pl,hz⟩:=I.tuple hq
  exact call_tuple_same pl ⟨.ref p,H,I,rfl,q⟩
def tyV (K:PySem.W.Frag) (T:String) (x:V) (H:Hp):Prop:=match x with
 | .str _=>T = "str"
 | .int _=>T = "int"
 | .ref p=>(T = "list" /\ ∃ xs,SqL K H p xs)\/(T = "tuple" /\ ∃ o,K.lookup p=some o/\o.cls=.type "tuple" /\ o.dict=none) \/
   (T = "dict" /\ ((∃ kvs,H p=some (.dK kvs))\/∃ kvs,H p=some (.dT kvs)))\/(T = "set" /\ ∃ S n,H p=some (.set S n))
 | _=>False
theorem tyV_is {pins:List (Addr × Obj)} {σ:St} {H:Hp} {s:Shared} {T:String} {x:V} {v:Value} (I:Inv X pins σ H s) (r:RelV x v) (ty:tyV X.K T x H) :
  s.TypeIs v T/\∀ a,v=.ref a->∃ ob,s.heap.get? a=some ob/\ob.dict=none:=by
 cases x with
 | str z =>
  obtain ⟨t,rfl⟩:=r
  cases (show T = "str" from ty)
  exact ⟨typeIs_str s z t,fun _ e=>nomatch e⟩
 | int i =>
  obtain ⟨t,rfl⟩:=r
  cases (show T = "int" from ty)
  exact ⟨typeIs_int s i t,fun _ e=>nomatch e⟩
 | ref p =>
  cases r
  rcases ty with ⟨rfl,xs,hq⟩ | ⟨rfl,o,hk,hc,hd⟩ | ⟨rfl,hk⟩ | ⟨rfl,S,n,hk⟩
  ·obtain ⟨its,_,pl,_⟩:=I.list hq
   refine ⟨pl.isList.typeIs,fun a e=>?_⟩
   cases e
   obtain ⟨o,n,e,c,hd,_⟩:=pl
   exact ⟨o,e,hd⟩
  ·refine ⟨⟨o,I.kIn p o hk,hc⟩,fun a e=>?_⟩
   cases e
   exact ⟨o,I.kIn _ o hk,hd⟩
  ·have z:∃ o,s.heap.get? p=some o/\o.ExactDict:=by
    rcases hk with ⟨kvs,hk⟩ | ⟨kvs,hk⟩
    ·obtain ⟨_,_,_,_,o,_,_,e,ex,_⟩:=I.hok p _ hk
     exact ⟨o,e,ex⟩
    ·obtain ⟨_,_,_,_,o,_,_,e,ex,_⟩:=I.hok p _ hk
     exact ⟨o,e,ex⟩
   obtain ⟨o,e,ex⟩:=z
   refine ⟨⟨o,e,ex.1⟩,fun a e2=>?_⟩
   cases e2
   exact ⟨o,e,ex.2.1⟩
  ·obtain ⟨o,_,_,_,e,ex,_⟩:=I.hok p _ hk
   refine ⟨⟨o,e,ex.1⟩,fun a e2=>?_⟩
   cases e2
   exact ⟨o,e,ex.2.1⟩
 | _=>exact False.elim ty
def tBM0 (K:PySem.W.Frag) (T:String) (r:V->List V->Hp->VK->Prop) (to:TE):TE:=fun σ H Q=>to σ H fun x H1=>tyV K T x H1/\r x [] H1 Q
def tBM (K:PySem.W.Frag) (T:String) (r:V->List V->Hp->VK->Prop) (to:TE) (t:TA):TE:=fun σ H Q=>to σ H fun x H1=>tyV K T x H1/\t σ H1 fun xs H2=>r x xs H2 Q
variable {o e:Expr} {es:List Expr} {to:TE} {t:TA} {name:Str} {apos cpos:Pos} {T id:String} {r:V->List V->Hp->VK->Prop}
theorem pe_bm0 (pa:PlainAttrs T) (slot:Slot T name id) (hty:typeOf (.builtin id)=pure (.type "method_descriptor")) (hm:MtR X id r) (ho:PE X o to)
  (hbase:attributeBase o name X.env (eval o X.env)=eval o X.env:=by rfl) (hline:(apos.endLine == cpos.line)=true:=by rfl):PE X (.Call (.Attribute o name apos) [] [] cpos) (tBM0 X.K T r to):=by
 intro pins s σ H Q I h
 refine wpAny_Call_method0_late hbase hline (thn (ho pins s σ H _ I h) fun v s1 ⟨x,H1,I1,r1,ty,q1⟩=>?_)
 obtain ⟨h1,h2⟩:=tyV_is I1 r1 ty
 exact ⟨T,id,pa,slot,hty,h1,h2,Calls.callWith_builtin rfl (PySem.evalArgs_none (hm pins s1 σ H1 x [] v [] Q I1 r1 .nil q1))⟩
theorem pe_bm (pa:PlainAttrs T) (slot:Slot T name id) (hty:typeOf (.builtin id)=pure (.type "method_descriptor")) (hm:MtR X id r) (ho:PE X o to) (ha:PA X (e :: es) t)
  (hbase:attributeBase o name X.env (eval o X.env)=eval o X.env:=by rfl)
  (hfew:((backTo cpos (starEach (e :: es) X.env)).all (fun x=>!x.1) && (backToKw cpos (keywordEach [] X.env)).all (fun x=>x.1.isSome)
   && decide ((e :: es).length+([] : List Keyword).length+(if ([] : List Keyword).isEmpty then 0 else 1) < 30))=true:=by rfl)
  (hline:(apos.endLine == cpos.line)=true:=by rfl) (hs:starEach (e :: es) X.env=(false,eval e X.env) :: starEach es X.env:=by rfl) (hplain:(backTo cpos (starEach es X.env)).any (·.1)=false:=by rfl) :
  PE X (.Call (.Attribute o name apos) (e :: es) [] cpos) (tBM X.K T r to t):=by
 intro pins s σ H Q I h
 refine wpAny_Call_method_late hbase hfew hline rfl (thn (ho pins s σ H _ I h) fun v s1 ⟨x,H1,I1,r1,ty,q1⟩=>?_)
 obtain ⟨h1,h2⟩:=tyV_is I1 r1 ty
 refine ⟨T,id,pa,slot,hty,h1,h2,?_⟩
 have hA:=ha cpos pins s1 σ H1 _ I1 q1
 rw [hs] at hA ⊢
 refine Calls.callWith_builtin (by show (false || (backTo cpos (starEach es X.env)).any (·.1))=false;rw [hplain]<;>rfl) (Calls.evalArgs_plain ?_)
 exact thn hA fun us s2 ⟨vs,H2,I2,r2,q2⟩=>hm pins s2 σ H2 x vs v us Q I2 r1 r2 q2
end
end L2
namespace L2
open PySem PySem.Spec PyProof.Rows
def MtM (X:Cx) (id:String) (r:V->List V->Hp->VK->Prop):Prop :=
 ∀ (pins:List (Addr × Obj)) (s:Shared) (σ:St) (H:Hp) (x:V) (xs:List V) (v:Value) (us:List Value) (Q:VK),Inv X pins σ H s->RelV x v->Vals xs us->r x xs H Q ->
  wpAny (model X.prog X.w) X.A (call (.builtin id) (v :: us)) (EP X pins σ Q) X.xe s
theorem Vals.one:∀ {x:V} {us:List Value},Vals [x] us->∃ u,us=[u]/\RelV x u
 | _,_,.cons r .nil=>⟨_,rfl,r⟩
theorem Vals.zero:∀ {us:List Value},Vals [] us->us=[]
 | _,.nil=>rfl
theorem Vals.dropLast {xs:List V} {us:List Value} (h:Vals xs us):Vals xs.dropLast us.dropLast:=by
 induction h with
 | nil=>exact .nil
 | cons r t ih =>
  cases t with
  | nil=>exact .nil
  | cons q t'=>exact .cons r ih
theorem erase_last {α:Type} (l:List α):l.eraseIdx (l.length - 1)=l.dropLast:=by
 induction l with
 | nil=>rfl
 | cons a r ih =>
  cases r with
  | nil=>rfl
  | cons b r =>
   have e:(a :: b :: r).length - 1=((b :: r).length - 1)+1:=by
    have h1:(a :: b :: r).length=r.length+2:=rfl
    have h2:(b :: r).length=r.length+1:=rfl
    omega
   rw [e,List.eraseIdx_cons_succ,ih]
   all_goals rfl
section
variable {X:Cx} {pins:List (Addr × Obj)} {σ:St} {H:Hp} {s:Shared} {l b:Addr} {xs ys zs:List V}
theorem Inv.lset {its its':List Value} {n:Nat} {f:Array Value->Array Value} {t':Nat} (I:Inv X pins σ H s) (hH:H l=some (.lst xs))
  (e:s.heap.get? l=some { cls:=.type "list",data:=.seq its.toArray n }) (hf:f its.toArray=its'.toArray) (hv:Vals ys its') (hz:ys.length<=sizeLine) :
  Inv X pins σ (upd H l (.lst ys)) { s with heap:=s.heap.update l (Obj.mapSeq f),toks:=t' }:=by
 have q:=PySem.IsL.update e f
 rw [hf] at q
 refine I.write (x:=l) (e:=l) (by rw [hH];exact trivial) (.inl rfl) (fun b' u hb hu=>(Heap.get?_update_other s.heap (Obj.mapSeq f) (Ne.symm hb)).trans hu) ⟨_,q⟩ ?_
 exact ⟨hz,its',_,hv,q⟩
theorem Inv.lnew {its:List Value} {t':Nat} (I:Inv X pins σ H s) (hv:Vals ys its) (hz:ys.length<=sizeLine) :
  Inv X pins σ (upd H s.heap.objs.size (.lst ys)) { s with heap:=s.heap.push { cls:=.type "list",data:=.seq its.toArray },toks:=t' } :=
 I.laid (fun _ _ q=>Heap.get?_push_of_some _ q) (Nat.le_refl _) ⟨hz,its,0,hv,Heap.get?_push_size _ rfl⟩
theorem Inv.fresh (I:Inv X pins σ H s):H s.heap.objs.size=none:=I.hok.fresh (Nat.le_refl _)
theorem Inv.lstM (I:Inv X pins σ H s) (hH:H l=some (.lst xs)):xs.length<=sizeLine/\∃ (its:List Value) (n:Nat),Vals xs its/\xs.length=its.length/\s.heap.get? l=some { cls:=.type "list",data:=.seq its.toArray n }:=by
 obtain ⟨z,its,n,r,e⟩:=I.hok l _ hH
 exact ⟨z,its,n,r,r.length,e⟩
end
section
variable {X:Cx}
def rAppend:V->List V->Hp->VK->Prop:=fun x vs H Q=>∃ l xs y,x=.ref l/\vs=[y]/\H l=some (.lst xs)/\xs.length < sizeLine/\Q .non (upd H l (.lst (xs++[y])))
theorem mt_append:MtM X "list.append" rAppend:=by
 intro pins s σ H x vs v us Q I rx rv h
 obtain ⟨l,xs,y,rfl,rfl,hH,hz,q⟩:=h
 cases rx
 obtain ⟨u,rfl,ru⟩:=rv.one
 obtain ⟨z,its,n,r,hl,e⟩:=I.lstM hH
 refine call_meets F.slot_list_append ⟨_,e,rfl⟩ F.entry_list_append (F.args_list_append_2 _ _) (PySem.list_append l its.toArray n u (by rw [List.size_toArray];omega)) ⟨e,?_⟩
 refine ⟨.non,_,I.lset (its':=its++[u]) hH e (by simp) (r.append (.cons ru .nil)) ?_,rfl,q⟩
 rw [List.length_append,List.length_singleton]
 omega
def rPop:V->List V->Hp->VK->Prop:=fun x vs H Q=>∃ l xs y,x=.ref l/\vs=[]/\H l=some (.lst xs)/\xs[xs.length - 1]?=some y/\Q y (upd H l (.lst xs.dropLast))
theorem mt_pop:MtM X "list.pop" rPop:=by
 intro pins s σ H x vs v us Q I rx rv h
 obtain ⟨l,xs,y,rfl,rfl,hH,hy,q⟩:=h
 cases rx
 have hus:=rv.zero
 subst hus
 obtain ⟨z,its,n,r,hl,e⟩:=I.lstM hH
 obtain ⟨u,hu,ru⟩:=r.get hy
 have hy':its.toArray[its.toArray.size - 1]?=some u:=by
  show its.toArray[its.length - 1]?=some u
  rw [<- Array.getElem?_toList,<- hl]
  exact hu
 refine call_meets F.slot_list_pop ⟨_,e,rfl⟩ F.entry_list_pop (F.args_list_pop_1 _) (MeetsSeq.list_pop_last l its.toArray n u hy' (by rw [List.size_toArray];omega)) ⟨e,?_⟩
 refine ⟨y,_,I.lset (its':=its.dropLast) hH e ?_ r.dropLast ?_,ru,q⟩
 ·show its.toArray.eraseIdxIfInBounds (its.toArray.size - 1)=its.dropLast.toArray
  rw [List.size_toArray,List.eraseIdxIfInBounds_toArray,erase_last]
 ·rw [List.length_dropLast]
  omega
def rCat:R2:=fun x y H Q=>∃ l b xs zs,x=.ref l/\y=.ref b/\H l=some (.lst xs)/\H b=some (.lst zs)/\xs.length+zs.length<=sizeLine/\∀ p,H p=none->Q (.ref p) (upd H p (.lst (xs++zs)))
theorem op_cat:OpR X (binaryOp .Add) rCat:=by
 intro pins s σ H x y v u Q I rx ry h
 obtain ⟨l,b,xs,zs,rfl,rfl,hH,hB,hz,q⟩:=h
 cases rx
 cases ry
 obtain ⟨z,its,n,r,hl,e⟩:=I.lstM hH
 obtain ⟨z2,its2,n2,r2,hl2,e2⟩:=I.lstM hB
 refine PySem.P.add_list e e2 ?_ (by rw [List.size_toArray,List.size_toArray];omega)
 have ea:its.toArray++its2.toArray=(its++its2).toArray:=by simp
 rw [ea]
 exact ⟨.ref _,_,I.lnew (t':=s.toks) (r.append r2) (by rw [List.length_append];omega),rfl,q _ I.fresh⟩
end
section
variable {prog:Program} {w:World} {A:Around} {E:Value->Shared->Prop} {s:Shared}
end
section
variable {X:Cx}
end
end L2
namespace Att
open PySem PySem.W PySem.Calls PyProof.Rows
theorem ints_of_wellAll {P:Params} {h:Heap}:∀ (ns:List Int) (vs:List Value),WellAll P h vs (ns.map WData.int)->IntsAre vs ns:=by
 intro ns
 induction ns with
 | nil =>
  intro vs w
  rw [List.map_nil] at w
  cases w
  exact .nil
 | cons n ns ih =>
  intro vs w
  rw [List.map_cons] at w
  cases w with
  | cons a b =>
   cases a
   exact .cons _ _ (ih _ b)
theorem script_of {l:OpenLaw} {n:Nat} (hn:l.most=some n) {P:Params} {h:Heap} {args:List WData} {vals:List Value}
  (hpre:l.row.toRowW.claim.pre args=true) (hwl:WellAll P h vals args) :
  ∃ a vs ns,vals=[Value.ref a]/\args=[WData.list (ns.map WData.int)]/\h.get? a=some { cls:=.type "list",data:=.seq vs.toArray }/\IntsAre vs ns/\ns.length<=n:=by
 have hsh:WShape.hasAll [] args [.list .int]=true:=(pre_splitW hpre).1
 have hc:l.pre.holds [] { args:=args }=true:=(pre_splitW hpre).2
 obtain ⟨d,r,rfl,h1,h2⟩:=hasAllW_cons hsh
 obtain rfl:=hasAllW_nil h2
 obtain ⟨xs,rfl,h3⟩:=hasW_list h1
 obtain ⟨ns,rfl⟩:=items_int h3
 have hlen:ns.length<=n:=by
  unfold OpenLaw.pre at hc
  have h4:(WTm.not (.lt (.lit (.int (n:Int))) (.len (.arg 0)))).holds [] { args:=[.list (ns.map .int)] }=true:=by
   have h4:=(holds_andW hc).1
   rw [hn] at h4
   exact h4
  have h5:=condW_of h4 (w_not (w_lt w_lit (w_len_list (w_arg rfl))))
  rw [List.length_map] at h5
  refine Nat.le_of_not_lt fun q=>?_
  have q':(n:Int) < ((ns.length:Nat):Int):=by omega
  first
   | (rw [decide_eq_true q'] at h5;exact absurd h5 (by decide))
   | (simp at h5;omega)
 cases hwl with
 | cons w1 w2 =>
  cases w2
  cases w1 with
  | list ho hall=>exact ⟨_,_,ns,rfl,rfl,ho,ints_of_wellAll ns _ hall,hlen⟩
theorem post_true (l:OpenLaw) (args:List WData):l.row.toRowW.claim.post args (.bool true) args=true :=
 postW_of (r:=l.row.toRowW) (X:=(true == true))
  (show WShape.has [] (.bool true) .bool=true by first | rfl | decide | simp [WShape.has,WShape.arms,WShape.armsAll])
  (show (WTm.eq .res (.lit (.bool true))).value [] { args:=args,res:=some (.bool true),after:=args }=some (.bool (true == true)) from w_eq_bool (w_res rfl) w_lit) rfl
section
variable {prog:Program} {w:World} {A:Around} {E:Value->Shared->Prop} {s:Shared} {K:Frag}
def ledger (h:Heap) (L d:Addr):List (Addr × Obj):=(List.range h.objs.size).filterMap fun a=>if a=L\/a=d then none else (h.get? a).map fun o=>(a,o)
end
end Att
namespace L2
open PySem PySem.Spec PyProof.Rows
theorem vals_ints:∀ {vs:List Value} {ns:List Int},IntsAre vs ns->Vals (ns.map V.int) vs
 | _,_,.nil=>.nil
 | _,_,.cons n t h=>.cons ⟨t,rfl⟩ (vals_ints h)
def Only (H:Hp):Prop:=∀ b,H b=none\/∃ o xs,H b=some (.frz o (.lst xs))
theorem law_call {P:Program} {w:World} {K:PySem.W.Frag} {mg mb:Str->Option Value} {CX:CXT} {k:Nat} {fa a:Addr} {fd:FuncData} {x:Str} {sp:Sp} {s₁:Shared} {vs:List Value} {ns:List Int}
  (KX:K.In s₁.heap) (hns:s₁.heap.Ns mainGlobals mg) (hb:s₁.heap.Ns builtinsNs mb) (hbb:∀ x:Str,x ≠ "__name__" -> mb x=bootBuiltins x) (hlim:s₁.heap.NoLimit) (hg:s₁.gens=#[])
  (ha:s₁.heap.get? a=some { cls:=.type "list",data:=.seq vs.toArray }) (hi:IntsAre vs ns) (hl:ns.length<=sizeLine) (hr:Room k callerA)
  (F:∀ base:Heap,K.In base->base.Ns mainGlobals mg->FnOk P w K mg base CX k fa fd [x] sp) (hbind:∀ (s:Shared) (u:Value),BindsTo s fd ⟨[u],[]⟩ [(x,u)])
  (hsp:∀ H:Hp,Only H->SqL K H a (ns.map V.int)->sp [.ref a] H (fun v _=>v=.bl true) fun _ _ _=>False)
  (hCX:∀ H e s',CX [] H s₁ (fun _ _ _=>False) e s'->False) :
  codeAny (model P w) callerA (.call (.ref fa) ⟨[.ref a],[]⟩) (fun r s'=>r=.ok (.ret (.bool true))/\OldK s₁.heap s'.heap/\s'.os=s₁.os/\AllBare s'.gens) s₁:=by
 have rv:=vals_ints hi
 have lenV:=hi.length
 have core:∀ H:Hp,Only H->SqL K H a (ns.map V.int)->HOk P w H s₁.heap->(∀ b,H b≠none->b=a)->(H a≠none->K.lookup a=none) ->
   codeAny (model P w) callerA (.call (.ref fa) ⟨[.ref a],[]⟩) (fun r s'=>r=.ok (.ret (.bool true))/\OldK s₁.heap s'.heap/\s'.os=s₁.os/\AllBare s'.gens) s₁:=by
  intro H hO hS hok hA hK
  have base_of:∀ {b:Addr} {o:Obj},s₁.heap.get? b=some o->H b=none->(hidT s₁.heap H).get? b=some o:=fun e n=>hidT_get e n
  have noA:∀ {b:Addr} {o:Obj} {es:Array DictEntry} {ep:Nat},s₁.heap.get? b=some o->o.data=.dict es ep->H b=none:=fun {b o es ep} e d=>by
   cases q:H b with
   | none=>rfl
   | some u =>
    have e':b=a:=hA b (by rw [q];simp)
    subst e'
    rw [ha] at e;cases e
    have d':Data.seq vs.toArray _=Data.dict es ep:=d
    cases d'
  have nsK:∀ {b:Addr} {m:Str->Option Value},s₁.heap.Ns b m->(hidT s₁.heap H).Ns b m:=fun {b m} ⟨o,es,ep,e,d,r⟩=>⟨o,es,ep,base_of e (noA e d),d,r⟩
  have hKb:K.In (hidT s₁.heap H):=fun b o e=>base_of (KX b o e) (by
   cases q:H b with
   | none=>rfl
   | some u =>
    have e':b=a:=hA b (by rw [q];simp)
    subst e'
    rw [hK (by rw [q];simp)] at e;cases e)
  have hM:Mod K mg (hidT s₁.heap H):=⟨hKb,nsK hns,⟨mb,nsK hb,hbb⟩,let ⟨mc,h1,h2⟩:=hlim;⟨mc,nsK h1,h2⟩⟩
  have e0:Env0 P w K mg (hidT s₁.heap H) callerA [] s₁ H:=⟨rfl,hM,fun b o e=>of_hidT e,Nat.le_of_eq (hidT_size _ _),trivial,fun b hb=>absurd (show b∈([] : List Addr) from hb) (by simp),hok,.of_eq hg⟩
  refine codeAny_mono ((F _ hKb (nsK hns)).run callerA [] s₁ H ⟨[.ref a],[]⟩ [.ref a] [.ref a] _ _ hr e0 (hbind s₁ (.ref a)) (.cons rfl .nil) (hsp H hO hS)) fun r s' h=>?_
  cases r with
  | error e=>exact (hCX H e s' h).elim
  | ok fl =>
   cases fl with
   | next=>exact False.elim h
   | brk=>exact False.elim h
   | cont=>exact False.elim h
   | ret u =>
    obtain ⟨v,H',os,bare,un,hok',r',q⟩:=h
    have q':v=.bl true:=q
    subst q'
    obtain rfl:u=Value.bool true:=r'
    refine ⟨rfl,OldK.of_keep fun b o e=>?_,os,bare⟩
    cases q:H b with
    | none=>exact un.keep b o e q (by intro z;exact absurd (show b∈([] : List Addr) from z) (by simp)) (by simp)
    | some u =>
     rcases hO b with z | ⟨ob,xs,z⟩
     ·rw [q] at z;cases z
     ·have z2:=un.frzs b ob _ z
      obtain ⟨e1,_⟩:=hok b _ z
      obtain ⟨e2,_⟩:=hok' b _ z2
      rw [e] at e1;cases e1
      exact e2
 cases hk:K.lookup a with
 | some o =>
  have e:=KX a o hk
  rw [ha] at e
  cases e
  refine core (fun _=>none) (fun _=>.inl rfl) (.inr ⟨_,vs.toArray,_,hk,rfl,rfl,rfl,by rw [List.size_toArray,lenV];exact hl,by simpa using rv⟩) (fun b u z=>by have z':(none:Option HO)=some u:=z;cases z') (fun b z=>absurd rfl z) fun z=>absurd rfl z
 | none =>
  refine core (fun b=>if b=a then some (.frz { cls:=.type "list",data:=.seq vs.toArray } (.lst (ns.map V.int))) else none) (fun b=>?_) (.inl (.inr ⟨{ cls:=.type "list",data:=.seq vs.toArray },if_pos rfl⟩)) (fun b u z=>?_) (fun b z=>?_) fun _=>hk
  ·by_cases hb:b=a
   ·exact .inr ⟨_,_,if_pos hb⟩
   ·exact .inl (if_neg hb)
  ·by_cases hb:b=a
   ·have z':=(if_pos hb).symm.trans z
    cases z'
    subst hb
    exact ⟨ha,by rw [List.length_map];exact hl,vs,_,rv,ha⟩
   ·have z':=(if_neg hb).symm.trans z
    cases z'
  ·by_cases hb:b=a
   ·exact hb
   ·exact absurd (if_neg hb) z
end L2
namespace L2
open PySem PySem.Spec PyProof.Rows
abbrev KOf {K:PySem.W.Frag} {h:Heap} (_:K.In h):PySem.W.Frag:=K
end L2
namespace L2
open PySem PySem.Spec PyProof.Rows
def inClass (s:Stmt) (j:Nat):Stmt:=match s with
 | .ClassDef _ _ _ body _ _ _ _ _ _ _=>body.getD j (.Pass ⟨0,0,0,0⟩)
 | _=>.Pass ⟨0,0,0,0⟩
def defArgs (s:Stmt):Arguments:=match s with
 | .FunctionDef _ a _ _ _ _ _ _ _ _=>a
 | _=>{ posonlyargs:=[],args:=[],vararg:=none,kwonlyargs:=[],kw_defaults:=[],kwarg:=none,defaults:=[] }
def defBody (s:Stmt):List Stmt:=match s with
 | .FunctionDef _ _ b _ _ _ _ _ _ _=>b
 | _=>[]
def defScope (s:Stmt):Scope:=match s with
 | .FunctionDef _ _ _ _ _ _ sc _ _ _=>sc
 | _=>{ kind:=.function,names:=[],isGenerator:=false,isCoroutine:=false }
abbrev CX0:CXT:=fun _ _ _ _ _ _=>False
abbrev E0:XK:=fun _ _ _=>False
theorem pass0 {X:Cx}:Passes CX0 X E0:=fun _ _ _ _ _ _ _ h=>h.elim
structure Fun (K:PySem.W.Frag) (x qual:Str) (st:Stmt) (f:Addr) (fd:FuncData):Prop where
 ex:∃ (oc:Value) (od:Option Addr) (kV doc pm:Value) (an:Option Addr) (cdv ct:Value) (osl:Array (Option Value)),
  fd=PySem.W.fnOf x qual (defArgs st) (defBody st) (defScope st) .none kV doc pm an cdv ct/\K.lookup f=some ⟨oc,od,.func fd,osl⟩/\PySem.W.codeIn K cdv qual=true
 kp:PySem.W.keepIn K (.ref f)=true
section
variable {P:Program} {w:World} {K:PySem.W.Frag} {mg:Str->Option Value} {base:Heap}
theorem Fun.ok {x qual:Str} {st:Stmt} {f:Addr} {fd:FuncData} {N ps:List Str} {k:Nat} {sp:Sp} (F:Fun K x qual st f fd) (S:FnScope N ps (defScope st)) (len:∀ vs H Q E,sp vs H Q E->vs.length=ps.length)
  (hbody:∀ (cdv:Value) (A:Around) (outer:List Env) (s:Shared) (H:Hp) (vs:List V) (Q:VK) (E:XK),Room k (A.deeper (envOfC qual (defScope st) s.heap.objs.size f cdv))->sp vs H Q E ->
   ∃ t,PSs (cxOf CX0 P w K mg base N qual (defScope st) f cdv A outer s H E).nox (defBody st) t/\t { nx:=fun _ H'=>Q .non H',rt:=Q } (start N vs) H):FnOk P w K mg base CX0 (k+1) f fd ps sp:=by
 obtain ⟨oc,od,kV,doc,pm,an,cdv,ct,osl,rfl,lk,hcd⟩:=F.ex
 refine fn_of lk hcd S len fun A outer s H vs Q E hr hsp=>?_
 obtain ⟨t,h,q⟩:=hbody cdv A outer s H vs Q E hr hsp
 exact ⟨t,h.nox,q⟩
theorem Fun.binds {x qual:Str} {st:Stmt} {f:Addr} {fd:FuncData} {ps:List Str} (F:Fun K x qual st f fd)
  (h:∀ (kV doc pm:Value) (an:Option Addr) (cdv ct:Value) (us:List Value),us.length=ps.length->bindArgs (PySem.W.fnOf x qual (defArgs st) (defBody st) (defScope st) .none kV doc pm an cdv ct) ⟨us,[]⟩=pure (ps.zip us)):Binds K fd ps []:=by
 obtain ⟨oc,od,kV,doc,pm,an,cdv,ct,osl,rfl,lk,hcd⟩:=F.ex
 exact .all (h kV doc pm an cdv ct)
theorem fun_mk {x qual:Str} {st:Stmt} {f:Addr} {oc:Value} {od an:Option Addr} {osl:Array (Option Value)} {kV doc pm cdv ct:Value} (l:K.lookup f=some ⟨oc,od,.func (PySem.W.fnOf x qual (defArgs st) (defBody st) (defScope st) .none kV doc pm an cdv ct),osl⟩)
  (c:PySem.W.codeIn K cdv qual=true) (k:PySem.W.keepIn K (.ref f)=true):Fun K x qual st f (PySem.W.fnOf x qual (defArgs st) (defBody st) (defScope st) .none kV doc pm an cdv ct):=⟨⟨oc,od,kV,doc,pm,an,cdv,ct,osl,rfl,l,c⟩,k⟩
end
theorem small1000 {n:Nat} (h:n<=1000):n < sizeLine:=Nat.lt_of_le_of_lt h (by decide)
section
variable {X:Cx}
end
end L2
namespace L2
open PySem PySem.Spec PyProof.Rows
section
variable {κ:Type} [DecidableEq κ]
def valV (kvs:List (κ × V)) (k:κ):Option V:=(kvs.find? fun kv=>decide (kv.1=k)).map (·.2)
def putK (kvs:List (κ × V)) (k:κ) (v:V):List (κ × V) :=
 if (kvs.any fun kv=>decide (kv.1=k))=true then kvs.map (fun kv=>if kv.1=k then (kv.1,v) else kv) else kvs++[(k,v)]
theorem valV_nil {k:κ}:valV ([] : List (κ × V)) k=none:=rfl
theorem valV_pos {p:κ × V} {r:List (κ × V)} {k:κ} (e:p.1=k):valV (p :: r) k=some p.2:=by simp [valV,List.find?_cons,e]
theorem valV_neg {p:κ × V} {r:List (κ × V)} {k:κ} (e:¬ p.1=k):valV (p :: r) k=valV r k:=by simp [valV,List.find?_cons,e]
theorem valV_any (k:κ):∀ kvs:List (κ × V),(kvs.any fun kv=>decide (kv.1=k))=(valV kvs k).isSome
 | []=>rfl
 | p :: r=>by
  rw [List.any_cons]
  by_cases e:p.1=k
  ·simp only [valV_pos e,decide_eq_true e,Bool.true_or,Option.isSome_some]
  ·rw [valV_neg e,decide_eq_false e,Bool.false_or];exact valV_any k r
theorem length_putK (kvs:List (κ × V)) (k:κ) (v:V):(putK kvs k v).length<=kvs.length+1:=by
 unfold putK
 split
 ·rw [List.length_map];omega
 ·rw [List.length_append,List.length_cons,List.length_nil];omega
theorem RelO.isSome_eq {o:Option V} {u:Option Value} (r:RelO o u):o.isSome=u.isSome:=by
 cases o with
 | none=>cases u with
  | none=>rfl
  | some _=>exact (show False from r).elim
 | some _=>cases u with
  | none=>exact (show False from r).elim
  | some _=>rfl
theorem KV.val {kvs:List (κ × V)} {vs:List (κ × Value)} (r:KV kvs vs) (k:κ):RelO (valV kvs k) (valueAt vs k):=by
 unfold KV at r
 induction r with
 | nil=>exact True.intro
 | @cons p q ps qs h t ih =>
  obtain ⟨h1,h2⟩:=h
  by_cases e:p.1=k
  ·have e':q.1=k:=h1.symm.trans e
   have b:valueAt (q :: qs) k=some q.2:=by simp [valueAt,List.find?_cons,e']
   rw [valV_pos e,b];exact h2
  ·have e':¬ q.1=k:=fun z=>e (h1.trans z)
   have b:valueAt (q :: qs) k=valueAt qs k:=by simp [valueAt,List.find?_cons,e']
   rw [valV_neg e,b];exact ih
theorem KV.any {kvs:List (κ × V)} {vs:List (κ × Value)} (r:KV kvs vs) (k:κ):(kvs.any fun kv=>decide (kv.1=k))=vs.any fun kv=>decide (kv.1=k):=by
 unfold KV at r
 induction r with
 | nil=>rfl
 | cons h t ih=>rw [List.any_cons,List.any_cons,ih,h.1]
theorem KV.repl {kvs:List (κ × V)} {vs:List (κ × Value)} (r:KV kvs vs) (k:κ) {y:V} {u:Value} (ry:RelV y u) :
  KV (kvs.map fun kv=>if kv.1=k then (kv.1,y) else kv) (vs.map fun kv=>if kv.1=k then (kv.1,u) else kv):=by
 unfold KV at r ⊢
 induction r with
 | nil=>exact .nil
 | @cons p q ps qs h t ih =>
  rw [List.map_cons,List.map_cons]
  refine .cons ?_ ih
  obtain ⟨h1,h2⟩:=h
  by_cases e:p.1=k
  ·rw [if_pos e,if_pos (h1.symm.trans e)];exact ⟨h1,ry⟩
  ·rw [if_neg e,if_neg (fun z=>e (h1.trans z))];exact ⟨h1,h2⟩
theorem KV.put {kvs:List (κ × V)} {vs:List (κ × Value)} (r:KV kvs vs) (k:κ) {y:V} {u:Value} (ry:RelV y u):KV (putK kvs k y) (stored vs k u):=by
 unfold putK stored
 rw [r.any k]
 by_cases e:(vs.any fun kv=>decide (kv.1=k))=true
 ·rw [if_pos e,if_pos e];exact r.repl k ry
 ·rw [if_neg e,if_neg e];exact Paired.snoc r ⟨rfl,ry⟩
theorem KV.length {kvs:List (κ × V)} {vs:List (κ × Value)} (r:KV kvs vs):kvs.length=vs.length:=Paired.length r
end
theorem kV_is {P:Program} {w:World} {k:Key} {u:Value} (r:RelV (kV k) u):(mixKind P w).is k u=true:=by
 cases k with
 | inl i=>obtain ⟨t,e⟩:=(show ∃ t,u=Value.int i t from r);subst e;exact mixKind_int P w i t
 | inr x=>obtain ⟨t,e⟩:=(show ∃ t,u=Value.str x t from r);subst e;exact mixKind_str P w x t
theorem items_are {P:Program} {w:World}:∀ {ks:List Key} {us:List Value},Vals (ks.map kV) us->ItemsAre (mixKind P w) ks us
 | [],_,r=>by rw [List.map_nil] at r;cases r;exact .nil
 | k :: ks,_,r=>by
  rw [List.map_cons] at r
  cases r with
  | cons h t=>exact .cons (kV_is h) (items_are t)
abbrev KT (H:Hp):List (List Key × V)->List (List Key × Addr × Value)->Prop:=Paired fun p q=>p.1=q.1/\H q.2.1=some (.tup (p.1.map kV))/\RelV p.2 q.2.2
theorem KT.val {H:Hp} {kvs:List (List Key × V)} {xs:List (List Key × Addr × Value)} (r:KT H kvs xs) (k:List Key):RelO (valV kvs k) ((atKey xs k).map (·.2)):=by
 induction r with
 | nil=>exact True.intro
 | @cons p q ps qs h t ih =>
  obtain ⟨h1,_,h2⟩:=h
  by_cases e:p.1=k
  ·have e':q.1=k:=h1.symm.trans e
   have b:atKey (q :: qs) k=some q.2:=by simp [atKey,List.find?_cons,e']
   rw [valV_pos e,b];exact h2
  ·have e':¬ q.1=k:=fun z=>e (h1.trans z)
   have b:atKey (q :: qs) k=atKey qs k:=by simp [atKey,List.find?_cons,e']
   rw [valV_neg e,b];exact ih
theorem KT.repl {H:Hp} {kvs:List (List Key × V)} {xs:List (List Key × Addr × Value)} (r:KT H kvs xs) (k:List Key) {y:V} {u:Value} (ry:RelV y u) :
  KT H (kvs.map fun kv=>if kv.1=k then (kv.1,y) else kv) (xs.map (putAt k u)):=by
 induction r with
 | nil=>exact .nil
 | @cons p q ps qs h t ih =>
  rw [List.map_cons,List.map_cons]
  refine .cons ?_ ih
  obtain ⟨h1,h2,h3⟩:=h
  unfold putAt
  by_cases e:p.1=k
  ·rw [if_pos e,if_pos (h1.symm.trans e)];exact ⟨h1,h2,ry⟩
  ·rw [if_neg e,if_neg (fun z=>e (h1.trans z))];exact ⟨h1,h2,h3⟩
theorem KT.put {H:Hp} {kvs:List (List Key × V)} {xs:List (List Key × Addr × Value)} (r:KT H kvs xs) (k:List Key) {b:Addr} {y:V} {u:Value} (hb:H b=some (.tup (k.map kV))) (ry:RelV y u) :
  KT H (putK kvs k y) (storedH xs k b u):=by
 have e:(kvs.any fun kv=>decide (kv.1=k))=(atKey xs k).isSome:=by
  rw [valV_any,(r.val k).isSome_eq,Option.isSome_map]
 unfold putK storedH
 rw [e]
 by_cases q:(atKey xs k).isSome=true
 ·rw [if_pos q,if_pos q];exact r.repl k ry
 ·rw [if_neg q,if_neg q];exact Paired.snoc r ⟨rfl,hb,ry⟩
theorem KT.keeps {H H':Hp} {kvs:List (List Key × V)} {xs:List (List Key × Addr × Value)} (r:KT H kvs xs) (ht:∀ b ys,H b=some (.tup ys)->H' b=some (.tup ys)):KT H' kvs xs :=
 Paired.mapP r fun _ _ z=>⟨z.1,ht _ _ z.2.1,z.2.2⟩
section
variable {P:Program} {w:World} {H:Hp} {h:Heap} {a:Addr}
theorem rd_of {u:HO} (ok:HOk P w H h) (e:Rd H a u):ObjOk P w H h a u:=e.ok ok
theorem dk_rd {kvs:List (Key × V)} (ok:HOk P w H h) (e:Rd H a (.dK kvs)):kvs.length<=sizeLine/\(a == sysModules)=false/\∃ vs,KV kvs vs/\h.DictOf (mixKind P w) a vs :=
 show ObjOk P w H h a (.dK kvs) from rd_of ok e
theorem dk_of {kvs:List (Key × V)} (ok:HOk P w H h) (e:H a=some (.dK kvs)):kvs.length<=sizeLine/\(a == sysModules)=false/\∃ vs,KV kvs vs/\h.DictOf (mixKind P w) a vs:=dk_rd ok (.inl e)
theorem key_of {ks:List Key} (ok:HOk P w H h) (e:H a=some (.tup (ks.map kV))):(tupleKind (mixKind P w)).is h ks a:=by
 obtain ⟨_,its,r,o,h1,h2,n,h3⟩:=(show ObjOk P w H h a (.tup (ks.map kV)) from ok a _ e)
 exact ⟨o,its.toArray,n,h1,h2,h3,by simpa using items_are r⟩
theorem dt_rd {kvs:List (List Key × V)} (ok:HOk P w H h) (e:Rd H a (.dT kvs)):kvs.length<=sizeLine/\(a == sysModules)=false /\
  ∃ xs,KT H kvs xs/\h.DictOfH (tupleKind (mixKind P w)) a xs:=by
 obtain ⟨z,y,xs,r,o,es,ep,h1,h2,h3,h4,h5⟩:=(show ObjOk P w H h a (.dT kvs) from rd_of ok e)
 refine ⟨z,y,xs,r,o,es,ep,h1,h2,h3,h4,fun x hx=>?_,h5⟩
 have all:∀ {l:List (List Key × V)} {m:List (List Key × Addr × Value)},KT H l m->∀ x∈m,(tupleKind (mixKind P w)).is h x.1 x.2.1:=by
  intro l m q
  induction q with
  | nil=>intro x hx;exact nomatch hx
  | @cons p q ps qs hq t ih =>
   intro x hx
   rcases List.mem_cons.mp hx with e | hx
   ·subst e
    exact key_of ok (by rw [<- hq.1];exact hq.2.1)
   ·exact ih x hx
 exact all r x hx
theorem dt_of {kvs:List (List Key × V)} (ok:HOk P w H h) (e:H a=some (.dT kvs)):kvs.length<=sizeLine/\(a == sysModules)=false /\
  ∃ xs,KT H kvs xs/\h.DictOfH (tupleKind (mixKind P w)) a xs:=dt_rd ok (.inl e)
end
def DGet (H:Hp) (a:Addr) (y:V) (r:Option V):Prop :=
 (∃ kvs k,Rd H a (.dK kvs)/\y=kV k/\r=valV kvs k)\/∃ kvs k b,Rd H a (.dT kvs)/\y=.ref b/\H b=some (.tup (k.map kV))/\r=valV kvs k
def DPut (H:Hp) (a:Addr) (y v:V) (H':Hp):Prop :=
 (∃ kvs k,H a=some (.dK kvs)/\y=kV k/\kvs.length < sizeLine/\H'=upd H a (.dK (putK kvs k v))) \/
 ∃ kvs k b,H a=some (.dT kvs)/\y=.ref b/\H b=some (.tup (k.map kV))/\kvs.length < sizeLine/\H'=upd H a (.dT (putK kvs k v))
theorem DGet.k {H:Hp} {a:Addr} {kvs:List (Key × V)} {k:Key} (e:H a=some (.dK kvs)):DGet H a (kV k) (valV kvs k):=.inl ⟨kvs,k,.inl e,rfl,rfl⟩
theorem DPut.k {H:Hp} {a:Addr} {kvs:List (Key × V)} {k:Key} {v:V} (e:H a=some (.dK kvs)) (hl:kvs.length < sizeLine):DPut H a (kV k) v (upd H a (.dK (putK kvs k v))):=.inl ⟨kvs,k,e,rfl,hl,rfl⟩
section
variable {X:Cx} {pins:List (Addr × Obj)} {σ:St} {H:Hp} {s:Shared} {a:Addr} {y v:V} {u r:Value} {o:Option V} {A:Around} {E:Value->Shared->Prop}
theorem Inv.big (I:Inv X pins σ H s):sysModules < s.heap.objs.size:=by
 have h:mainGlobals < s.heap.objs.size:=(I.mod.glob.keeps I.bk).lt
 exact Nat.lt_trans (by decide) h
theorem d_getItem {Q:Value->Shared->Prop} (hu:A.units+1 < cLine) (I:Inv X pins σ H s) (g:DGet H a y (some v)) (ry:RelV y u) (h:∀ w' s',Inv X pins σ H s'->RelV v w'->Q w' s') :
  wpAny (model X.prog X.w) A (getItem (.ref a) u) Q E s:=by
 rcases g with ⟨kvs,k,e,ey,l⟩ | ⟨kvs,k,b,e,ey,eb,l⟩
 ·subst ey
  obtain ⟨z,hd,vs,rel,dd⟩:=dk_rd I.hok e
  obtain ⟨w',hw,rw'⟩:=RelO.some_of (v:=v) (o:=valueAt vs k) (by rw [l];exact rel.val k)
  exact wpAny_getItem_of (kV_is ry) dd.mapOf hw (h w' _ (I.tok _) rw')
 ·subst ey
  cases (show u=Value.ref b from ry)
  obtain ⟨z,hd,xs,rel,dd⟩:=dt_rd I.hok e
  obtain ⟨w',hw,rw'⟩:=RelO.some_of (v:=v) (o:=(atKey xs k).map (·.2)) (by rw [l];exact rel.val k)
  obtain ⟨p,hp,hp2⟩:=Option.map_eq_some_iff.mp hw
  refine wpAny_getItem_heap (tupleKind_room_in1 hu) (key_of I.hok eb) dd hp ?_
  rw [hp2]
  exact h w' _ (I.tok _) rw'
theorem d_in {Q:Value->Shared->Prop} (hu:A.units+1 < cLine) (I:Inv X pins σ H s) (g:DGet H a y o) (ry:RelV y u) (h:∀ s',Inv X pins σ H s'->Q (.bool o.isSome) s') :
  wpAny (model X.prog X.w) A (compareOp .In u (.ref a)) Q E s:=by
 rcases g with ⟨kvs,k,e,ey,l⟩ | ⟨kvs,k,b,e,ey,eb,l⟩
 ·subst ey
  obtain ⟨z,hd,vs,rel,dd⟩:=dk_rd I.hok e
  refine wpAny_in_of (kV_is ry) hd dd.mapOf ?_
  rw [<- (rel.val k).isSome_eq,<- l]
  exact h _ (I.tok _)
 ·subst ey
  cases (show u=Value.ref b from ry)
  obtain ⟨z,hd,xs,rel,dd⟩:=dt_rd I.hok e
  refine wpAny_in_heap (tupleKind_room_in1 hu) (key_of I.hok eb) hd dd ?_
  have q:=(rel.val k).isSome_eq
  rw [Option.isSome_map] at q
  rw [<- q,<- l]
  exact h _ (I.tok _)
theorem d_write {h':Heap} {t':Nat} {ob:HO} (I:Inv X pins σ H s) (mu:Mut (H a)) (hs:Heap.SameBut a s.heap h') (he:∃ q,h'.get? a=some q) (new:ObjOk X.prog X.w (upd H a ob) h' a ob) :
  Inv X pins σ (upd H a ob) { s with heap:=h',toks:=t' } :=
 I.write (x:=a) (e:=a) mu (.inl rfl) (fun b q hb z=>(hs.2 b hb).trans z) he new
theorem dk_new {P:Program} {w:World} {H':Hp} {h':Heap} {kvs:List (Key × V)} {vs:List (Key × Value)} (z:kvs.length<=sizeLine) (hd:(a == sysModules)=false) (rel:KV kvs vs) (dd:h'.DictOf (mixKind P w) a vs) :
  ObjOk P w H' h' a (.dK kvs):=⟨z,hd,vs,rel,dd⟩
theorem d_setItem {H':Hp} {Q:Unit->Shared->Prop} (hu:A.units+1 < cLine) (I:Inv X pins σ H s) (g:DPut H a y v H') (ry:RelV y u) (rv:RelV v r) (h:∀ s',Inv X pins σ H' s'->Q () s') :
  wpAny (model X.prog X.w) A (setItem (.ref a) u r) Q E s:=by
 rcases g with ⟨kvs,k,e,ey,l,eH⟩ | ⟨kvs,k,b,e,ey,eb,l,eH⟩
 ·subst ey eH
  obtain ⟨z,hd,vs,rel,dd⟩:=dk_of I.hok e
  have hz:vs.length<=sizeLine:=by rw [<- rel.length];exact z
  have hl:(putK kvs k v).length<=sizeLine:=by have:=length_putK kvs k v;omega
  refine wpAny_setItem_pairs (hsz:=hz) (kV_is ry) dd fun h' dd' hs=>h _ ?_
  have he:∃ q,h'.get? a=some q:=let ⟨q,_,_,hq,_⟩:=dd';⟨q,hq⟩
  exact d_write I (by rw [e];exact True.intro) hs he (dk_new hl hd (rel.put k rv) dd')
 ·subst ey eH
  cases (show u=Value.ref b from ry)
  obtain ⟨z,hd,xs,rel,dd⟩:=dt_of I.hok e
  have hz:xs.length<=sizeLine:=by rw [<- Paired.length rel];exact z
  have hl:(putK kvs k v).length<=sizeLine:=by have:=length_putK kvs k v;omega
  refine wpAny_setItem_heap (hsz:=hz) (tupleKind_room_in1 hu) (key_of I.hok eb) dd fun h' dd' hs=>h _ ?_
  obtain ⟨q,es,ep,hq,h2,h3,h4,_,h5⟩:=dd'
  refine d_write I (by rw [e];exact True.intro) hs ⟨q,hq⟩ ⟨hl,hd,_,(rel.put k eb rv).keeps fun c ys ec=>?_,q,es,ep,hq,h2,h3,h4,h5⟩
  rw [upd_ne (ne_of ec e (fun z=>nomatch z))]
  exact ec
end
section
variable {X:Cx} {pins:List (Addr × Obj)} {σ:St} {H:Hp} {s:Shared} {a:Addr} {kvs:List (Key × V)} {k:Key} {u:Value} {A:Around} {E:Value->Shared->Prop}
end
theorem dict_typeIs {X:Cx} {pins:List (Addr × Obj)} {σ:St} {H:Hp} {s:Shared} {a:Addr} {y:V} {o:Option V} (I:Inv X pins σ H s) (g:DGet H a y o):s.TypeIs (.ref a) "dict" := by
 rcases g with ⟨kvs,k,e,_,_⟩ | ⟨kvs,k,b,e,_,_,_⟩
 ·obtain ⟨_,_,vs,_,dd⟩:=dk_rd I.hok e
  exact dd.typeIs
 ·obtain ⟨_,_,xs,_,dd⟩:=dt_rd I.hok e
  exact dd.typeIs
section
variable {X:Cx} {o i e value:Expr} {pos pos' tpos:Pos} {td ty tv:TE}
end
section
variable {X:Cx} {pos:Pos}
end
structure M1 (X:Cx) (o:Expr) (m:Str) (apos:Pos) (e:Expr) (cpos:Pos):Prop where
 base:attributeBase o m X.env (eval o X.env)=eval o X.env
 few:((backTo cpos (starEach [e] X.env)).all (fun x=>!x.1) && (backToKw cpos (keywordEach [] X.env)).all (fun x=>x.1.isSome)
  && decide (([e] : List Expr).length+([] : List Keyword).length+(if ([] : List Keyword).isEmpty then 0 else 1) < 30))=true
 line:(apos.endLine == cpos.line)=true
 trees:backTo cpos (starEach [e] X.env)=[(false,eval e X.env)]
structure M2 (X:Cx) (o:Expr) (m:Str) (apos:Pos) (e f:Expr) (cpos:Pos):Prop where
 base:attributeBase o m X.env (eval o X.env)=eval o X.env
 few:((backTo cpos (starEach [e,f] X.env)).all (fun x=>!x.1) && (backToKw cpos (keywordEach [] X.env)).all (fun x=>x.1.isSome)
  && decide (([e,f] : List Expr).length+([] : List Keyword).length+(if ([] : List Keyword).isEmpty then 0 else 1) < 30))=true
 line:(apos.endLine == cpos.line)=true
 trees:backTo cpos (starEach [e,f] X.env)=[(false,eval e X.env),(false,eval f X.env)]
section
variable {X:Cx} {pins:List (Addr × Obj)} {σ:St} {H:Hp} {s:Shared} {a:Addr} {y d:V} {u r:Value} {o:Option V} {A:Around} {E:Value->Shared->Prop}
end
section
variable {X:Cx} {o e f:Expr} {apos cpos:Pos} {td ty tx:TE}
end
section
variable {X:Cx} {pins:List (Addr × Obj)} {σ:St} {H:Hp} {s:Shared} {a:Addr} {kvs:List (Key × V)} {A:Around} {E:Value->Shared->Prop}
end
section
variable {X:Cx} {pins:List (Addr × Obj)} {σ:St} {H:Hp} {s:Shared} {a:Addr} {y:V} {u:Value} {A:Around} {E:Value->Shared->Prop}
end
end L2
set_option maxHeartbeats 4000000
namespace D3
open PySem PySem.Spec PyProof.Rows L2
abbrev St:=L2.St
inductive D where
 | non | bl (b:Bool) | int (i:Int) | str (x:Str) | ty (n:String) | tup (ds:List D) | ref (a:Addr)
mutual
def Is (H:Hp):D->V->Prop
 | .non,v=>v=.non
 | .bl b,v=>v=.bl b
 | .int i,v=>v=.int i
 | .str x,v=>v=.str x
 | .ty n,v=>v=.ty n
 | .tup ds,v=>∃ a xs,v=.ref a/\H a=some (.tup xs)/\IsL H ds xs
 | .ref a,v=>v=.ref a
def IsL (H:Hp):List D->List V->Prop
 | [],xs=>xs=[]
 | d :: ds,xs=>∃ x r,xs=x :: r/\Is H d x/\IsL H ds r
end
def Grow (H H':Hp):Prop:=∀ b xs,H b=some (.tup xs)->H' b=some (.tup xs)
theorem Grow.refl (H:Hp):Grow H H:=fun _ _ h=>h
theorem Grow.trans {H H1 H2:Hp} (a:Grow H H1) (b:Grow H1 H2):Grow H H2:=fun c o h=>b c o (a c o h)
theorem grow_upd {H:Hp} {p:Addr} {o:HO} (h:∀ xs,H p≠some (.tup xs)):Grow H (upd H p o):=fun b xs e=>by
 have:b≠p:=by intro z;subst z;exact h xs e
 rw [upd_ne this];exact e
theorem grow_new {H:Hp} {p:Addr} {o:HO} (h:H p=none):Grow H (upd H p o):=grow_upd (by intro xs e;rw [h] at e;cases e)
mutual
theorem Is.grow {H H':Hp} (g:Grow H H'):∀ (d:D) (v:V),Is H d v->Is H' d v
 | .non,_,h=>by unfold Is at h ⊢;exact h
 | .bl _,_,h=>by unfold Is at h ⊢;exact h
 | .int _,_,h=>by unfold Is at h ⊢;exact h
 | .str _,_,h=>by unfold Is at h ⊢;exact h
 | .ty _,_,h=>by unfold Is at h ⊢;exact h
 | .ref _,_,h=>by unfold Is at h ⊢;exact h
 | .tup ds,v,h=>by
  unfold Is at h ⊢
  obtain ⟨a,xs,e,h1,h2⟩:=h
  exact ⟨a,xs,e,g _ _ h1,IsL.grow g ds xs h2⟩
theorem IsL.grow {H H':Hp} (g:Grow H H'):∀ (ds:List D) (vs:List V),IsL H ds vs->IsL H' ds vs
 | [],_,h=>by unfold IsL at h ⊢;exact h
 | d :: ds,vs,h=>by
  unfold IsL at h ⊢
  obtain ⟨x,r,e,h1,h2⟩:=h
  exact ⟨x,r,e,Is.grow g d x h1,IsL.grow g ds r h2⟩
end
theorem is_non {H:Hp} {v:V}:Is H .non v ↔ v=.non:=by unfold Is;exact Iff.rfl
theorem is_bl {H:Hp} {v:V} {b:Bool}:Is H (.bl b) v ↔ v=.bl b:=by unfold Is;exact Iff.rfl
theorem is_int {H:Hp} {v:V} {i:Int}:Is H (.int i) v ↔ v=.int i:=by unfold Is;exact Iff.rfl
theorem is_str {H:Hp} {v:V} {x:Str}:Is H (.str x) v ↔ v=.str x:=by unfold Is;exact Iff.rfl
theorem is_ty {H:Hp} {v:V} {x:String}:Is H (.ty x) v ↔ v=.ty x:=by unfold Is;exact Iff.rfl
theorem is_ref {H:Hp} {v:V} {a:Addr}:Is H (.ref a) v ↔ v=.ref a:=by unfold Is;exact Iff.rfl
theorem is_tup {H:Hp} {v:V} {ds:List D}:Is H (.tup ds) v ↔ ∃ a xs,v=.ref a/\H a=some (.tup xs)/\IsL H ds xs:=by
 constructor
 ·intro h;unfold Is at h;exact h
 ·intro h;unfold Is;exact h
theorem isl_nil {H:Hp} {vs:List V}:IsL H [] vs ↔ vs=[]:=by unfold IsL;exact Iff.rfl
theorem isl_cons {H:Hp} {vs:List V} {d:D} {ds:List D}:IsL H (d :: ds) vs ↔ ∃ x r,vs=x :: r/\Is H d x/\IsL H ds r:=by
 constructor
 ·intro h;unfold IsL at h;exact h
 ·intro h;unfold IsL;exact h
theorem IsL.len {H:Hp}:∀ {ds:List D} {vs:List V},IsL H ds vs->ds.length=vs.length
 | [],vs,h=>by rw [isl_nil] at h;rw [h];rfl
 | d :: ds,vs,h=>by
  rw [isl_cons] at h
  obtain ⟨x,r,e,_,h2⟩:=h
  rw [e,List.length_cons,List.length_cons,IsL.len h2]
theorem IsL.get {H:Hp}:∀ {ds:List D} {vs:List V} {i:Nat} {d:D},IsL H ds vs->ds[i]?=some d->∃ v,vs[i]?=some v/\Is H d v
 | [],vs,i,d,_,e=>by simp at e
 | d' :: ds,vs,0,d,h,e=>by
  rw [isl_cons] at h
  obtain ⟨x,r,e1,h1,_⟩:=h
  simp at e;subst e;subst e1
  exact ⟨x,rfl,h1⟩
 | d' :: ds,vs,i+1,d,h,e=>by
  rw [isl_cons] at h
  obtain ⟨x,r,e1,_,h2⟩:=h
  subst e1
  obtain ⟨v,e2,h3⟩:=IsL.get (i:=i) h2 (by simpa using e)
  exact ⟨v,by simpa using e2,h3⟩
theorem IsL.get' {H:Hp}:∀ {ds:List D} {vs:List V} {i:Nat} {v:V},IsL H ds vs->vs[i]?=some v->∃ d,ds[i]?=some d/\Is H d v
 | [],vs,i,d,h,e=>by rw [isl_nil] at h;subst h;simp at e
 | d' :: ds,vs,0,v,h,e=>by
  rw [isl_cons] at h
  obtain ⟨x,r,e1,h1,_⟩:=h
  subst e1;simp at e;subst e
  exact ⟨d',rfl,h1⟩
 | d' :: ds,vs,i+1,v,h,e=>by
  rw [isl_cons] at h
  obtain ⟨x,r,e1,_,h2⟩:=h
  subst e1
  obtain ⟨d,e2,h3⟩:=IsL.get' (i:=i) h2 (by simpa using e)
  exact ⟨d,by simpa using e2,h3⟩
theorem IsL.app {H:Hp}:∀ {ds es:List D} {vs us:List V},IsL H ds vs->IsL H es us->IsL H (ds++es) (vs++us)
 | [],es,vs,us,h,k=>by rw [isl_nil] at h;subst h;exact k
 | d :: ds,es,vs,us,h,k=>by
  rw [isl_cons] at h
  obtain ⟨x,r,e,h1,h2⟩:=h
  subst e
  show IsL H (d :: (ds++es)) (x :: (r++us))
  rw [isl_cons]
  exact ⟨x,r++us,rfl,h1,h2.app k⟩
theorem IsL.take {H:Hp}:∀ {ds:List D} {vs:List V} (n:Nat),IsL H ds vs->IsL H (ds.take n) (vs.take n)
 | _,_,0,_=>by rw [List.take_zero,List.take_zero,isl_nil]
 | [],vs,n+1,h=>by rw [isl_nil] at h;subst h;rw [List.take_nil,List.take_nil,isl_nil]
 | d :: ds,vs,n+1,h=>by
  rw [isl_cons] at h
  obtain ⟨x,r,e,h1,h2⟩:=h
  subst e
  rw [List.take_succ_cons,List.take_succ_cons,isl_cons]
  exact ⟨x,r.take n,rfl,h1,h2.take n⟩
theorem IsL.drop {H:Hp}:∀ {ds:List D} {vs:List V} (n:Nat),IsL H ds vs->IsL H (ds.drop n) (vs.drop n)
 | _,_,0,h=>h
 | [],vs,n+1,h=>by rw [isl_nil] at h;subst h;rw [List.drop_nil,List.drop_nil,isl_nil]
 | d :: ds,vs,n+1,h=>by
  rw [isl_cons] at h
  obtain ⟨x,r,e,h1,h2⟩:=h
  subst e
  rw [List.drop_succ_cons,List.drop_succ_cons]
  exact h2.drop n
theorem IsL.ints {H:Hp}:∀ {ns:List Int},IsL H (ns.map D.int) (ns.map V.int)
 | []=>by rw [List.map_nil,List.map_nil,isl_nil]
 | n :: ns=>by rw [List.map_cons,List.map_cons,isl_cons];exact ⟨_,_,rfl,is_int.mpr rfl,IsL.ints⟩
inductive MO where
 | lst (ds:List D) | ro (ds:List D) | dic (kvs:List (Str × D))
 | exc (C:Addr) (dd:Option Addr) (fresh:Bool) | att (fs:List (Str × D))
 | rod (o:Obj) (kvs:List (Str × D))
 | raw (φ:Heap->Prop)
 | tkd (kvs:List (List Int × D))
 | ins (C:Addr) (fs:List (Str × D))
abbrev MH:=Addr->Option MO
def mset (M:MH) (a:Addr) (o:MO):MH:=fun b=>if b=a then some o else M b
theorem mset_same {M:MH} {a:Addr} {o:MO}:mset M a o a=some o:=by unfold mset;rw [if_pos rfl]
theorem mset_ne {M:MH} {a b:Addr} {o:MO} (h:b≠a):mset M a o b=M b:=by unfold mset;rw [if_neg h]
theorem mset_old {M:MH} {a b:Addr} {o u:MO} (n:M a=none) (h:M b=some u):mset M a o b=some u:=by
 rw [mset_ne];exact h
 intro z;subst z;rw [n] at h;cases h
def KvIs (H:Hp):List (Str × D)->List (Key × V)->Prop
 | [],ys=>ys=[]
 | (k,d) :: r,ys=>∃ v ys',ys=(Sum.inr k,v) :: ys'/\Is H d v/\KvIs H r ys'
def ExcO (a C:Addr) (dd:Option Addr) (fresh:Bool) (h:Heap):Prop :=
 ∃ o vs,h.get? a=some o/\o.cls=.ref C/\o.dict=dd/\o.data=.fields vs/\(fresh=true->o.slots=#[]/\∃ t,vs=#[.ref t,.none,.none,.none,.bool false,.none])
def FsIs (H:Hp):List (Str × D)->List (Str × V)->Prop
 | [],ys=>ys=[]
 | (k,d) :: r,ys=>∃ v ys',ys=(k,v) :: ys'/\Is H d v/\FsIs H r ys'
def TkIs (H:Hp):List (List Int × D)->List (List Key × V)->Prop
 | [],ys=>ys=[]
 | (k,d) :: r,ys=>∃ v ys',ys=(k.map Sum.inl,v) :: ys'/\Is H d v/\TkIs H r ys'
theorem TkIs.grow {H H':Hp} (g:Grow H H'):∀ {fs:List (List Int × D)} {ys:List (List Key × V)},TkIs H fs ys->TkIs H' fs ys
 | [],ys,h=>h
 | (k,d) :: r,ys,h=>by
  obtain ⟨v,ys',e,h1,h2⟩:=h
  exact ⟨v,ys',e,Is.grow g _ _ h1,TkIs.grow g h2⟩
def IsM (K:PySem.W.Frag) (H:Hp) (a:Addr):MO->Prop
 | .lst ds=>∃ xs,H a=some (.lst xs)/\IsL H ds xs
 | .ro ds=>∃ xs,SqL K H a xs/\IsL H ds xs
 | .dic kvs=>∃ ys,H a=some (.dK ys)/\KvIs H kvs ys
 | .exc C dd fr=>H a=some (.ext (ExcO a C dd fr))
 | .att fs=>∃ ys,H a=some (.xd ys)/\FsIs H fs ys
 | .rod o kvs=>∃ ys,H a=some (.frz o (.dK ys))/\KvIs H kvs ys
 | .raw φ=>H a=some (.ext φ)
 | .tkd kvs=>∃ ys,H a=some (.dT ys)/\TkIs H kvs ys
 | .ins C fs=>∃ dx ys,H a=some (.ins C dx ys)/\FsIs H fs ys
theorem FsIs.grow {H H':Hp} (g:Grow H H'):∀ {fs:List (Str × D)} {ys:List (Str × V)},FsIs H fs ys->FsIs H' fs ys
 | [],ys,h=>h
 | (k,d) :: r,ys,h=>by
  obtain ⟨v,ys',e,h1,h2⟩:=h
  exact ⟨v,ys',e,Is.grow g _ _ h1,FsIs.grow g h2⟩
theorem KvIs.grow {H H':Hp} (g:Grow H H'):∀ {kvs:List (Str × D)} {ys:List (Key × V)},KvIs H kvs ys->KvIs H' kvs ys
 | [],ys,h=>h
 | (k,d) :: r,ys,h=>by
  obtain ⟨v,ys',e,h1,h2⟩:=h
  exact ⟨v,ys',e,Is.grow g _ _ h1,KvIs.grow g h2⟩
def MemOk (K:PySem.W.Frag) (M:MH) (H:Hp):Prop:=∀ a o,M a=some o->IsM K H a o
def KF (K:PySem.W.Frag) (H:Hp):Prop:=∀ a o,K.lookup a=some o->H a=none
theorem IsM.there {K:PySem.W.Frag} {H:Hp} {a:Addr} {o:MO} (h:IsM K H a o):(∃ u,H a=some u)\/∃ u,K.lookup a=some u:=by
 cases o with
 | lst ds=>obtain ⟨xs,e,_⟩:=h;exact .inl ⟨_,e⟩
 | dic kvs=>obtain ⟨xs,e,_⟩:=h;exact .inl ⟨_,e⟩
 | att fs=>obtain ⟨xs,e,_⟩:=h;exact .inl ⟨_,e⟩
 | rod o kvs=>obtain ⟨xs,e,_⟩:=h;exact .inl ⟨_,e⟩
 | exc C dd fr=>exact .inl ⟨_,h⟩
 | raw φ=>exact .inl ⟨_,h⟩
 | tkd kvs=>obtain ⟨xs,e,_⟩:=h;exact .inl ⟨_,e⟩
 | ins C fs=>obtain ⟨dx,xs,e,_⟩:=h;exact .inl ⟨_,e⟩
 | ro ds =>
  obtain ⟨xs,e,_⟩:=h
  rcases e with (e | ⟨o,e⟩) | ⟨o,_,_,e,_⟩
  ·exact .inl ⟨_,e⟩
  ·exact .inl ⟨_,e⟩
  ·exact .inr ⟨_,e⟩
theorem MemOk.fresh {K:PySem.W.Frag} {M:MH} {H:Hp} {p:Addr} {o:HO} (m:MemOk K M H) (hp:H p=none) (kf:KF K (upd H p o)):M p=none:=by
 cases e:M p with
 | none=>rfl
 | some u =>
  rcases (m p u e).there with ⟨u,h⟩ | ⟨u,h⟩
  ·rw [hp] at h;cases h
  ·have:=kf p u h
   rw [upd_same] at this;cases this
theorem IsM.stay {K:PySem.W.Frag} {H H':Hp} {a:Addr} {o:MO} (g:Grow H H') (same:∀ u,H a=some u->H' a=some u) (h:IsM K H a o):IsM K H' a o:=by
 cases o with
 | lst ds=>obtain ⟨xs,e,q⟩:=h;exact ⟨xs,same _ e,q.grow g⟩
 | dic kvs=>obtain ⟨xs,e,q⟩:=h;exact ⟨xs,same _ e,q.grow g⟩
 | att fs=>obtain ⟨xs,e,q⟩:=h;exact ⟨xs,same _ e,q.grow g⟩
 | rod o kvs=>obtain ⟨xs,e,q⟩:=h;exact ⟨xs,same _ e,q.grow g⟩
 | exc C dd fr=>exact same _ h
 | raw φ=>exact same _ h
 | tkd kvs=>obtain ⟨xs,e,q⟩:=h;exact ⟨xs,same _ e,q.grow g⟩
 | ins C fs=>obtain ⟨dx,xs,e,q⟩:=h;exact ⟨dx,xs,same _ e,q.grow g⟩
 | ro ds =>
  obtain ⟨xs,e,q⟩:=h
  refine ⟨xs,?_,q.grow g⟩
  rcases e with (e | ⟨o,e⟩) | e
  ·exact .inl (.inl (same _ e))
  ·exact .inl (.inr ⟨o,same _ e⟩)
  ·exact .inr e
theorem MemOk.new {K:PySem.W.Frag} {M:MH} {H:Hp} {p:Addr} {o:HO} (m:MemOk K M H) (hp:H p=none):MemOk K M (upd H p o):=fun a u e =>
 (m a u e).stay (grow_new hp) fun v h=>by rw [upd_ne (ne_of_none h hp)];exact h
theorem MemOk.lay {K:PySem.W.Frag} {M:MH} {H:Hp} {p:Addr} {o:HO} {u:MO} (m:MemOk K M H) (hp:H p=none) (h:IsM K (upd H p o) p u):MemOk K (mset M p u) (upd H p o):=fun a v e=>by
 by_cases z:a=p
 ·subst z;rw [mset_same] at e;cases e;exact h
 ·rw [mset_ne z] at e;exact m.new hp a v e
theorem MemOk.put {K:PySem.W.Frag} {M:MH} {H:Hp} {p:Addr} {o:HO} {u:MO} (m:MemOk K M H) (hp:∀ xs,H p≠some (.tup xs)) (h:IsM K (upd H p o) p u):MemOk K (mset M p u) (upd H p o):=fun a v e=>by
 by_cases z:a=p
 ·subst z;rw [mset_same] at e;cases e;exact h
 ·rw [mset_ne z] at e
  exact (m a v e).stay (grow_upd hp) fun w q=>by rw [upd_ne z];exact q
abbrev Ga:=List (Option D)
abbrev DK:=D->MH->Prop
structure Rel (X:Cx) (G:Ga) (M:MH) (σ:St) (H:Hp):Prop where
 loc:∀ (i:Nat) (d:D),G[i]?=some (some d)->∃ v,σ[i]?=some (some v)/\Is H d v
 mem:MemOk X.K M H
theorem Rel.to {X:Cx} {G:Ga} {M M':MH} {σ:St} {H H':Hp} (R:Rel X G M σ H) (g:Grow H H') (m:MemOk X.K M' H'):Rel X G M' σ H' :=
 ⟨fun i d e=>let ⟨v,e1,h⟩:=R.loc i d e;⟨v,e1,Is.grow g _ _ h⟩,m⟩
theorem Rel.set {X:Cx} {G:Ga} {M:MH} {σ:St} {H:Hp} {i:Nat} {d:D} {v:V} (R:Rel X G M σ H) (hi:i < σ.length) (h:Is H d v):Rel X (G.set i (some d)) M (σ.set i (some v)) H :=
 ⟨fun j e q=>by
  by_cases z:i=j
  ·subst z
   by_cases hG:i < G.length
   ·rw [List.getElem?_set_self hG] at q
    cases q
    exact ⟨v,List.getElem?_set_self hi,h⟩
   ·rw [List.getElem?_eq_none (by rw [List.length_set];omega)] at q;cases q
  ·rw [List.getElem?_set_ne z] at q
   obtain ⟨w,e1,h1⟩:=R.loc j e q
   exact ⟨w,by rw [List.getElem?_set_ne z];exact e1,h1⟩,R.mem⟩
theorem kf_of {X:Cx} {pins:List (Addr × Obj)} {σ:St} {H:Hp} {s:Shared} (I:Inv X pins σ H s):KF X.K H:=fun a o e=>(I.bs a o (I.mod.kin a o e)).2
def EPD (X:Cx) (pins:List (Addr × Obj)) (σ:St) (G:Ga) (H:Hp) (Q:DK) (u:Value) (s':Shared):Prop :=
 ∃ v H' d M',Inv X pins σ H' s'/\RelV v u/\Grow H H'/\Is H' d v/\Rel X G M' σ H'/\Q d M'
def EV (X:Cx) (G:Ga) (M:MH) (e:Expr) (Q:DK):Prop :=
 ∀ (pins:List (Addr × Obj)) (s:Shared) (σ:St) (H:Hp),Inv X pins σ H s->Rel X G M σ H->wpAny (model X.prog X.w) X.A (eval e X.env) (EPD X pins σ G H Q) X.xe s
def TPD (X:Cx) (pins:List (Addr × Obj)) (σ:St) (G:Ga) (H:Hp) (Q:Bool->MH->Prop) (b:Bool) (s':Shared):Prop :=
 ∃ H' M',Inv X pins σ H' s'/\Grow H H'/\Rel X G M' σ H'/\Q b M'
def TV (X:Cx) (G:Ga) (M:MH) (e:Expr) (Q:Bool->MH->Prop):Prop :=
 ∀ (pins:List (Addr × Obj)) (s:Shared) (σ:St) (H:Hp),Inv X pins σ H s->Rel X G M σ H->wpAny (model X.prog X.w) X.A (isTrue e X.env (eval e X.env)) (TPD X pins σ G H Q) X.xe s
def TW (X:Cx) (G:Ga) (M:MH) (e:Expr) (Q:Bool->MH->Prop):Prop :=
 ∀ (whole:Sem Value) (pins:List (Addr × Obj)) (s:Shared) (σ:St) (H:Hp),Inv X pins σ H s->Rel X G M σ H->wpAny (model X.prog X.w) X.A (isTrue e X.env whole) (TPD X pins σ G H Q) X.xe s
theorem TW.tv {X:Cx} {G:Ga} {M:MH} {e:Expr} {Q:Bool->MH->Prop} (h:TW X G M e Q):TV X G M e Q:=h _
def APD (X:Cx) (pins:List (Addr × Obj)) (σ:St) (G:Ga) (H:Hp) (Q:List D->MH->Prop) (us:List Value) (s':Shared):Prop :=
 ∃ vs H' ds M',Inv X pins σ H' s'/\Vals vs us/\Grow H H'/\IsL H' ds vs/\Rel X G M' σ H'/\Q ds M'
def AV (X:Cx) (G:Ga) (M:MH) (es:List Expr) (Q:List D->MH->Prop):Prop :=
 ∀ (pos:Pos) (pins:List (Addr × Obj)) (s:Shared) (σ:St) (H:Hp),Inv X pins σ H s->Rel X G M σ H->wpAny (model X.prog X.w) X.A (spliced (backTo pos (starEach es X.env))) (APD X pins σ G H Q) X.xe s
structure EndsD where
 nx:Ga->MH->Prop
 rt:DK
 bk:Ga->MH->Prop:=fun _ _=>False
 ct:Ga->MH->Prop:=fun _ _=>False
def SPD (X:Cx) (pins:List (Addr × Obj)) (H:Hp) (E:EndsD) (f:Flow) (s':Shared):Prop :=
 match f with
 | .next=>∃ σ' H' G' M',Inv X pins σ' H' s'/\Grow H H'/\Rel X G' M' σ' H'/\E.nx G' M'
 | .brk=>∃ σ' H' G' M',Inv X pins σ' H' s'/\Grow H H'/\Rel X G' M' σ' H'/\E.bk G' M'
 | .cont=>∃ σ' H' G' M',Inv X pins σ' H' s'/\Grow H H'/\Rel X G' M' σ' H'/\E.ct G' M'
 | .ret u=>∃ v σ' H' d M',Inv X pins σ' H' s'/\RelV v u/\Grow H H'/\Is H' d v/\MemOk X.K M' H'/\E.rt d M'
def EX (X:Cx) (G:Ga) (M:MH) (st:Stmt) (E:EndsD):Prop :=
 ∀ (pins:List (Addr × Obj)) (s:Shared) (σ:St) (H:Hp),Inv X pins σ H s->Rel X G M σ H->wpAny (model X.prog X.w) X.A (exec st X.env) (SPD X pins H E) X.xe s
def EXs (X:Cx) (G:Ga) (M:MH) (st:List Stmt) (E:EndsD):Prop :=
 ∀ (pins:List (Addr × Obj)) (s:Shared) (σ:St) (H:Hp),Inv X pins σ H s->Rel X G M σ H->wpAny (model X.prog X.w) X.A (execs st X.env) (SPD X pins H E) X.xe s
theorem EPD.grow {X:Cx} {pins:List (Addr × Obj)} {σ:St} {G:Ga} {H0 H:Hp} {Q:DK} {u:Value} {s':Shared} (g:Grow H0 H) (h:EPD X pins σ G H Q u s'):EPD X pins σ G H0 Q u s' :=
 let ⟨v,H',d,M',I,r,g',i,R,q⟩:=h;⟨v,H',d,M',I,r,g.trans g',i,R,q⟩
theorem TPD.grow {X:Cx} {pins:List (Addr × Obj)} {σ:St} {G:Ga} {H0 H:Hp} {Q:Bool->MH->Prop} {u:Bool} {s':Shared} (g:Grow H0 H) (h:TPD X pins σ G H Q u s'):TPD X pins σ G H0 Q u s' :=
 let ⟨H',M',I,g',R,q⟩:=h;⟨H',M',I,g.trans g',R,q⟩
theorem SPD.grow {X:Cx} {pins:List (Addr × Obj)} {H0 H:Hp} {E:EndsD} {f:Flow} {s':Shared} (g:Grow H0 H) (h:SPD X pins H E f s'):SPD X pins H0 E f s':=by
 cases f with
 | next=>obtain ⟨σ',H',G',M',I,g',R,q⟩:=h;exact ⟨σ',H',G',M',I,g.trans g',R,q⟩
 | brk=>obtain ⟨σ',H',G',M',I,g',R,q⟩:=h;exact ⟨σ',H',G',M',I,g.trans g',R,q⟩
 | cont=>obtain ⟨σ',H',G',M',I,g',R,q⟩:=h;exact ⟨σ',H',G',M',I,g.trans g',R,q⟩
 | ret u=>obtain ⟨v,σ',H',d,M',I,r,g',i,R,q⟩:=h;exact ⟨v,σ',H',d,M',I,r,g.trans g',i,R,q⟩
section
variable {X:Cx} {G:Ga} {M:MH} {a b c e:Expr} {es rest:List Expr} {pos:Pos} {Q:DK}
theorem EV.mono {Q':DK} (h:EV X G M e Q) (k:∀ d M',Q d M'->Q' d M'):EV X G M e Q':=fun pins s σ H I R =>
 thn (h pins s σ H I R) fun u s' ⟨v,H',d,M',I',r,g,i,R',q⟩=>⟨v,H',d,M',I',r,g,i,R',k _ _ q⟩
theorem EV.of {t:TE} (h:PE X e t) (k:∀ σ H,KF X.K H->Rel X G M σ H->t σ H fun v H'=>KF X.K H'->Grow H H'/\∃ d M',Is H' d v/\MemOk X.K M' H'/\Q d M'):EV X G M e Q:=fun pins s σ H I R =>
 thn (h pins s σ H _ I (k σ H (kf_of I) R)) fun u s' ⟨v,H',I',r,q⟩ =>
  let ⟨g,d,M',i,m,q⟩:=q (kf_of I')
  ⟨v,H',d,M',I',r,g,i,R.to g m,q⟩
theorem ev_var (i:Nat) {d:D} {x:Str} (q:Q d M) (hN:X.N[i]?=some x:=by rfl) (hG:G[i]?=some (some d):=by rfl) (hv:Vis X.env.scope x:=by first | exact Or.inl rfl | exact Or.inr (Or.inl rfl) | exact Or.inr (Or.inr rfl))
  (hd:(x == ("__debug__" : Str))=false:=by decide) (hcd:(x == ("__classdict__" : Str))=false:=by decide):EV X G M (.Name x pos) Q :=
 EV.of (pe_var hN hv hd hcd) fun σ H kf R=>let ⟨v,e1,h⟩:=R.loc i d hG;⟨v,e1,fun _=>⟨Grow.refl _,d,M,h,R.mem,q⟩⟩
theorem ev_int {i:Int} {j} (q:Q (.int i) M):EV X G M (.Constant (.int i) j pos) Q:=EV.of pe_int fun σ H kf R=>show _ from fun _=>⟨Grow.refl _,_,M,is_int.mpr rfl,R.mem,q⟩
theorem ev_non {j} (q:Q .non M):EV X G M (.Constant .none j pos) Q:=EV.of pe_non fun σ H kf R=>show _ from fun _=>⟨Grow.refl _,_,M,is_non.mpr rfl,R.mem,q⟩
theorem ev_str {x} {j} (q:Q (.str x) M):EV X G M (.Constant (.str x) j pos) Q:=EV.of pe_str fun σ H kf R=>show _ from fun _=>⟨Grow.refl _,_,M,is_str.mpr rfl,R.mem,q⟩
theorem ev_gint {x:Str} {i:Int} {t:Tok} (hm:X.mg x=some (.int i t)) (q:Q (.int i) M) (hg:Gl X x:=by rfl) (hd:(x == ("__debug__" : Str))=false:=by decide):EV X G M (.Name x pos) Q :=
 EV.of (pe_glob (v:=.int i) hg hm ⟨_,rfl⟩ hd) fun σ H kf R=>show _ from fun _=>⟨Grow.refl _,_,M,is_int.mpr rfl,R.mem,q⟩
theorem ev_gty {x:Str} {n:String} (hm:X.mg x=none) (hv:bootBuiltins x=some (.type n)) (q:Q (.ty n) M) (hg:Gl X x:=by rfl) (hn:x ≠ "__name__" := by decide) (hd:(x == ("__debug__" : Str))=false:=by decide):EV X G M (.Name x pos) Q :=
 EV.of (pe_bltn (v:=.ty n) hg hm hv rfl hn hd) fun σ H kf R=>show _ from fun _=>⟨Grow.refl _,_,M,is_ty.mpr rfl,R.mem,q⟩
abbrev RDP (K:PySem.W.Frag) (H:Hp) (Q:DK):VK:=fun v H'=>KF K H'->Grow H H'/\∃ d M',Is H' d v/\MemOk K M' H'/\Q d M'
def RD (K:PySem.W.Frag) (r:R2) (da db:D) (M:MH) (Q:DK):Prop:=∀ H x y,KF K H->Is H da x->Is H db y->MemOk K M H->r x y H (RDP K H Q)
def RU (K:PySem.W.Frag) (r:V->Hp->VK->Prop) (da:D) (M:MH) (Q:DK):Prop:=∀ H x,KF K H->Is H da x->MemOk K M H->r x H (RDP K H Q)
def RC (K:PySem.W.Frag) (r:List V->Hp->VK->Prop) (ds:List D) (M:MH) (Q:DK):Prop:=∀ H xs,KF K H->IsL H ds xs->MemOk K M H->r xs H (RDP K H Q)
theorem rd_fin {pins:List (Addr × Obj)} {σ:St} {H0 H:Hp} {u:Value} {s':Shared} (g0:Grow H0 H) {M0:MH} (R:Rel X G M0 σ H) (h:EP X pins σ (RDP X.K H Q) u s'):EPD X pins σ G H0 Q u s' :=
 let ⟨v,H',I',r,q⟩:=h
 let ⟨g,d,M',i,m,q⟩:=q (kf_of I')
 ⟨v,H',d,M',I',r,g0.trans g,i,R.to g m,q⟩
theorem ev2 {f:Value->Value->Sem Value} {r:R2} (ho:OpR X f r) (h:EV X G M a fun da Ma=>EV X G Ma b fun db Mb=>RD X.K r da db Mb Q)
  {pins:List (Addr × Obj)} {s:Shared} {σ:St} {H:Hp} (I:Inv X pins σ H s) (R:Rel X G M σ H) :
  wpAny (model X.prog X.w) X.A (eval a X.env) (fun v s1=>wpAny (model X.prog X.w) X.A (eval b X.env) (fun u s2=>wpAny (model X.prog X.w) X.A (f v u) (EPD X pins σ G H Q) X.xe s2) X.xe s1) X.xe s:=by
 refine thn (h pins s σ H I R) fun v s1 ⟨x,H1,da,Ma,I1,r1,g1,i1,R1,q1⟩=>?_
 refine thn (q1 pins s1 σ H1 I1 R1) fun u s2 ⟨y,H2,db,Mb,I2,r2,g2,i2,R2,q2⟩=>?_
 exact thn (ho pins s2 σ H2 x y v u _ I2 r1 r2 (q2 H2 x y (kf_of I2) (Is.grow g2 _ _ i1) i2 R2.mem)) fun w s3 h3=>rd_fin (g1.trans g2) R2 h3
theorem ev_op {op:Operator} {r:R2} (ho:OpR X (binaryOp op) r) (h:EV X G M a fun da Ma=>EV X G Ma b fun db Mb=>RD X.K r da db Mb Q):EV X G M (.BinOp a op b pos) Q :=
 fun pins s σ H I R=>wpAny_BinOp (ev2 ho h I R)
theorem ev_un {op:UnaryOp} {r:V->Hp->VK->Prop} (ho:UnR X (unaryOp op) r) (h:EV X G M a fun da Ma=>RU X.K r da Ma Q):EV X G M (.UnaryOp op a pos) Q :=
 fun pins s σ H I R=>UnaryOp_ (thn (h pins s σ H I R) fun v s1 ⟨x,H1,da,Ma,I1,r1,g1,i1,R1,q1⟩ =>
  thn (ho pins s1 σ H1 x v _ I1 r1 (q1 H1 x (kf_of I1) i1 R1.mem)) fun w s3 h3=>rd_fin g1 R1 h3)
theorem ev_cmp {op:CmpOp} {r:R2} (ho:OpR X (compareOp op) r) (hm:behindInMarks op b=false) (h:EV X G M a fun da Ma=>EV X G Ma b fun db Mb=>RD X.K r da db Mb Q):EV X G M (.Compare a [op] [b] pos) Q :=
 fun pins s σ H I R=>wpAny_Compare1 (ev2 ho h I R) hm
theorem tv_cmp {op:CmpOp} {r:R2} {Qb:Bool->MH->Prop} (ho:OpR X (compareOp op) r) (hm:behindInMarks op b=false)
  (h:EV X G M a fun da Ma=>EV X G Ma b fun db Mb=>RD X.K r da db Mb fun d M'=>∃ k,d=.bl k/\Qb k M'):TV X G M (.Compare a [op] [b] pos) Qb:=by
 intro pins s σ H I R
 refine wpAny_isTrue_Compare1 (thn (ev2 ho h I R) fun v s1 h1=>thn h1 fun u s2 h2=>thn h2 fun w s3 ⟨z,H3,d,M3,I3,r3,g3,i3,R3,k,e,q⟩=>?_) hm
 subst e
 rw [is_bl] at i3;subst i3
 cases r3
 exact wpAny_truthy_bool ⟨H3,M3,I3,g3,R3,q⟩
def TruD (K:PySem.W.Frag) (d:D) (M:MH) (k:Bool):Prop:=match d with
 | .non=>k=false
 | .bl b=>k=b
 | .int i=>k=(i != 0)
 | .tup ds=>k=!ds.isEmpty
 | .ref a=>(∃ ds,M a=some (.lst ds)/\k=!ds.isEmpty)\/(∃ ds,M a=some (.ro ds)/\k=!ds.isEmpty)
 | _=>False
theorem IsL.empty {H:Hp} {ds:List D} {vs:List V} (h:IsL H ds vs):ds.isEmpty=vs.isEmpty:=by
 cases ds with
 | nil=>rw [isl_nil] at h;subst h;rfl
 | cons d r=>rw [isl_cons] at h;obtain ⟨_,_,e,_⟩:=h;subst e;rfl
theorem tru_of {K:PySem.W.Frag} {H:Hp} {d:D} {M:MH} {v:V} {k:Bool} (m:MemOk K M H) (i:Is H d v) (t:TruD K d M k):TruV K v H k:=by
 cases d with
 | non=>rw [is_non] at i;subst i;exact t
 | bl b=>rw [is_bl] at i;subst i;exact t
 | int b=>rw [is_int] at i;subst i;exact t
 | tup ds =>
  rw [is_tup] at i
  obtain ⟨a,xs,rfl,h1,h2⟩:=i
  exact .inr (.inl ⟨xs,SqT.of h1,by rw [<- h2.empty];exact t⟩)
 | ref a =>
  rw [is_ref] at i;subst i
  rcases t with ⟨ds,h,e⟩ | ⟨ds,h,e⟩
  ·obtain ⟨xs,h1,h2⟩:=m a _ h
   exact .inl ⟨xs,SqL.of h1,by rw [<- h2.empty];exact e⟩
  ·obtain ⟨xs,h1,h2⟩:=m a _ h
   exact .inl ⟨xs,h1,by rw [<- h2.empty];exact e⟩
 | str x=>exact t.elim
 | ty x=>exact t.elim
theorem tv_of {Qb:Bool->MH->Prop} (h:EV X G M e fun d M'=>∃ k,TruD X.K d M' k/\Qb k M') (he:∀ whole,isTrue e X.env whole=(do let v <- whole;standAt e.pos;holding [v] (truthy v)):=by intro _;rfl):TV X G M e Qb:=by
 intro pins s σ H I R
 refine isTrue_plain (thn (h pins s σ H I R) fun v s1 ⟨x,H1,d,M1,I1,r1,g1,i1,R1,k,t,q⟩=>?_) (he _)
 exact thn (tru_ok pins s1 σ H1 x v (fun b H'=>b=k/\H'=H1) I1 r1 ⟨k,tru_of R1.mem i1 t,rfl,rfl⟩) fun b s2 ⟨H2,I2,e1,e2⟩=>by
  subst e1;subst e2
  exact ⟨H2,M1,I2,g1,R1,q⟩
theorem tv_not {Qb:Bool->MH->Prop} (h:TV X G M a fun k M'=>Qb (!k) M'):TV X G M (.UnaryOp .Not a pos) Qb:=by
 intro pins s σ H I R
 exact isTrue_not (thn (h pins s σ H I R) fun b s1 h1=>h1)
theorem tw_and1 {Qb:Bool->MH->Prop} (h:TV X G M a Qb):TW X G M (.BoolOp .And [a] pos) Qb:=by
 intro wh pins s σ H I R
 refine isTrue_and (thn (h pins s σ H I R) fun c s1 e=>?_)
 cases c with
 | true=>exact isTrue_and_nil e
 | false=>exact e
theorem tw_or1 {Qb:Bool->MH->Prop} (h:TV X G M a Qb):TW X G M (.BoolOp .Or [a] pos) Qb:=by
 intro wh pins s σ H I R
 refine isTrue_or (thn (h pins s σ H I R) fun c s1 e=>?_)
 cases c with
 | false=>exact isTrue_or_nil e
 | true=>exact e
theorem tw_and {Qb:Bool->MH->Prop} (h:TV X G M a fun k M1=>if k=true then TW X G M1 (.BoolOp .And (b :: rest) pos) Qb else Qb false M1):TW X G M (.BoolOp .And (a :: b :: rest) pos) Qb:=by
 intro wh pins s σ H I R
 refine isTrue_and (thn (h pins s σ H I R) fun c s1 ⟨H1,M1,I1,g1,R1,q1⟩=>?_)
 cases c with
 | true=>exact thn (q1 wh pins s1 σ H1 I1 R1) fun b s2 h2=>h2.grow g1
 | false=>exact ⟨H1,M1,I1,g1,R1,q1⟩
theorem tw_or {Qb:Bool->MH->Prop} (h:TV X G M a fun k M1=>if k=true then Qb true M1 else TW X G M1 (.BoolOp .Or (b :: rest) pos) Qb):TW X G M (.BoolOp .Or (a :: b :: rest) pos) Qb:=by
 intro wh pins s σ H I R
 refine isTrue_or (thn (h pins s σ H I R) fun c s1 ⟨H1,M1,I1,g1,R1,q1⟩=>?_)
 cases c with
 | true=>exact ⟨H1,M1,I1,g1,R1,q1⟩
 | false=>exact thn (q1 wh pins s1 σ H1 I1 R1) fun b s2 h2=>h2.grow g1
theorem ev_one {op} (h:EV X G M a Q):EV X G M (.BoolOp op [a] pos) Q:=fun pins s σ H I R=>BoolOp_one (h pins s σ H I R)
theorem ev_and (h:EV X G M a fun d M1=>∃ k,d=.bl k/\if k=true then EV X G M1 (.BoolOp .And (b :: rest) pos) Q else Q (.bl false) M1):EV X G M (.BoolOp .And (a :: b :: rest) pos) Q:=by
 intro pins s σ H I R
 refine BoolOp_and (thn (h pins s σ H I R) fun v s1 ⟨x,H1,d,M1,I1,r1,g1,i1,R1,k,e,q1⟩=>?_)
 subst e
 rw [is_bl] at i1;subst i1
 cases r1
 refine wpAny_truthy_bool ?_
 cases k with
 | true=>exact thn (q1 pins s1 σ H1 I1 R1) fun b s2 h2=>h2.grow g1
 | false=>exact ⟨.bl false,H1,_,M1,I1,rfl,g1,is_bl.mpr rfl,R1,q1⟩
theorem ev_or (h:EV X G M a fun d M1=>∃ k,d=.bl k/\if k=true then Q (.bl true) M1 else EV X G M1 (.BoolOp .Or (b :: rest) pos) Q):EV X G M (.BoolOp .Or (a :: b :: rest) pos) Q:=by
 intro pins s σ H I R
 refine BoolOp_or (thn (h pins s σ H I R) fun v s1 ⟨x,H1,d,M1,I1,r1,g1,i1,R1,k,e,q1⟩=>?_)
 subst e
 rw [is_bl] at i1;subst i1
 cases r1
 refine wpAny_truthy_bool ?_
 cases k with
 | false=>exact thn (q1 pins s1 σ H1 I1 R1) fun b s2 h2=>h2.grow g1
 | true=>exact ⟨.bl true,H1,_,M1,I1,rfl,g1,is_bl.mpr rfl,R1,q1⟩
theorem ev_ifExp (h:TV X G M c fun k M1=>if k=true then EV X G M1 a Q else EV X G M1 b Q):EV X G M (.IfExp c a b pos) Q:=by
 intro pins s σ H I R
 refine wpAny_IfExp (thn (h pins s σ H I R) fun d s1 ⟨H1,M1,I1,g1,R1,q1⟩=>?_)
 cases d with
 | true=>exact thn (q1 pins s1 σ H1 I1 R1) fun b s2 h2=>h2.grow g1
 | false=>exact thn (q1 pins s1 σ H1 I1 R1) fun b s2 h2=>h2.grow g1
theorem av_nil {Qa:List D->MH->Prop} (q:Qa [] M):AV X G M [] Qa:=fun _ pins s σ H I R=>Calls.spliced_nil ⟨[],H,[],M,I,.nil,Grow.refl _,isl_nil.mpr rfl,R,q⟩
theorem av_cons {Qa:List D->MH->Prop} (h:EV X G M e fun d M1=>AV X G M1 es fun ds M2=>Qa (d :: ds) M2) (hs:starEach (e :: es) X.env=(false,eval e X.env) :: starEach es X.env:=by rfl):AV X G M (e :: es) Qa:=by
 intro pos pins s σ H I R
 rw [hs]
 show wpAny _ _ (spliced ((false,eval e X.env) :: backTo pos (starEach es X.env))) _ _ s
 refine Calls.spliced_cons (thn (h pins s σ H I R) fun u s1 ⟨x,H1,d,M1,I1,r1,g1,i1,R1,q1⟩=>?_)
 exact thn (q1 pos pins s1 σ H1 I1 R1) fun us s2 ⟨xs,H2,ds,M2,I2,r2,g2,i2,R2,q2⟩ =>
  ⟨x :: xs,H2,d :: ds,M2,I2,.cons r1 r2,g1.trans g2,isl_cons.mpr ⟨x,xs,rfl,Is.grow g2 _ _ i1,i2⟩,R2,q2⟩
theorem ev_tup {k} (h:AV X G M es fun ds M1=>ds.length<=sizeLine/\Q (.tup ds) M1):EV X G M (.Tuple es k pos) Q:=by
 intro pins s σ H I R
 refine wpAny_Tuple_spliced (thn (h pos pins s σ H I R) fun us s1 ⟨xs,H1,ds,M1,I1,r,g1,i1,R1,z,q⟩=>?_)
 have hl:=i1.len
 refine ⟨by rw [<- r.length,<- hl];exact z,?_⟩
 have hf:H1 s1.heap.objs.size=none:=I1.hok.fresh (Nat.le_refl _)
 refine ⟨.ref s1.heap.objs.size,upd H1 s1.heap.objs.size (.tup xs),.tup ds,M1,I1.laid (t':=s1.toks) (fun b u e=>Heap.get?_push_of_some _ e) (Nat.le_refl _) ⟨⟨by rw [<- hl];exact z,_,Heap.get?_push_size _ rfl,rfl⟩,us,r,⟨_,Heap.get?_push_size _ rfl,rfl,_,rfl⟩⟩,rfl,g1.trans (grow_new hf),?_,R1.to (grow_new hf) (R1.mem.new hf),q⟩
 exact is_tup.mpr ⟨_,xs,rfl,upd_same,i1.grow (grow_new hf)⟩
theorem ev_lst (h:AV X G M es fun ds M1=>ds.length<=sizeLine/\∀ p,M1 p=none->Q (.ref p) (mset M1 p (.lst ds))):EV X G M (.List es pos) Q:=by
 intro pins s σ H I R
 refine wpAny_List_spliced (thn (h pos pins s σ H I R) fun us s1 ⟨xs,H1,ds,M1,I1,r,g1,i1,R1,z,q⟩=>?_)
 have hl:=i1.len
 refine ⟨by rw [<- r.length,<- hl];exact z,?_⟩
 have hf:H1 s1.heap.objs.size=none:=I1.hok.fresh (Nat.le_refl _)
 have I2:=I1.laid (o:=.lst xs) (t':=s1.toks) (h':=s1.heap.push { cls:=.type "list",data:=.seq us.toArray }) (fun b u e=>Heap.get?_push_of_some _ e) (Nat.le_refl _) ⟨by rw [<- hl];exact z,us,0,r,Heap.get?_push_size _ rfl⟩
 refine ⟨.ref s1.heap.objs.size,upd H1 s1.heap.objs.size (.lst xs),.ref s1.heap.objs.size,mset M1 s1.heap.objs.size (.lst ds),I2,rfl,g1.trans (grow_new hf),is_ref.mpr rfl,R1.to (grow_new hf) (R1.mem.lay hf ⟨xs,upd_same,i1.grow (grow_new hf)⟩),q _ (R1.mem.fresh hf (kf_of I2))⟩
theorem ev_ix {r:R2} (hr:IxR X r) (hs:PlainIx b) (h:EV X G M a fun da Ma=>EV X G Ma b fun db Mb=>RD X.K r da db Mb Q):EV X G M (.Subscript a b pos) Q:=by
 intro pins s σ H I R
 refine Subscript_ (thn (h pins s σ H I R) fun v s1 ⟨x,H1,da,Ma,I1,r1,g1,i1,R1,q1⟩=>?_)
 refine thn (q1 pins s1 σ H1 I1 R1) fun u s2 ⟨y,H2,db,Mb,I2,r2,g2,i2,R2,q2⟩=>?_
 exact thn (hr a b pins s2 σ H2 x y v u _ I2 r1 r2 (q2 H2 x y (kf_of I2) (Is.grow g2 _ _ i1) i2 R2.mem) (hs _ _)) fun w s3 h3=>rd_fin (g1.trans g2) R2 h3
def IxD (da:D) (i:Int) (M:MH) (Q:DK):Prop:=match da with
 | .tup ds=>∃ d,atI ds i=some d/\Q d M
 | .ref a=>(∃ ds d,M a=some (.lst ds)/\atI ds i=some d/\Q d M)\/(∃ ds d,M a=some (.ro ds)/\atI ds i=some d/\Q d M)
 | _=>False
theorem atI_is {H:Hp} {ds:List D} {vs:List V} {i:Int} {d:D} (h:IsL H ds vs) (e:atI ds i=some d):∃ v,atI vs i=some v/\Is H d v:=by
 obtain ⟨j,_,h2,_⟩:=atI_get e
 unfold atI at e ⊢
 rw [<- h.len]
 cases q:ixN ds.length i with
 | none=>rw [q] at e;cases e
 | some k =>
  rw [q] at e
  exact h.get (i:=k) e
theorem rd_ix {da:D} {i:Int} (h:IxD da i M Q):RD X.K (rIx X.K) da (.int i) M Q:=by
 intro H x y kf hx hy m
 rw [is_int] at hy;subst hy
 cases da with
 | tup ds =>
  rw [is_tup] at hx
  obtain ⟨a,xs,rfl,h1,h2⟩:=hx
  obtain ⟨d,e,q⟩:=h
  obtain ⟨v,e2,h3⟩:=atI_is h2 e
  exact .inr (.inl ⟨a,xs,i,v,rfl,rfl,SqT.of h1,e2,fun _=>⟨Grow.refl _,d,M,h3,m,q⟩⟩)
 | ref a =>
  rw [is_ref] at hx;subst hx
  rcases h with ⟨ds,d,h1,e,q⟩ | ⟨ds,d,h1,e,q⟩
  ·obtain ⟨xs,h2,h3⟩:=m a _ h1
   obtain ⟨v,e2,h4⟩:=atI_is h3 e
   exact .inl ⟨a,xs,i,v,rfl,rfl,SqL.of h2,e2,fun _=>⟨Grow.refl _,d,M,h4,m,q⟩⟩
  ·obtain ⟨xs,h2,h3⟩:=m a _ h1
   obtain ⟨v,e2,h4⟩:=atI_is h3 e
   exact .inl ⟨a,xs,i,v,rfl,rfl,h2,e2,fun _=>⟨Grow.refl _,d,M,h4,m,q⟩⟩
 | non=>exact h.elim
 | bl _=>exact h.elim
 | int _=>exact h.elim
 | str _=>exact h.elim
 | ty _=>exact h.elim
end
end D3
namespace D3
open PySem PySem.Spec PyProof.Rows L2
section
variable {X:Cx} {G:Ga} {M:MH} {a b c e:Expr} {es rest:List Expr} {pos:Pos} {Q:DK}
def OV (X:Cx) (G:Ga) (M:MH) (e:Option Expr) (Q:Option Int->MH->Prop):Prop :=
 ∀ (pins:List (Addr × Obj)) (s:Shared) (σ:St) (H:Hp),Inv X pins σ H s->Rel X G M σ H ->
  wpAny (model X.prog X.w) X.A (evalPart e X.env) (fun u s'=>∃ o H' M',Inv X pins σ H' s'/\Grow H H'/\IsPart u o/\Rel X G M' σ H'/\Q o M') X.xe s
theorem ov_none {Qo:Option Int->MH->Prop} (q:Qo none M):OV X G M none Qo:=by
 intro pins s σ H I R
 rw [evalPart_none]
 exact wpAny_pure ⟨none,H,M,I,Grow.refl _,.none,R,q⟩
theorem ov_some {Qo:Option Int->MH->Prop} (h:EV X G M e fun d M1=>∃ i,d=.int i/\Qo (some i) M1):OV X G M (some e) Qo:=by
 intro pins s σ H I R
 rw [evalPart_some]
 refine thn (h pins s σ H I R) fun u s1 ⟨x,H1,d,M1,I1,r1,g1,i1,R1,i,e,q⟩=>?_
 subst e
 rw [is_int] at i1;subst i1
 obtain ⟨t,rfl⟩:=r1
 exact ⟨some i,H1,M1,I1,g1,.int i t,R1,q⟩
def cutD (xs:List D) (lo hi:Option Int):List D:=(xs.drop (HT.sIx xs.length 0 lo)).take (HT.sIx xs.length xs.length hi - HT.sIx xs.length 0 lo)
theorem IsL.cut {H:Hp} {ds:List D} {vs:List V} (h:IsL H ds vs) (lo hi:Option Int):IsL H (cutD ds lo hi) (cutV vs lo hi):=by
 unfold cutD cutV
 rw [h.len]
 exact (h.drop _).take _
def RS (K:PySem.W.Frag) (r:V->Option Int->Option Int->Hp->VK->Prop) (da:D) (lo hi:Option Int) (M:MH) (Q:DK):Prop:=∀ H x,KF K H->Is H da x->MemOk K M H->r x lo hi H (RDP K H Q)
theorem ev_slice {r:V->Option Int->Option Int->Hp->VK->Prop} {lo hi:Option Expr} {p2:Pos} (hr:SlR X r) (h:EV X G M e fun d M1=>OV X G M1 lo fun l M2=>OV X G M2 hi fun u M3=>RS X.K r d l u M3 Q) :
  EV X G M (.Subscript e (.Slice lo hi none p2) pos) Q:=by
 intro pins s σ H I R
 refine Subscript_ (thn (h pins s σ H I R) fun v s1 ⟨x,H1,d,M1,I1,r1,g1,i1,R1,q1⟩=>?_)
 refine wpAny_Slice (thn (q1 pins s1 σ H1 I1 R1) fun vl s2 ⟨l,H2,M2,I2,g2,pl,R2,q2⟩=>thn (q2 pins s2 σ H2 I2 R2) fun vu s3 ⟨u,H3,M3,I3,g3,pu,R3,q3⟩=>?_)
 rw [evalPart_none]
 refine wpAny_pure ?_
 have I4:Inv X pins σ H3 { s3 with heap:=s3.heap.push { cls:=.type "slice",data:=.fields #[vl,vu,.none] } }:=I3.kept (t':=s3.toks) fun b ob q=>Heap.get?_push_of_some _ q
 obtain ⟨T,id,hT,ht,hg⟩:=hr pins { s3 with heap:=s3.heap.push { cls:=.type "slice",data:=.fields #[vl,vu,.none] } } σ H3 x v vl vu l u s3.heap.objs.size _ I4 r1 (Heap.IsSliceOf.new ..) pl pu (q3 H3 x (kf_of I3) (Is.grow (g2.trans g3) _ _ i1) R3.mem)
 show wpAny (model X.prog X.w) X.A (subscriptTail e (.Slice lo hi none p2) v (.ref s3.heap.objs.size)) _ X.xe { s3 with heap:=s3.heap.push { cls:=.type "slice",data:=.fields #[vl,vu,.none] } }
 exact tail_any (ops:=[.ref s3.heap.objs.size,v]) ht hT (thn hg fun w s5 h5=>rd_fin ((g1.trans g2).trans g3) R3 h5) (by with_unfolding_all rfl)
theorem rs_list {da:D} {lo hi:Option Int} {l:Addr} {ds:List D} (e:da=.ref l) (hl:M l=some (.lst ds)\/M l=some (.ro ds)) (h:∀ p,M p=none->Q (.ref p) (mset M p (.lst (cutD ds lo hi)))):RS X.K (rSlL X.K) da lo hi M Q:=by
 intro H x kf hx m
 subst e
 rw [is_ref] at hx;subst hx
 have hq:∃ xs,SqL X.K H l xs/\IsL H ds xs:=by
  rcases hl with hl | hl
  ·obtain ⟨xs,h1,h2⟩:=m l _ hl;exact ⟨xs,SqL.of h1,h2⟩
  ·exact m l _ hl
 obtain ⟨xs,h1,h2⟩:=hq
 refine ⟨l,xs,rfl,h1,fun p hp kf'=>⟨grow_new hp,.ref p,mset M p (.lst (cutD ds lo hi)),is_ref.mpr rfl,m.lay hp ⟨_,upd_same,(h2.cut lo hi).grow (grow_new hp)⟩,h p (m.fresh hp kf')⟩⟩
theorem rd_I {C:Int->Int->Prop} {g:Int->Int->Int} {i j:Int} (c:C i j) (q:Q (.int (g i j)) M):RD X.K (rI C fun i j=>.int (g i j)) (.int i) (.int j) M Q:=by
 intro H x y kf hx hy m
 rw [is_int] at hx hy;subst hx;subst hy
 exact ⟨i,j,rfl,rfl,c,fun _=>⟨Grow.refl _,_,M,is_int.mpr rfl,m,q⟩⟩
theorem rd_I0 {g:Int->Int->Int} {i j:Int} (q:Q (.int (g i j)) M):RD X.K (rI0 fun i j=>.int (g i j)) (.int i) (.int j) M Q:=by
 intro H x y kf hx hy m
 rw [is_int] at hx hy;subst hx;subst hy
 exact ⟨i,j,rfl,rfl,fun _=>⟨Grow.refl _,_,M,is_int.mpr rfl,m,q⟩⟩
theorem rd_B0 {g:Int->Int->Bool} {i j:Int} (q:Q (.bl (g i j)) M):RD X.K (rI0 fun i j=>.bl (g i j)) (.int i) (.int j) M Q:=by
 intro H x y kf hx hy m
 rw [is_int] at hx hy;subst hx;subst hy
 exact ⟨i,j,rfl,rfl,fun _=>⟨Grow.refl _,_,M,is_bl.mpr rfl,m,q⟩⟩
theorem op_mulB:OpR X (binaryOp .Mult) (rI IntMulOk fun i j=>.int (i * j)):=opI fun _ _ _ _ _ _ _ hc q=>mul_int q hc
def CDivB (i j:Int):Prop:=j≠0/\j.natAbs.log2 < 9000
theorem op_fdivB:OpR X (binaryOp .FloorDiv) (rI CDivB fun i j=>.int (i.fdiv j)):=opI fun _ _ _ _ _ _ _ hc q=>floordiv_int hc.1 q (.inl (PyProof.noPylong_of_log2 hc.2))
def AddD (da db:D) (M:MH) (Q:DK):Prop:=match da,db with
 | .int i,.int j=>Q (.int (i+j)) M
 | .tup xs,.tup ys=>xs≠[]/\xs.length+ys.length<=sizeLine/\Q (.tup (xs++ys)) M
 | .str x,.str y=>x.length+y.length<=sizeLine/\Q (.str (x++y)) M
 | .ref l,.ref k=>∃ xs ys,M l=some (.lst xs)/\M k=some (.lst ys)/\xs.length+ys.length<=sizeLine/\∀ p,M p=none->Q (.ref p) (mset M p (.lst (xs++ys)))
 | _,_=>False
theorem op_addAll:OpR X (binaryOp .Add) (fun x y H Q=>rI0 (fun i j=>.int (i+j)) x y H Q\/(rCatT X.K x y H Q\/((∃ i j,x=.str i/\y=.str j/\i.length+j.length<=sizeLine/\Q (.str (i++j)) H)\/rCat x y H Q))) :=
 op_add.or (op_catT.or (op_add_str.or op_cat))
theorem rd_add {da db:D} (h:AddD da db M Q):RD X.K (fun x y H Q=>rI0 (fun i j=>.int (i+j)) x y H Q\/(rCatT X.K x y H Q\/((∃ i j,x=.str i/\y=.str j/\i.length+j.length<=sizeLine/\Q (.str (i++j)) H)\/rCat x y H Q))) da db M Q:=by
 intro H x y kf hx hy m
 unfold AddD at h
 split at h
 ·rw [is_int] at hx hy;subst hx;subst hy
  exact .inl ⟨_,_,rfl,rfl,fun _=>⟨Grow.refl _,_,M,is_int.mpr rfl,m,h⟩⟩
 ·rename_i xs ys
  obtain ⟨h0,h1,q⟩:=h
  rw [is_tup] at hx hy
  obtain ⟨l,us,rfl,hl,hu⟩:=hx
  obtain ⟨k,ws,rfl,hk,hw⟩:=hy
  refine .inr (.inl ⟨l,k,us,ws,rfl,rfl,SqT.of hl,SqT.of hk,?_,by rw [<- hu.len,<- hw.len];exact h1,?_,?_⟩)
  ·intro z;subst z
   have:=hu.len
   exact h0 (List.eq_nil_of_length_eq_zero (by simpa using this))
  ·intro z _
   subst z
   have hy:ys=[]:=List.eq_nil_of_length_eq_zero (by simpa using hw.len)
   subst hy
   rw [List.append_nil] at q
   exact ⟨Grow.refl _,_,M,is_tup.mpr ⟨l,us,rfl,hl,hu⟩,m,q⟩
  ·intro _ p hp _
   exact ⟨grow_new hp,_,M,is_tup.mpr ⟨p,_,rfl,upd_same,(hu.app hw).grow (grow_new hp)⟩,m.new hp,q⟩
 ·rw [is_str] at hx hy;subst hx;subst hy
  exact .inr (.inr (.inl ⟨_,_,rfl,rfl,h.1,fun _=>⟨Grow.refl _,_,M,is_str.mpr rfl,m,h.2⟩⟩))
 ·rw [is_ref] at hx hy;subst hx;subst hy
  obtain ⟨xs,ys,h1,h2,h3,q⟩:=h
  obtain ⟨us,e1,i1⟩:=m _ _ h1
  obtain ⟨ws,e2,i2⟩:=m _ _ h2
  refine .inr (.inr (.inr ⟨_,_,us,ws,rfl,rfl,e1,e2,by rw [<- i1.len,<- i2.len];exact h3,fun p hp kf'=>⟨grow_new hp,.ref p,mset M p (.lst (xs++ys)),is_ref.mpr rfl,m.lay hp ⟨_,upd_same,(i1.app i2).grow (grow_new hp)⟩,q p (m.fresh hp kf')⟩⟩))
 ·exact h.elim
theorem ev_add (h:EV X G M a fun da Ma=>EV X G Ma b fun db Mb=>AddD da db Mb Q):EV X G M (.BinOp a .Add b pos) Q:=ev_op op_addAll (h.mono fun _ _ h1=>h1.mono fun _ _ h2=>rd_add h2)
theorem ev_sub (h:EV X G M a fun da Ma=>EV X G Ma b fun db Mb=>∃ i j,da=.int i/\db=.int j/\Q (.int (i - j)) Mb):EV X G M (.BinOp a .Sub b pos) Q :=
 ev_op op_sub (h.mono fun _ _ h1=>h1.mono fun _ _ ⟨i,j,e1,e2,q⟩=>by subst e1;subst e2;exact rd_I0 (g:=fun i j=>i - j) q)
theorem ev_mul (h:EV X G M a fun da Ma=>EV X G Ma b fun db Mb=>∃ i j,da=.int i/\db=.int j/\IntMulOk i j/\Q (.int (i * j)) Mb):EV X G M (.BinOp a .Mult b pos) Q :=
 ev_op op_mulB (h.mono fun _ _ h1=>h1.mono fun _ _ ⟨i,j,e1,e2,z,q⟩=>by subst e1;subst e2;exact rd_I (C:=IntMulOk) (g:=fun i j=>i * j) z q)
theorem ev_fdiv (h:EV X G M a fun da Ma=>EV X G Ma b fun db Mb=>∃ i j,da=.int i/\db=.int j/\CDivB i j/\Q (.int (i.fdiv j)) Mb):EV X G M (.BinOp a .FloorDiv b pos) Q :=
 ev_op op_fdivB (h.mono fun _ _ h1=>h1.mono fun _ _ ⟨i,j,e1,e2,z,q⟩=>by subst e1;subst e2;exact rd_I (C:=CDivB) (g:=fun i j=>i.fdiv j) z q)
theorem ev_mod (h:EV X G M a fun da Ma=>EV X G Ma b fun db Mb=>∃ i j,da=.int i/\db=.int j/\j≠0/\Q (.int (i.fmod j)) Mb):EV X G M (.BinOp a .Mod b pos) Q :=
 ev_op op_modN (h.mono fun _ _ h1=>h1.mono fun _ _ ⟨i,j,e1,e2,z,q⟩=>by subst e1;subst e2;exact rd_I (C:=fun _ j=>j≠0) (g:=fun i j=>i.fmod j) z q)
theorem ev_pow (h:EV X G M a fun da Ma=>EV X G Ma b fun db Mb=>∃ i j,da=.int i/\db=.int j/\CPow i j/\Q (.int (i ^ j.toNat)) Mb):EV X G M (.BinOp a .Pow b pos) Q :=
 ev_op op_pow (h.mono fun _ _ h1=>h1.mono fun _ _ ⟨i,j,e1,e2,z,q⟩=>by subst e1;subst e2;exact rd_I (C:=CPow) (g:=fun i j=>i ^ j.toNat) z q)
theorem ev_neg (h:EV X G M a fun da Ma=>∃ i,da=.int i/\Q (.int (-i)) Ma):EV X G M (.UnaryOp .USub a pos) Q :=
 ev_un un_neg (h.mono fun _ Ma ⟨i,e1,q⟩=>by
  subst e1
  intro H x kf hx m
  rw [is_int] at hx;subst hx
  exact ⟨i,rfl,fun _=>⟨Grow.refl _,_,Ma,is_int.mpr rfl,m,q⟩⟩)
theorem ev_lt (h:EV X G M a fun da Ma=>EV X G Ma b fun db Mb=>∃ i j,da=.int i/\db=.int j/\Q (.bl (decide (i < j))) Mb):EV X G M (.Compare a [.Lt] [b] pos) Q :=
 ev_cmp op_lt (nomark _) (h.mono fun _ _ h1=>h1.mono fun _ _ ⟨i,j,e1,e2,q⟩=>by subst e1;subst e2;exact rd_B0 (g:=fun i j=>decide (i < j)) q)
theorem ev_le (h:EV X G M a fun da Ma=>EV X G Ma b fun db Mb=>∃ i j,da=.int i/\db=.int j/\Q (.bl (decide (i<=j))) Mb):EV X G M (.Compare a [.LtE] [b] pos) Q :=
 ev_cmp op_le (nomark _) (h.mono fun _ _ h1=>h1.mono fun _ _ ⟨i,j,e1,e2,q⟩=>by subst e1;subst e2;exact rd_B0 (g:=fun i j=>decide (i<=j)) q)
theorem ev_gt (h:EV X G M a fun da Ma=>EV X G Ma b fun db Mb=>∃ i j,da=.int i/\db=.int j/\Q (.bl (decide (j < i))) Mb):EV X G M (.Compare a [.Gt] [b] pos) Q :=
 ev_cmp op_gt (nomark _) (h.mono fun _ _ h1=>h1.mono fun _ _ ⟨i,j,e1,e2,q⟩=>by subst e1;subst e2;exact rd_B0 (g:=fun i j=>decide (j < i)) q)
def EqD (da db:D) (k:Bool):Prop:=match da,db with
 | .int i,.int j=>k=decide (i=j)
 | .bl i,.bl j=>k=decide (i=j)
 | .str i,.str j=>k=decide (i=j)
 | _,_=>False
theorem eqD_val {H:Hp} {da db:D} {k:Bool} {x y:V} (h:EqD da db k) (hx:Is H da x) (hy:Is H db y):scal x y=true/\k=decide (x=y):=by
 unfold EqD at h
 split at h
 ·rw [is_int] at hx hy;subst hx;subst hy;subst h
  exact ⟨rfl,by simp⟩
 ·rw [is_bl] at hx hy;subst hx;subst hy;subst h
  exact ⟨rfl,by simp⟩
 ·rw [is_str] at hx hy;subst hx;subst hy;subst h
  exact ⟨rfl,by simp⟩
 ·exact h.elim
theorem tv_lt {Qb:Bool->MH->Prop} (h:EV X G M a fun da Ma=>EV X G Ma b fun db Mb=>∃ i j,da=.int i/\db=.int j/\Qb (decide (i < j)) Mb):TV X G M (.Compare a [.Lt] [b] pos) Qb :=
 tv_cmp op_lt (nomark _) (h.mono fun _ _ h1=>h1.mono fun _ _ ⟨i,j,e1,e2,q⟩=>by subst e1;subst e2;exact rd_B0 (g:=fun i j=>decide (i < j)) ⟨_,rfl,q⟩)
theorem tv_gt {Qb:Bool->MH->Prop} (h:EV X G M a fun da Ma=>EV X G Ma b fun db Mb=>∃ i j,da=.int i/\db=.int j/\Qb (decide (j < i)) Mb):TV X G M (.Compare a [.Gt] [b] pos) Qb :=
 tv_cmp op_gt (nomark _) (h.mono fun _ _ h1=>h1.mono fun _ _ ⟨i,j,e1,e2,q⟩=>by subst e1;subst e2;exact rd_B0 (g:=fun i j=>decide (j < i)) ⟨_,rfl,q⟩)
theorem ev_callB {x:Str} {p:Pos} {id:String} {r:List V->Hp->VK->Prop} (hc:CallR X (.builtin id) r) (hm:X.mg x=none) (hv:bootBuiltins x=some (.builtin id)) (h:AV X G M (e :: es) fun ds M1=>RC X.K r ds M1 Q) (hg:Gl X x:=by rfl)
  (hn:x ≠ "__name__" := by decide) (hdb:(x == ("__debug__" : Str))=false:=by decide) (he:starEach (e :: es) X.env=(false,eval e X.env) :: starEach es X.env:=by rfl) (hpl:(backTo pos (starEach es X.env)).any (·.1)=false:=by rfl) :
  EV X G M (.Call (.Name x p) (e :: es) [] pos) Q:=by
 intro pins s σ H I R
 refine wpAny_Call_Name_kw (ld_blt I hg hm hv ?_ hn hdb)
 exact PyProof.Rows.callWith_builtin1 (thn (h pos pins s σ H I R) fun us s1 ⟨vs,H1,ds,M1,I1,r1,g1,i1,R1,q1⟩ =>
  thn (hc pins s1 σ H1 vs us _ I1 r1 (q1 H1 vs (kf_of I1) i1 R1.mem)) fun w s2 h2=>rd_fin g1 R1 h2) he hpl
theorem ev_callTy {x:Str} {p:Pos} {T:String} {r:List V->Hp->VK->Prop} (hc:CallR X (.type T) r) (hm:X.mg x=none) (hv:bootBuiltins x=some (.type T)) (h:AV X G M (e :: es) fun ds M1=>RC X.K r ds M1 Q) (hg:Gl X x:=by rfl)
  (hn:x ≠ "__name__" := by decide) (hdb:(x == ("__debug__" : Str))=false:=by decide) (he:starEach (e :: es) X.env=(false,eval e X.env) :: starEach es X.env:=by rfl) (hpl:(backTo pos (starEach es X.env)).any (·.1)=false:=by rfl) :
  EV X G M (.Call (.Name x p) (e :: es) [] pos) Q:=by
 intro pins s σ H I R
 refine wpAny_Call_Name_kw (ld_blt I hg hm hv ?_ hn hdb)
 exact PyProof.Rows.callWith_type1 (thn (h pos pins s σ H I R) fun us s1 ⟨vs,H1,ds,M1,I1,r1,g1,i1,R1,q1⟩ =>
  thn (hc pins s1 σ H1 vs us _ I1 r1 (q1 H1 vs (kf_of I1) i1 R1.mem)) fun w s2 h2=>rd_fin g1 R1 h2) he hpl
theorem isl1 {H:Hp} {d:D} {vs:List V} (h:IsL H [d] vs):∃ v,vs=[v]/\Is H d v:=by
 rw [isl_cons] at h
 obtain ⟨x,r,e,h1,h2⟩:=h
 rw [isl_nil] at h2;subst h2
 exact ⟨x,e,h1⟩
theorem isl2 {H:Hp} {d d':D} {vs:List V} (h:IsL H [d,d'] vs):∃ v v',vs=[v,v']/\Is H d v/\Is H d' v':=by
 rw [isl_cons] at h
 obtain ⟨x,r,e,h1,h2⟩:=h
 obtain ⟨y,rfl,h3⟩:=isl1 h2
 exact ⟨x,y,e,h1,h3⟩
theorem AV.mono {Qa Qb:List D->MH->Prop} (h:AV X G M es Qa) (k:∀ ds M',Qa ds M'->Qb ds M'):AV X G M es Qb:=fun pos pins s σ H I R =>
 thn (h pos pins s σ H I R) fun us s1 ⟨vs,H1,ds,M1,I1,r1,g1,i1,R1,q1⟩=>⟨vs,H1,ds,M1,I1,r1,g1,i1,R1,k _ _ q1⟩
theorem bootAbs:bootBuiltins "abs" = some (.builtin "abs"):=by decide +kernel
theorem bootMin:bootBuiltins "min" = some (.builtin "min"):=by decide +kernel
theorem bootLen:bootBuiltins "len" = some (.builtin "len"):=by decide +kernel
theorem bootIsi:bootBuiltins "isinstance" = some (.builtin "isinstance"):=by decide +kernel
theorem bootTuple:bootBuiltins "tuple" = some (.type "tuple"):=by decide +kernel
theorem bootInt:bootBuiltins "int" = some (.type "int"):=by decide +kernel
theorem ev_abs {p:Pos} (hm:X.mg "abs" = none) (h:AV X G M [e] fun ds M1=>∃ i:Int,ds=[.int i]/\Q (.int (if i < 0 then -i else i)) M1) (hg:Gl X "abs" := by rfl) (he:starEach [e] X.env=(false,eval e X.env) :: starEach [] X.env:=by rfl) (hpl:(backTo pos (starEach ([] : List Expr) X.env)).any (·.1)=false:=by rfl):EV X G M (.Call (.Name "abs" p) [e] [] pos) Q :=
 ev_callB call_abs hm bootAbs (h.mono fun ds M1 ⟨i,e1,q⟩=>fun H xs kf hx m=>by
  subst e1
  obtain ⟨v,rfl,hv⟩:=isl1 hx
  rw [is_int] at hv;subst hv
  exact ⟨i,rfl,fun _=>⟨Grow.refl _,_,M1,is_int.mpr rfl,m,q⟩⟩) hg (by decide) (by decide) he hpl
theorem ev_min2 {p:Pos} {e2:Expr} (hm:X.mg "min" = none) (hc:X.calm=true) (h:AV X G M [e,e2] fun ds M1=>∃ i j:Int,ds=[.int i,.int j]/\Q (.int (if j < i then j else i)) M1) (hg:Gl X "min" := by rfl) (he:starEach [e,e2] X.env=(false,eval e X.env) :: starEach [e2] X.env:=by rfl) (hpl:(backTo pos (starEach [e2] X.env)).any (·.1)=false:=by rfl):EV X G M (.Call (.Name "min" p) [e,e2] [] pos) Q :=
 ev_callB (call_min2 hc) hm bootMin (h.mono fun ds M1 ⟨i,j,e1,q⟩=>fun H xs kf hx m=>by
  subst e1
  obtain ⟨v,w,rfl,hv,hw⟩:=isl2 hx
  rw [is_int] at hv hw;subst hv;subst hw
  exact ⟨i,j,rfl,fun _=>⟨Grow.refl _,_,M1,is_int.mpr rfl,m,q⟩⟩) hg (by decide) (by decide) he hpl
def LenD (d:D) (M:MH) (n:Nat):Prop:=match d with
 | .tup ds=>n=ds.length
 | .ref a=>(∃ ds,M a=some (.lst ds)/\n=ds.length)\/(∃ ds,M a=some (.ro ds)/\n=ds.length)
 | _=>False
theorem ev_len {p:Pos} (hm:X.mg "len" = none) (h:AV X G M [e] fun ds M1=>∃ d n,ds=[d]/\LenD d M1 n/\Q (.int (n:Nat)) M1) (hg:Gl X "len" := by rfl) (he:starEach [e] X.env=(false,eval e X.env) :: starEach [] X.env:=by rfl) (hpl:(backTo pos (starEach ([] : List Expr) X.env)).any (·.1)=false:=by rfl):EV X G M (.Call (.Name "len" p) [e] [] pos) Q :=
 ev_callB call_len_seq hm bootLen (h.mono fun ds M1 ⟨d,n,e1,hl,q⟩=>fun H xs kf hx m=>by
  subst e1
  obtain ⟨v,rfl,hv⟩:=isl1 hx
  cases d with
  | tup ds =>
   rw [is_tup] at hv
   obtain ⟨a,ys,rfl,h1,h2⟩:=hv
   have e2:n=ds.length:=hl
   exact ⟨a,ys,rfl,.inr (SqT.of h1),fun _=>⟨Grow.refl _,.int n,M1,is_int.mpr (by rw [e2,h2.len]),m,q⟩⟩
  | ref a =>
   rw [is_ref] at hv;subst hv
   rcases hl with ⟨ds,h1,e2⟩ | ⟨ds,h1,e2⟩
   ·obtain ⟨ys,h3,h4⟩:=m a _ h1
    exact ⟨a,ys,rfl,.inl (SqL.of h3),fun _=>⟨Grow.refl _,.int n,M1,is_int.mpr (by rw [e2,h4.len]),m,q⟩⟩
   ·obtain ⟨ys,h3,h4⟩:=m a _ h1
    exact ⟨a,ys,rfl,.inl h3,fun _=>⟨Grow.refl _,.int n,M1,is_int.mpr (by rw [e2,h4.len]),m,q⟩⟩
  | non=>exact hl.elim
  | bl _=>exact hl.elim
  | int _=>exact hl.elim
  | str _=>exact hl.elim
  | ty _=>exact hl.elim) hg (by decide) (by decide) he hpl
def tyName (d:D) (M:MH) (t:String):Prop:=match d with
 | .non=>t = "NoneType"
 | .bl _=>t = "bool"
 | .int _=>t = "int"
 | .str _=>t = "str"
 | .tup _=>t = "tuple"
 | .ref a=>(∃ ds,M a=some (.lst ds))/\t = "list"
 | .ty _=>False
theorem call_isinst:CallR X (.builtin "isinstance") (fun xs H Q=>∃ x t c b,xs=[x,.ty c]/\TyOf X.K H x t/\PySem.W.kitOne X.K t (.type c)=some b/\Q (.bl b) H):=by
 intro pins s σ H xs us Q I r h
 obtain ⟨x,t,c,b,rfl,ty,e,q⟩:=h
 obtain ⟨u,w',rfl,ru,rw'⟩:=vals2 r
 cases rw'
 exact isinst_ok I ru ty e (fun tk=>⟨.bl b,H,I.tok tk,rfl,q⟩)
theorem tyOf_of {K:PySem.W.Frag} {H:Hp} {d:D} {M:MH} {v:V} {t:String} (m:MemOk K M H) (i:Is H d v) (h:tyName d M t):TyOf K H v (.type t):=by
 cases d with
 | non=>rw [is_non] at i;subst i;cases (show t=_ from h);exact .non
 | bl b=>rw [is_bl] at i;subst i;cases (show t=_ from h);exact .bl _
 | int b=>rw [is_int] at i;subst i;cases (show t=_ from h);exact .int _
 | str b=>rw [is_str] at i;subst i;cases (show t=_ from h);exact .str _
 | tup ds =>
  rw [is_tup] at i
  obtain ⟨a,xs,rfl,h1,h2⟩:=i
  cases (show t=_ from h)
  exact .tup h1
 | ref a =>
  rw [is_ref] at i;subst i
  obtain ⟨⟨ds,h1⟩,rfl⟩:=h
  obtain ⟨xs,h2,_⟩:=m a _ h1
  exact .lst h2
 | ty _=>exact h.elim
theorem ev_isi {p:Pos} {e2:Expr} (hm:X.mg "isinstance" = none) (h:AV X G M [e,e2] fun ds M1=>∃ d t c b,ds=[d,.ty c]/\tyName d M1 t/\PySem.W.kitOne X.K (.type t) (.type c)=some b/\Q (.bl b) M1) (hg:Gl X "isinstance" := by rfl) (he:starEach [e,e2] X.env=(false,eval e X.env) :: starEach [e2] X.env:=by rfl) (hpl:(backTo pos (starEach [e2] X.env)).any (·.1)=false:=by rfl) :
  EV X G M (.Call (.Name "isinstance" p) [e,e2] [] pos) Q :=
 ev_callB call_isinst hm bootIsi (h.mono fun ds M1 ⟨d,t,c,b,e1,ht,hk,q⟩=>fun H xs kf hx m=>by
  subst e1
  obtain ⟨v,w,rfl,hv,hw⟩:=isl2 hx
  rw [is_ty] at hw;subst hw
  exact ⟨v,.type t,c,b,rfl,tyOf_of m hv ht,hk,fun _=>⟨Grow.refl _,.bl b,M1,is_bl.mpr rfl,m,q⟩⟩) hg (by decide) (by decide) he hpl
def IsDv (da db:D) (k:Bool):Prop:=match da,db with
 | .bl i,.bl j=>k=(i == j)
 | .non,.non=>k=true
 | .bl _,.non=>k=false
 | .int _,.non=>k=false
 | .str _,.non=>k=false
 | .tup _,.non=>k=false
 | .ref _,.non=>k=false
 | _,_=>False
theorem isD_val {H:Hp} {da db:D} {k:Bool} {x y:V} (h:IsDv da db k) (hx:Is H da x) (hy:Is H db y):(∃ i j,x=.bl i/\y=.bl j/\k=(i == j))\/(y=.non/\k=decide (x=.non)):=by
 unfold IsDv at h
 split at h
 ·rw [is_bl] at hx hy;subst hx;subst hy;subst h;exact .inl ⟨_,_,rfl,rfl,rfl⟩
 ·rw [is_non] at hx hy;subst hx;subst hy;subst h;exact .inr ⟨rfl,rfl⟩
 ·rw [is_bl] at hx;rw [is_non] at hy;subst hx;subst hy;subst h;exact .inr ⟨rfl,by simp⟩
 ·rw [is_int] at hx;rw [is_non] at hy;subst hx;subst hy;subst h;exact .inr ⟨rfl,by simp⟩
 ·rw [is_str] at hx;rw [is_non] at hy;subst hx;subst hy;subst h;exact .inr ⟨rfl,by simp⟩
 ·rw [is_tup] at hx;rw [is_non] at hy;obtain ⟨a,xs,rfl,_⟩:=hx;subst hy;subst h;exact .inr ⟨rfl,by simp⟩
 ·rw [is_ref] at hx;rw [is_non] at hy;subst hx;subst hy;subst h;exact .inr ⟨rfl,by simp⟩
 ·exact h.elim
end
end D3
namespace D3
open PySem PySem.Spec PyProof.Rows L2
abbrev SpD:=List D->MH->DK->Prop
def liftSp (K:PySem.W.Frag) (sp:SpD):Sp:=fun vs H Q _=>∃ ds M Qd,IsL H ds vs/\MemOk K M H/\sp ds M Qd/\∀ v H' d M',Grow H H'->Is H' d v->MemOk K M' H'->Qd d M'->Q v H'
structure Cal (P:Program) (w:World) (K:PySem.W.Frag) (mg:Str->Option Value) (base:Heap) (k:Nat) (x:Str) (sp:SpD):Prop where
 ex:∃ (f:Addr) (fd:FuncData) (ps:List Str),FnOk P w K mg base CX0 k f fd ps (liftSp K sp)/\mg x=some (.ref f)/\PySem.W.keepIn K (.ref f)=true/\Binds K fd ps []
section
variable {X:Cx} {G:Ga} {M:MH} {a b c e:Expr} {es rest:List Expr} {pos:Pos} {Q:DK}
theorem run_fnD {k:Nat} {f:Addr} {fd:FuncData} {ps:List Str} {sp:SpD} {pins:List (Addr × Obj)} {σ:St} {H0 H:Hp} {s:Shared} {us:List Value} {vs:List V} {ds:List D} (F:FnOk X.prog X.w X.K X.mg X.base CX0 k f fd ps (liftSp X.K sp)) (hr:Room k X.A) (hb:Binds X.K fd ps [])
  (I:Inv X pins σ H s) (R:Rel X G M σ H) (g0:Grow H0 H) (r:Vals vs us) (i:IsL H ds vs) (h:sp ds M Q):wpAny (model X.prog X.w) X.A (call (.ref f) us) (EPD X pins σ G H0 Q) X.xe s:=by
 have h':liftSp X.K sp (vs++[]) H (fun v H'=>∃ d M',Grow H H'/\Is H' d v/\MemOk X.K M' H'/\Q d M') E0 :=
  ⟨ds,M,Q,by rw [List.append_nil];exact i,R.mem,h,fun v H' d M' g i m q=>⟨d,M',g,i,m,q⟩⟩
 exact thn (run_fn (dvs:=[]) (ds:=[]) F hr hb .nil pass0 I r h') fun u s' ⟨v,H',I',r',d,M',g,i',m,q⟩=>⟨v,H',d,M',I',r',g0.trans g,i',R.to g m,q⟩
theorem ev_call {k:Nat} {x:Str} {p:Pos} {sp:SpD} (C:Cal X.prog X.w X.K X.mg X.base k x sp) (hr:Room k X.A) (h:AV X G M (e :: es) fun ds M1=>sp ds M1 Q) (hg:Gl X x:=by rfl) (hdb:(x == ("__debug__" : Str))=false:=by decide)
  (he:starEach (e :: es) X.env=(false,eval e X.env) :: starEach es X.env:=by rfl) (hpl:(backTo pos (starEach es X.env)).any (·.1)=false:=by rfl):EV X G M (.Call (.Name x p) (e :: es) [] pos) Q:=by
 intro pins s σ H I R
 obtain ⟨f,fd,ps,F,hm,hk,hb⟩:=C.ex
 refine wpAny_Call_Name_kw (ld_glob I hg hm ?_ hdb)
 refine PySem.W.callWith_K (h₀:=X.base) I.ok.mod.kin hk (thn (h pos pins s σ H I R) fun us s1 ⟨vs,H1,ds,M1,I1,r1,g1,i1,R1,q1⟩=>⟨I1.kIn,?_⟩) he hpl
 exact run_fnD F hr hb I1 R1 g1 r1 i1 q1
variable {st:Stmt} {sts:List Stmt} {E:EndsD}
theorem let_X {X:Cx} {G:Ga} {M:MH} {sts:List Stmt} {E:EndsD} (h:let Y:=X;EXs Y G M sts E):EXs X G M sts E:=h
theorem let_E {X:Cx} {G:Ga} {M:MH} {sts:List Stmt} {E:EndsD} (h:let F:=E;EXs X G M sts F):EXs X G M sts E:=h
theorem exs_nil (q:E.nx G M):EXs X G M [] E:=fun pins s σ H I R=>wpAny_execs_nil ⟨σ,H,G,M,I,Grow.refl _,R,q⟩
theorem exs_cons (h:EX X G M st { E with nx:=fun G' M'=>EXs X G' M' sts E }):EXs X G M (st :: sts) E:=by
 intro pins s σ H I R
 refine wpAny_execs_cons (thn (h pins s σ H I R) fun f s1 q=>?_)
 cases f with
 | next =>
  obtain ⟨σ',H',G',M',I',g',R',q⟩:=q
  exact thn (q pins s1 σ' H' I' R') fun f s2 h2=>h2.grow g'
 | ret v=>exact q
 | brk=>exact q
 | cont=>exact q
theorem exs_one (h:EX X G M st E):EXs X G M [st] E:=by
 intro pins s σ H I R
 refine wpAny_execs_cons (thn (h pins s σ H I R) fun f s1 q=>?_)
 cases f with
 | next=>exact wpAny_execs_nil q
 | ret v=>exact q
 | brk=>exact q
 | cont=>exact q
theorem ex_ret (h:EV X G M e E.rt):EX X G M (.Return (some e) pos) E:=fun pins s σ H I R =>
 wpAny_Return_some (thn (h pins s σ H I R) fun v s1 ⟨x,H1,d,M1,I1,r1,g1,i1,R1,q1⟩=>⟨x,σ,H1,d,M1,I1,r1,g1,i1,R1.mem,q1⟩)
theorem ex_expr (h:EV X G M e fun _ M1=>E.nx G M1) (hs:swapsWith e none pos.line X.env=pure false:=by rfl):EX X G M (.Expr e pos) E:=fun pins s σ H I R =>
 wpAny_Expr_any (thn (h pins s σ H I R) fun v s1 ⟨x,H1,d,M1,I1,r1,g1,i1,R1,q1⟩=>⟨σ,H1,G,M1,I1,g1,R1,q1⟩) I.quiet hs
theorem ex_if {A B:List Stmt} (h:TV X G M c fun k M1=>if k=true then EXs X G M1 A E else EXs X G M1 B E):EX X G M (.If c A B pos) E:=by
 intro pins s σ H I R
 refine wpAny_If (thn (h pins s σ H I R) fun d s1 ⟨H1,M1,I1,g1,R1,q1⟩=>?_)
 cases d with
 | true=>exact thn (q1 pins s1 σ H1 I1 R1) fun f s2 h2=>h2.grow g1
 | false=>exact thn (q1 pins s1 σ H1 I1 R1) fun f s2 h2=>h2.grow g1
theorem ex_set (i:Nat) {x:Str} {pos':Pos} (hN:X.N.Nodup) (h:EV X G M e fun d M1=>E.nx (G.set i (some d)) M1) (hi:X.N[i]?=some x:=by rfl) (hx:Loc X.env.scope x:=by exact Or.inl rfl) (hs:swapsWith e (some (.Name x pos')) pos.line X.env=pure false:=by rfl)
  (hf:X.fn x=true\/X.env.scope.names.lookup x=some .local:=by first | exact .inl rfl | exact .inr rfl | assumption):EX X G M (.Assign [.Name x pos'] e pos) E:=by
 intro pins s σ H I R
 refine wpAny_Assign_Name (thn (h pins s σ H I R) fun v s1 ⟨y,H1,d,M1,I1,r1,g1,i1,R1,q1⟩=>?_) hs
 have hl:i < σ.length:=by rw [I1.len];exact (List.getElem?_eq_some_iff.mp hi).1
 exact store_ok I1 hN hi hx r1 (fun s2 I2=>⟨_,H1,_,M1,I2,g1,R1.set hl i1,q1⟩) hf
theorem ex_while {body:List Stmt} (Iv:Ga->MH->Prop) (μ:Ga->MH->Nat) (hp:PassesOwn (model X.prog X.w) X.A X.env X.xe) (h0:Iv G M)
  (step:∀ G M,Iv G M->TV X G M c fun k M1=>if k=true then EXs X G M1 body { nx:=fun G' M'=>Iv G' M'/\μ G' M' < μ G M,ct:=fun G' M'=>Iv G' M'/\μ G' M' < μ G M,bk:=E.nx,rt:=E.rt } else E.nx G M1) :
  EX X G M (.While c body [] pos) E:=by
 intro pins s σ H I R
 refine wpAny_While (codeAny_whileLoop (fun n s'=>∃ σ' H' G' M',Inv X pins σ' H' s'/\Grow H H'/\Rel X G' M' σ' H'/\Iv G' M'/\n=μ G' M') ?_ (μ G M) ⟨σ,H,G,M,I,Grow.refl _,R,h0,rfl⟩)
 rintro n s1 ⟨σ1,H1,G1,M1,I1,g1,R1,w1,rfl⟩
 refine wpAny_passesOwn hp (thn (step G1 M1 w1 pins s1 σ1 H1 I1 R1) fun k s2 ⟨H2,M2,I2,g2,R2,q2⟩=>?_)
 cases k with
 | true =>
  rw [if_pos rfl]
  refine wpAny_passesOwn hp (thn (q2 pins s2 σ1 H2 I2 R2) fun f s3 q3=>?_)
  cases f with
  | next =>
   obtain ⟨σ3,H3,G3,M3,I3,g3,R3,w3,lt⟩:=q3
   exact ⟨_,lt,σ3,H3,G3,M3,I3,(g1.trans g2).trans g3,R3,w3,rfl⟩
  | cont =>
   obtain ⟨σ3,H3,G3,M3,I3,g3,R3,w3,lt⟩:=q3
   exact ⟨_,lt,σ3,H3,G3,M3,I3,(g1.trans g2).trans g3,R3,w3,rfl⟩
  | brk=>exact SPD.grow (f:=.brk) (E:={ E with bk:=E.nx }) (g1.trans g2) q3
  | ret v=>exact SPD.grow (f:=.ret v) (E:=E) (g1.trans g2) q3
 | false =>
  rw [if_neg Bool.false_ne_true]
  exact wpAny_execs_nil ⟨σ1,H2,G1,M2,I2,g1.trans g2,R2,q2⟩
def GV (X:Cx) (G:Ga) (M:MH) (tg:Expr) (d:D) (Q:Ga->MH->Prop):Prop :=
 ∀ (pins:List (Addr × Obj)) (s:Shared) (σ:St) (H:Hp) (v:V) (u:Value),Inv X pins σ H s->Rel X G M σ H->RelV v u->Is H d v ->
  wpAny (model X.prog X.w) X.A (assign tg X.env u) (fun _ s'=>∃ σ' H' G' M',Inv X pins σ' H' s'/\Grow H H'/\Rel X G' M' σ' H'/\Q G' M') X.xe s
theorem gv_name (i:Nat) {x:Str} {d:D} {Qg:Ga->MH->Prop} (hN:X.N.Nodup) (q:Qg (G.set i (some d)) M) (hi:X.N[i]?=some x:=by rfl) (hx:Loc X.env.scope x:=by exact Or.inl rfl) (hf:X.fn x=true\/X.env.scope.names.lookup x=some .local:=by first | exact .inl rfl | exact .inr rfl | assumption) :
  GV X G M (.Name x pos) d Qg:=by
 intro pins s σ H v u I R r i1
 have hl:i < σ.length:=by rw [I.len];exact (List.getElem?_eq_some_iff.mp hi).1
 exact wpAny_assign_Name (store_ok I hN hi hx r (fun s' I'=>⟨_,H,_,M,I',Grow.refl _,R.set hl i1,q⟩) hf)
def GVs (X:Cx) (G:Ga) (M:MH) (ts:List Expr) (ds:List D) (Q:Ga->MH->Prop):Prop :=
 ∀ (pins:List (Addr × Obj)) (s:Shared) (σ:St) (H:Hp) (vs:List V) (us:List Value),Inv X pins σ H s->Rel X G M σ H->Vals vs us->IsL H ds vs ->
  wpAny (model X.prog X.w) X.A (assignInOrder ((assignEach ts X.env).map (·.2)) us) (fun _ s'=>∃ σ' H' G' M',Inv X pins σ' H' s'/\Grow H H'/\Rel X G' M' σ' H'/\Q G' M') X.xe s
theorem gvs_nil {Qg:Ga->MH->Prop} (q:Qg G M):GVs X G M [] [] Qg:=by
 intro pins s σ H vs us I R r i
 rw [isl_nil] at i;subst i
 cases r
 exact assignInOrder_nil ⟨σ,H,G,M,I,Grow.refl _,R,q⟩
theorem gvs_cons {tg:Expr} {ts:List Expr} {d:D} {ds:List D} {Qg:Ga->MH->Prop} (h:GV X G M tg d fun G1 M1=>GVs X G1 M1 ts ds Qg) (hs:(assignEach (tg :: ts) X.env).map (·.2)=assign tg X.env :: (assignEach ts X.env).map (·.2):=by rfl):GVs X G M (tg :: ts) (d :: ds) Qg:=by
 intro pins s σ H vs us I R r i
 rw [isl_cons] at i
 obtain ⟨x,xs,rfl,i1,i2⟩:=i
 cases r with
 | cons r rr =>
  rw [hs]
  refine assignInOrder_cons (thn (h pins s σ H _ _ I R r i1) fun _ s1 ⟨σ1,H1,G1,M1,I1,g1,R1,q1⟩=>?_)
  exact thn (q1 pins s1 σ1 H1 _ _ I1 R1 rr (i2.grow g1)) fun _ s2 ⟨σ2,H2,G2,M2,I2,g2,R2,q2⟩=>⟨σ2,H2,G2,M2,I2,g1.trans g2,R2,q2⟩
theorem gv_tup {ts:List Expr} {k:Nat} {ds:List D} {Qg:Ga->MH->Prop} (hc:X.calm=true) (h:GVs X G M ts ds Qg) (hn:(assignEach ts X.env).length=ds.length:=by rfl) (hst:(assignEach ts X.env).findIdx? (·.1)=none:=by rfl):GV X G M (.Tuple ts k pos) (.tup ds) Qg:=by
 intro pins s σ H v u I R r i
 rw [is_tup] at i
 obtain ⟨a,xs,rfl,h1,h2⟩:=i
 cases r
 obtain ⟨its,rv,ht,hz⟩:=I.tuple (SqT.of h1)
 refine assign_Tuple_tuple (I.ok.hd hc) ht (by simp [hn,h2.len,rv.length]) hst fun h' hx=>?_
 have I1:Inv X pins σ H { s with heap:=h' }:=I.kept (t':=s.toks) fun b o e=>hx b o (Nat.ne_of_lt (Heap.lt_size e)) e
 exact h pins _ σ H xs _ I1 R (by simpa using rv) h2
theorem ex_asg {tg:Expr} (h:EV X G M e fun d M1=>GV X G M1 tg d E.nx) (hs:swapsWithSole [tg] e pos.line X.env=pure false:=by rfl) (hw:swappedStores [tg] e X.env=pure none:=by rfl)
  (h1:(assignEach [tg] X.env).map (·.2)=[assign tg X.env]:=by rfl):EX X G M (.Assign [tg] e pos) E:=by
 intro pins s σ H I R
 refine wpAny_Assign_stores (thn (h pins s σ H I R) fun v s1 ⟨x,H1,d,M1,I1,r1,g1,i1,R1,q1⟩=>?_) hs hw
 rw [h1]
 exact thn (q1 pins s1 σ H1 x v I1 R1 r1 i1) fun _ s2 ⟨σ2,H2,G2,M2,I2,g2,R2,q2⟩=>⟨σ2,H2,G2,M2,I2,g1.trans g2,R2,q2⟩
theorem ex_for {tg iter:Expr} {body:List Stmt} {wi:TI} (hp:PassesOwn (model X.prog X.w) X.A X.env X.xe) (hc:X.calm=true) (hi:PI X tg iter wi)
  (h:∀ σ H,KF X.K H->Rel X G M σ H->wi σ H fun J H1=>Grow H H1/\∃ (M1:MH) (n:Nat) (Iv:Nat->Ga->MH->Prop),Rel X G M1 σ H1/\Iv 0 G M1 /\
   ∀ i G' M',i<=n->Iv i G' M'->(i=n->E.nx G' M')/\(∀ σ' H',Grow H1 H'->Rel X G' M' σ' H'->(i=n->J.stop i H')/\(i < n->J.go i H'/\∀ x H2,J.yld i H' x H2->Grow H' H2/\∃ d M2,Is H2 d x/\MemOk X.K M2 H2 /\
    GV X G' M2 tg d fun G3 M3=>EXs X G3 M3 body { nx:=Iv (i+1),ct:=Iv (i+1),bk:=E.nx,rt:=E.rt })))
  (hs:∀ x,foldedSetIterable iter X.env x=pure x:=by intro _;rfl):EX X G M (.For tg iter body [] pos) E:=by
 intro pins s σ H I R
 refine wpAny_For (thn (hi pins s σ H _ I (h σ H (kf_of I) R)) fun v s1 h1=>thn h1 fun itv s2 h2=>?_) hs
 obtain ⟨it,fp,tn,J,H2,e,I2,T,st2,f2,g2,M2,n,Iv,R2,w0,turn⟩:=h2
 subst e
 have stat:∀ {H':Hp},(∀ b∈fp,H' b=none)->∀ b∈fp,FpOk X pins H' b:=fun hn b hb=>⟨hn b hb,(f2 b hb).2⟩
 refine codeAny_forLoop_any (fun m s'=>∃ i σ' H' G' M',Inv X pins σ' H' s'/\Grow H2 H'/\Rel X G' M' σ' H'/\tn i s'.heap/\(∀ b∈fp,H' b=none)/\i<=n/\m=n - i/\Iv i G' M') ?_ n ⟨0,σ,H2,G,M2,I2,Grow.refl _,R2,st2,fun b hb=>(f2 b hb).1,Nat.zero_le _,rfl,w0⟩
 rintro m s3 ⟨i,σ3,H3,G3,M3,I3,g3,R3,st3,fr3,hin,rfl,w3⟩
 obtain ⟨tn1,tn2⟩:=turn i G3 M3 hin w3
 obtain ⟨stop,go⟩:=tn2 σ3 H3 g3 R3
 by_cases hlt:i < n
 ·obtain ⟨go,step⟩:=go hlt
  refine wpAny_passesOwn hp (thn (T.item X rfl rfl rfl hc i pins s3 σ3 H3 X.xe I3 (stat fr3) st3 go) fun r s4 ⟨u,hr,h4⟩=>?_)
  subst hr
  refine wpAny_passesOwn hp (thn h4 fun _ s5 ⟨x,H5,I5,r5,y5,st5,fr5⟩=>?_)
  have I5':=I5.pinned (stat fr5) (T.obj _ _ st5)
  obtain ⟨g5,d,M5,i5,m5,gv⟩:=step x H5 y5
  refine wpAny_passesOwn hp (thn (gv _ s5 σ3 H5 x u I5' (R3.to g5 m5) r5 i5) fun _ s6 ⟨σ6,H6,G6,M6,I6,g6,R6,q6⟩=>?_)
  refine wpAny_passesOwn hp (thn (q6 _ s6 σ6 H6 I6 R6) fun f s7 q7=>?_)
  have gg:Grow H2 H6:=(g3.trans g5).trans g6
  have again:∀ {σ7:St} {H7:Hp} {G7:Ga} {M7:MH},Inv X (pins++pinsAt fp s5.heap) σ7 H7 s7->Grow H6 H7->Rel X G7 M7 σ7 H7->Iv (i+1) G7 M7 ->
    ∃ m,m < n - i/\∃ i σ' H' G' M',Inv X pins σ' H' s7/\Grow H2 H'/\Rel X G' M' σ' H'/\tn i s7.heap/\(∀ b∈fp,H' b=none)/\i<=n/\m=n - i/\Iv i G' M':=fun {σ7 H7 G7 M7} I7 g7 R7 n7=>by
   refine ⟨n - (i+1),by omega,i+1,σ7,H7,G7,M7,I7.unpinned,gg.trans g7,R7,T.keep _ _ _ st5 fun b hb o e=>(I7.pin (b,o) (List.mem_append_right _ (List.mem_append_right _ (mem_pinsAt hb e)))).1,fun b hb=>?_,hlt,rfl,n7⟩
   obtain ⟨o,e,d⟩:=T.obj _ _ st5 b hb
   exact (I7.pin (b,o) (List.mem_append_right _ (List.mem_append_right _ (mem_pinsAt hb e)))).2.1
  cases f with
  | next=>obtain ⟨σ7,H7,G7,M7,I7,g7,R7,n7⟩:=q7;exact again I7 g7 R7 n7
  | cont=>obtain ⟨σ7,H7,G7,M7,I7,g7,R7,n7⟩:=q7;exact again I7 g7 R7 n7
  | brk=>obtain ⟨σ7,H7,G7,M7,I7,g7,R7,q7⟩:=q7;exact ⟨σ7,H7,G7,M7,I7.unpinned,g2.trans (gg.trans g7),R7,q7⟩
  | ret v=>obtain ⟨x7,σ7,H7,d7,M7,I7,r7,g7,i7,R7,q7⟩:=q7;exact ⟨x7,σ7,H7,d7,M7,I7.unpinned,r7,g2.trans (gg.trans g7),i7,R7,q7⟩
 ·have e:i=n:=by omega
  subst e
  refine wpAny_passesOwn hp (thn (T.done X rfl rfl rfl hc i pins s3 σ3 H3 X.xe I3 (stat fr3) st3 (stop rfl)) fun r s4 ⟨hr,I4⟩=>?_)
  subst hr
  exact wpAny_execs_nil ⟨σ3,H3,G3,M3,I4,g2.trans g3,R3,tn1 rfl⟩
end
end D3
namespace D3
open PySem PySem.Spec PyProof.Rows L2
section
variable {X:Cx} {G:Ga} {M:MH} {a b c e tg iter:Expr} {es rest:List Expr} {body:List Stmt} {pos:Pos} {Q:DK} {E:EndsD}
def tD (X:Cx) (G:Ga) (e:Expr):TE:=fun σ H Q=>∃ M Qd,Rel X G M σ H/\EV X G M e Qd/\∀ v H' d M',KF X.K H'->Grow H H'->Is H' d v->Rel X G M' σ H'->Qd d M'->Q v H'
theorem pe_D:PE X e (tD X G e):=by
 intro pins s σ H Q I ⟨M,Qd,R,h,k⟩
 exact thn (h pins s σ H I R) fun u s' ⟨v,H',d,M',I',r,g,i,R',q⟩=>⟨v,H',I',r,k v H' d M' (kf_of I') g i R' q⟩
def tAD (X:Cx) (G:Ga) (es:List Expr):TA:=fun σ H Q=>∃ M Qd,Rel X G M σ H/\AV X G M es Qd/\∀ vs H' ds M',KF X.K H'->Grow H H'->IsL H' ds vs->Rel X G M' σ H'->Qd ds M'->Q vs H'
theorem pa_D:PA X es (tAD X G es):=by
 intro pos pins s σ H Q I ⟨M,Qd,R,h,k⟩
 exact thn (h pos pins s σ H I R) fun u s' ⟨v,H',d,M',I',r,g,i,R',q⟩=>⟨v,H',I',r,k v H' d M' (kf_of I') g i R' q⟩
theorem ex_for_list (hp:PassesOwn (model X.prog X.w) X.A X.env X.xe) (hc:X.calm=true)
  (h:EV X G M iter fun d M1=>∃ (l:Addr) (ds:List D) (Iv:Nat->Ga->MH->Prop),d=.ref l/\(M1 l=some (.lst ds)\/M1 l=some (.ro ds))/\Iv 0 G M1/\(∀ i G' M',i<=ds.length->Iv i G' M'->M' l=M1 l) /\
   (∀ i x G' M',ds[i]?=some x->Iv i G' M'->GV X G' M' tg x fun G3 M3=>EXs X G3 M3 body { nx:=Iv (i+1),ct:=Iv (i+1),bk:=E.nx,rt:=E.rt })/\(∀ G' M',Iv ds.length G' M'->E.nx G' M'))
  (hs:∀ x,foldedSetIterable iter X.env x=pure x:=by intro _;rfl):EX X G M (.For tg iter body [] pos) E:=by
 refine ex_for hp hc (pi_list (pe_D (G:=G))) (fun σ H kf R=>?_) hs
 refine ⟨M,_,R,h,fun v H' d M' kf' g i R' q=>?_⟩
 obtain ⟨l,ds,Iv,e,hl,h0,keep,step,fin⟩:=q
 subst e
 rw [is_ref] at i;subst i
 have sq:∀ {H2:Hp} {M2:MH},MemOk X.K M2 H2->M2 l=M' l->∃ xs,SqL X.K H2 l xs/\IsL H2 ds xs:=fun {H2 M2} m e=>by
  rcases hl with hl | hl
  ·obtain ⟨xs,h1,h2⟩:=m l _ (e.trans hl);exact ⟨xs,SqL.of h1,h2⟩
  ·exact m l _ (e.trans hl)
 obtain ⟨xs0,hx0,hi0⟩:=sq R'.mem rfl
 refine ⟨l,rfl,⟨xs0,hx0⟩,g,M',ds.length,Iv,R',h0,fun i G2 M2 hin w2=>⟨fun e=>fin G2 M2 (by rw [<- e];exact w2),fun σ2 H2 _ R2=>?_⟩⟩
 obtain ⟨xs,hx,hxi⟩:=sq R2.mem (keep i G2 M2 hin w2)
 have hlen:=hxi.len
 refine ⟨fun e=>⟨xs,hx,by omega⟩,fun hlt=>⟨⟨xs,xs[i]'(by omega),hx,by simp⟩,fun x H3 y=>?_⟩⟩
 obtain ⟨e,y⟩:=y
 subst e
 have e1:=y xs hx
 obtain ⟨d,e2,i2⟩:=hxi.get' e1
 exact ⟨Grow.refl _,d,M2,i2,R2.mem,step i d G2 M2 e2 w2⟩
theorem ex_for_tup (hp:PassesOwn (model X.prog X.w) X.A X.env X.xe) (hc:X.calm=true)
  (h:EV X G M iter fun d M1=>∃ (ds:List D) (Iv:Nat->Ga->MH->Prop),d=.tup ds/\Iv 0 G M1 /\
   (∀ i x G' M',ds[i]?=some x->Iv i G' M'->GV X G' M' tg x fun G3 M3=>EXs X G3 M3 body { nx:=Iv (i+1),ct:=Iv (i+1),bk:=E.nx,rt:=E.rt })/\(∀ G' M',Iv ds.length G' M'->E.nx G' M'))
  (hs:∀ x,foldedSetIterable iter X.env x=pure x:=by intro _;rfl):EX X G M (.For tg iter body [] pos) E:=by
 refine ex_for hp hc (pi_tup (pe_D (G:=G))) (fun σ H kf R=>?_) hs
 refine ⟨M,_,R,h,fun v H' d M' kf' g i R' q=>?_⟩
 obtain ⟨ds,Iv,e,h0,step,fin⟩:=q
 subst e
 rw [is_tup] at i
 obtain ⟨l,xs,rfl,hx,hxi⟩:=i
 have hlen:=hxi.len
 refine ⟨l,rfl,⟨xs,SqT.of hx⟩,g,M',ds.length,Iv,R',h0,fun i G2 M2 hin w2=>⟨fun e=>fin G2 M2 (by rw [<- e];exact w2),fun σ2 H2 g2 R2=>?_⟩⟩
 have hx2:SqT X.K H2 l xs:=SqT.of (g2 _ _ hx)
 refine ⟨fun e=>⟨xs,hx2,by omega⟩,fun hlt=>⟨⟨xs,xs[i]'(by omega),hx2,by simp⟩,fun x H3 y=>?_⟩⟩
 obtain ⟨e,y⟩:=y
 subst e
 have e1:=y xs hx2
 obtain ⟨d,e2,i2⟩:=(hxi.grow g2).get' e1
 exact ⟨Grow.refl _,d,M2,i2,R2.mem,step i d G2 M2 e2 w2⟩
theorem ex_for_range {p:Pos} (hp:PassesOwn (model X.prog X.w) X.A X.env X.xe) (hc:X.calm=true) (hm:X.mg "range" = none)
  (h:AV X G M [e] fun ds M1=>∃ (n:Int) (Iv:Nat->Ga->MH->Prop),ds=[.int n]/\-(2 ^ 62)<=n/\n < 2 ^ 62/\Iv 0 G M1 /\
   (∀ (i:Nat) G' M',i < n.toNat->Iv i G' M'->GV X G' M' tg (.int i) fun G3 M3=>EXs X G3 M3 body { nx:=Iv (i+1),ct:=Iv (i+1),bk:=E.nx,rt:=E.rt })/\(∀ G' M',Iv n.toNat G' M'->E.nx G' M'))
  (hg:Gl X "range" := by rfl) (hse:starEach [e] X.env=[(false,eval e X.env)]:=by rfl) (hs:∀ x,foldedSetIterable (.Call (.Name "range" p) [e] [] pos) X.env x=pure x:=by intro _;rfl) {pos':Pos}:EX X G M (.For tg (.Call (.Name "range" p) [e] [] pos) body [] pos') E:=by
 refine ex_for hp hc (pi_range1 hg hm (pa_D (G:=G)) hse) (fun σ H kf R=>?_) hs
 refine ⟨M,_,R,h,fun vs H' ds M' kf' g i R' q=>?_⟩
 obtain ⟨n,Iv,e,h1,h2,h0,step,fin⟩:=q
 subst e
 obtain ⟨v,rfl,hv⟩:=isl1 i
 rw [is_int] at hv;subst hv
 refine ⟨n,rfl,h1,h2,g,M',n.toNat,Iv,R',h0,fun i G2 M2 hin w2=>⟨fun e=>fin G2 M2 (by rw [<- e];exact w2),fun σ2 H2 _ R2=>⟨fun e=>?_,fun hlt=>⟨hlt,fun x H3 y=>?_⟩⟩⟩⟩
 ·show n.toNat<=i
  omega
 ·obtain ⟨e,y⟩:=y
  subst e;subst y
  refine ⟨Grow.refl _,.int i,M2,is_int.mpr (by simp),R2.mem,step i G2 M2 hlt w2⟩
def startG (N:List Str) (ds:List D):Ga:=ds.map some++List.replicate (N.length - ds.length) none
theorem rel_start {X:Cx} {N:List Str} {ds:List D} {vs:List V} {M:MH} {H:Hp} (i:IsL H ds vs) (m:MemOk X.K M H):Rel X (startG N ds) M (L2.start N vs) H:=by
 refine ⟨fun j d e=>?_,m⟩
 have hl:=i.len
 unfold startG at e
 unfold L2.start
 by_cases hj:j < ds.length
 ·rw [List.getElem?_append_left (by simpa using hj),List.getElem?_map] at e
  cases q:ds[j]? with
  | none=>rw [q] at e;cases e
  | some d' =>
   rw [q] at e
   have e':d'=d:=by simpa using e
   subst e'
   obtain ⟨v,e2,h⟩:=i.get q
   refine ⟨v,?_,h⟩
   rw [List.getElem?_append_left (by simp;omega),List.getElem?_map,e2]
   rfl
 ·rw [List.getElem?_append_right (by simpa using hj),List.getElem?_replicate] at e
  split at e<;>cases e
end
section
variable {P:Program} {w:World} {K:PySem.W.Frag} {mg:Str->Option Value} {base:Heap}
theorem fn_D {x qual:Str} {st:Stmt} {f:Addr} {fd:FuncData} {N ps:List Str} {k:Nat} {sp:SpD} (F:Fun K x qual st f fd) (S:FnScope N ps (defScope st)) (len:∀ ds M Q,sp ds M Q->ds.length=ps.length)
  (hbody:∀ (cdv:Value) (A:Around) (outer:List Env) (s:Shared) (H:Hp) (EE:XK) (ds:List D) (M:MH) (Q:DK),Room k (A.deeper (envOfC qual (defScope st) s.heap.objs.size f cdv))->sp ds M Q ->
   EXs (cxOf CX0 P w K mg base N qual (defScope st) f cdv A outer s H EE).nox (startG N ds) M (defBody st) { nx:=fun _ M'=>Q .non M',rt:=Q }):FnOk P w K mg base CX0 (k+1) f fd ps (liftSp K sp):=by
 refine F.ok S (fun vs H Q E h=>?_) (fun cdv A outer s H vs Q E hr h=>?_)
 ·obtain ⟨ds,M,Qd,i,_,h,_⟩:=h
  rw [<- i.len];exact len _ _ _ h
 obtain ⟨ds,M,Qd,i,m,h,k⟩:=h
 have B:=hbody cdv A outer s H E ds M Qd hr h
 refine ⟨fun D σ' H'=>σ'=L2.start N vs/\H'=H/\D.nx=(fun _ H'=>Q .non H')/\D.rt=Q,?_,rfl,rfl,rfl,rfl⟩
 intro pins s' σ' H' D I ⟨e1,e2,e3,e4⟩
 subst e1;subst e2
 refine thn (B pins s' _ _ I (rel_start i m)) fun fl s'' q=>?_
 cases fl with
 | next =>
  obtain ⟨σ2,H2,G2,M2,I2,g2,R2,q2⟩:=q
  refine ⟨σ2,H2,I2,?_⟩
  rw [e3]
  exact k .non H2 .non M2 g2 (is_non.mpr rfl) R2.mem q2
 | brk=>obtain ⟨_,_,_,_,_,_,_,z⟩:=q;exact z.elim
 | cont=>obtain ⟨_,_,_,_,_,_,_,z⟩:=q;exact z.elim
 | ret u =>
  obtain ⟨v,σ2,H2,d,M2,I2,r2,g2,i2,m2,q2⟩:=q
  refine ⟨v,σ2,H2,I2,r2,?_⟩
  rw [e4]
  exact k v H2 d M2 g2 i2 m2 q2
theorem cal_D {x:Str} {st:Stmt} {f:Addr} {fd:FuncData} {ps:List Str} {k:Nat} {sp:SpD} (F:Fun K x x st f fd) (G:FnOk P w K mg base CX0 k f fd ps (liftSp K sp)) (b:Binds K fd ps []) (m:mg x=some (.ref f)):Cal P w K mg base k x sp :=
 ⟨f,fd,ps,G,m,F.kp,b⟩
theorem Cal.mono {j k:Nat} {x:Str} {sp:SpD} (C:Cal P w K mg base j x sp) (h:j<=k):Cal P w K mg base k x sp :=
 let ⟨f,fd,ps,F,m,kp,b⟩:=C.ex;⟨f,fd,ps,F.mono h,m,kp,b⟩
end
end D3
namespace D3
open PySem PySem.Spec PyProof.Rows L2
theorem compLoop_own {prog:Program} {w:World} {A:Around} {R:Result->Shared->Prop} {s:Shared} {elt target iter:Expr} {ifs:List Expr} {scope:Scope} {pos:Pos} {it acc:Value} {env:Env} (I:Nat->Shared->Prop)
  (turn:∀ n s,I n s->wpAny (model prog w) A (pyNext it) (fun r s1=>match r with
   | none=>R (.ok .next) s1
   | some v=>wpAny (model prog w) A (letOwnedTupleGo target it v) (fun _ s2=>wpAny (model prog w) A (assign target env v) (fun _ s2 =>
     wpAny (model prog w) A (forIn ifs true fun c r=>if r=true then do let ok <- isTrue c env (eval c env);pure (ForInStep.yield ok) else pure (ForInStep.yield r)) (fun ok s3 =>
      if ok=true then wpAny (model prog w) A (eval elt env) (fun x s4 =>
       wpAny (model prog w) A (call (.builtin "list.append") [acc,x]) (fun _ s5=>∃ m,m < n/\I m s5) (fun _ _=>False) s4) (fun _ _=>False) s3
      else ∃ m,m < n/\I m s3) (fun _ _=>False) s2) (fun _ _=>False) s2) (fun _ _=>False) s1) (fun _ _=>False) s)
  (n:Nat) (h:I n s) :
  codeAny (model prog w) A (.compLoop (.ListComp elt [⟨target,iter,ifs,0⟩] scope pos) 0 it acc env) R s:=by
 refine codeAny_loop rfl I (fun n s hI=>?_) n h
 show wpAny _ A ((compTurn (.ListComp elt [⟨target,iter,ifs,0⟩] scope pos) 0 it acc env).onRaise (fun x=>do noteFrame x env;theTreesLotGoes x)) _ _ s
 refine wpAny_noted ?_
 rw [compTurn_list]
 have no:∀ {α:Type} {t:Sem α} {Q:α->Shared->Prop} {E:Value->Shared->Prop} {s:Shared},wpAny (model prog w) A t Q (fun _ _=>False) s->wpAny (model prog w) A t Q E s:=fun h=>wpAny_mono h (fun _ _ x=>x) fun _ _ x=>x.elim
 refine wpAny_bind (wpAny_standAt (wpAny_bind (no (thn (turn n s hI) fun r s1 h1=>?_))))
 cases r with
 | none=>exact wpAny_pure h1
 | some v =>
  refine wpAny_bind (no (thn h1 fun _ s2 h2=>?_))
  refine wpAny_bind (no (thn h2 fun _ s3 h3=>wpAny_bind (no (thn h3 fun ok s4 h4=>?_))))
  cases ok with
  | false=>exact wpAny_pure ⟨rfl,h4⟩
  | true =>
   exact wpAny_bind (wpAny_bind (no (thn h4 fun x s5 h5=>wpAny_bind (no (thn h5 fun _ s6 h6=>wpAny_pure (wpAny_pure ⟨rfl,h6⟩))))))
def compCx (X:Cx) (N:List Str) (scope:Scope) (cl:List (Str × Addr)) (C:Addr) (s:Shared) (H:Hp) (ex:List Addr):Cx :=
 { X with N:=N,s₀:=s,H₀:=H,env:=compEnvC scope cl C X.env,outer:=X.stack,ex:=ex,fn:=fun _=>false,pn:=[] }
structure CompOk (X:Cx) (own:List Str) (js:List Nat) (N:List Str) (scope:Scope) (cl:List (Str × Addr)):Prop where
 clos:closureFor scope X.env=pure cl
 kind:scope.kind=.function
 names:∀ x∈scope.names,x.2=.local->scope.names.lookup x.1=some .local
 nocell:∀ x∈scope.names,x.2≠.cell
 cells:∀ x c,cl.lookup x=some c->X.env.cells.lookup x=some c
 has:∀ x,((relabel scope X.env).names.lookup x=some .cell\/(relabel scope X.env).names.lookup x=some .free)->∃ c,cl.lookup x=some c
 frees:∀ (k j:Nat),js[k]?=some j->∃ x,N[own.length+k]?=some x/\X.N[j]?=some x/\Vis X.env.scope x/\(∀ m h u,Look X.env h m x u->∃ c,cl.lookup x=some c/\h.IsCell c (some u)) /\
  ((relabel scope X.env).names.lookup x=some .cell\/(relabel scope X.env).names.lookup x=some .free)
 len:N.length=own.length+js.length
def compG (own:List Str) (js:List Nat) (G:Ga):Ga:=List.replicate own.length none++js.map fun j=>(G[j]?).getD none
def Sub (G G':Ga):Prop:=∀ (i:Nat) (d:D),G[i]?=some (some d)->G'[i]?=some (some d)
theorem Rel.sub {X:Cx} {G G':Ga} {M:MH} {σ:St} {H:Hp} (R:Rel X G' M σ H) (s:Sub G G'):Rel X G M σ H:=⟨fun i d e=>R.loc i d (s i d e),R.mem⟩
def TVs (X:Cx) (G:Ga) (M:MH) (cs:List Expr) (Q:Bool->MH->Prop):Prop:=match cs with
 | []=>Q true M
 | [c]=>TV X G M c Q
 | _=>False
theorem tvs_run {X:Cx} {G:Ga} {M:MH} {cs:List Expr} {Q:Bool->MH->Prop} (h:TVs X G M cs Q) {pins:List (Addr × Obj)} {s:Shared} {σ:St} {H:Hp} (I:Inv X pins σ H s) (R:Rel X G M σ H) :
  wpAny (model X.prog X.w) X.A (forIn cs true fun c r=>if r=true then do let ok <- isTrue c X.env (eval c X.env);pure (ForInStep.yield ok) else pure (ForInStep.yield r)) (TPD X pins σ G H Q) X.xe s:=by
 unfold TVs at h
 split at h
 ·exact wpAny_tests_nil ⟨H,M,I,Grow.refl _,R,h⟩
 ·exact wpAny_tests_one (h pins s σ H I R)
 ·exact h.elim
section
variable {X:Cx} {G:Ga} {M:MH} {elt tg iter:Expr} {ifs:List Expr} {scope:Scope} {pos:Pos} {Q:DK} {own:List Str} {js:List Nat} {N:List Str} {cl:List (Str × Addr)}
def Walks (K:PySem.W.Frag) (M:MH) (J:It) (H:Hp) (ds:List D):Prop:=∀ H',Grow H H'->MemOk K M H'->(∀ i,i=ds.length->J.stop i H') /\
 ∀ i,i < ds.length->J.go i H'/\∀ x H2,J.yld i H' x H2->Grow H' H2/\(∀ b o,H' b=some o->H2 b=some o)/\MemOk K M H2/\∃ d,ds[i]?=some d/\Is H2 d x
theorem comp_ok (T:CompOk X own js N scope cl) {pins:List (Addr × Obj)} {σ:St} {H:Hp} {s:Shared} {h1:Heap} {tk:Nat} {fp:List Addr} (I:Inv X pins σ H s) (hf:∀ b∈fp,FpOk X pins H b) (ht:∀ b∈fp,∃ o,s.heap.get? b=some o)
  (hn:h1.Ns s.heap.objs.size (fun _=>none)) (hk:∀ b o,s.heap.get? b=some o->h1.get? b=some o) (R:Rel X G M σ H) :
  ∃ σc,Inv (compCx X N scope cl s.heap.objs.size s H fp) [] σc H { s with heap:=h1,toks:=tk }/\Rel (compCx X N scope cl s.heap.objs.size s H fp) (compG own js G) M σc H:=by
 let σc:St:=List.replicate own.length none++js.map fun j=>(σ[j]?).getD none
 have hlow:∀ b∈fp,b < s.heap.objs.size:=fun b hb=>let ⟨o,e⟩:=ht b hb;Heap.lt_size e
 refine ⟨σc,⟨?_,rfl,I.bare,Un.kept hk,?_,?_,?_,?_,?_,I.hok.kept hk,?_⟩,?_⟩
 ·exact {
   mod:=I.ok.mod
   kind:=T.kind
   glob:=I.ok.glob
   blt:=I.ok.blt
   above:=Nat.le_refl _
   inj:=fun x y c h1 h2=>I.ok.inj x y c (T.cells x c h1) (T.cells y c h2)
   has:=fun x hx=>T.has x hx
   cab:=fun x c hx _=>nomatch hx
   hd:=I.ok.hd
   frames:=I.ok.frames
   stk:=.inl rfl
   exf:=fun b hb=>⟨Nat.ne_of_lt (hlow b hb),fun x c e=>(hf b hb).2.2.2.2.1 x c (T.cells x c e)⟩
   bs:=I.bs
   bsz:=Nat.le_trans I.ok.bsz I.sz
   noex:=fun b o e hb=>by
    rcases (hf b hb).2.2.2.1 with z | z
    ·exact I.ok.noex b o e z
    ·exact absurd (Nat.lt_of_lt_of_le (Heap.lt_size (I.ok.bs b o e).1) z) (Nat.lt_irrefl _)
   exfs:=fun b hb z=>by
    rcases List.mem_cons.mp (I.stkSub b z) with e | e
    ·exact (hf b hb).2.1 e
    ·exact (hf b hb).2.2.1 e
   funs:=I.stack
   frf:=I.stkFree }
 ·refine ⟨_,hn,fun i x v e1 e2 e3=>?_⟩
  obtain ⟨m,hm,hl⟩:=I.loc
  have hi:own.length<=i:=by
   refine Nat.le_of_not_lt fun z=>?_
   have e2':(List.replicate own.length none++js.map fun j=>(σ[j]?).getD none)[i]?=some (some v):=e2
   rw [List.getElem?_append_left (by simpa using z),List.getElem?_replicate] at e2'
   split at e2'<;>cases e2'
  have e2':(List.replicate own.length none++js.map fun j=>(σ[j]?).getD none)[i]?=some (some v):=e2
  rw [List.getElem?_append_right (by simpa using hi),List.getElem?_map,List.length_replicate] at e2'
  cases q:js[i - own.length]? with
  | none=>rw [q] at e2';cases e2'
  | some j =>
   rw [q] at e2'
   have e4:(σ[j]?).getD none=some v:=by simpa using e2'
   obtain ⟨y,n1,n2,n3,n4,n5⟩:=T.frees _ _ q
   have e5:own.length+(i - own.length)=i:=by omega
   rw [e5] at n1
   have e6:N[i]?=some x:=e1
   rw [e6] at n1;cases n1
   have e7:σ[j]?=some (some v):=by
    cases z:σ[j]? with
    | none=>rw [z] at e4;cases e4
    | some w=>rw [z] at e4;exact congrArg some e4
   obtain ⟨u,r,l⟩:=hl j x v n2 e7 n3
   obtain ⟨c,c1,c2⟩:=n4 m s.heap u l
   refine ⟨u,r,.inr ⟨n5,c,c1,?_⟩⟩
   obtain ⟨o,ho,hd⟩:=c2
   exact ⟨o,hk _ _ ho,hd⟩
 ·intro x c e
  obtain ⟨v,o,ho,hd⟩:=I.cell x c (T.cells x c e)
  exact ⟨v,o,hk _ _ ho,hd⟩
 ·exact I.hok.fresh (Nat.le_refl _)
 ·exact fun x c e=>I.freeC x c (T.cells x c e)
 ·intro p hp
  exact absurd (show p∈([] : List (Addr × Obj)) from hp) (by simp)
 ·show (List.replicate own.length none++js.map fun j=>(σ[j]?).getD none).length=N.length
  rw [List.length_append,List.length_replicate,List.length_map,T.len]
 ·refine ⟨fun i d e=>?_,R.mem⟩
  unfold compG at e
  have hi:own.length<=i:=by
   refine Nat.le_of_not_lt fun z=>?_
   rw [List.getElem?_append_left (by simpa using z),List.getElem?_replicate] at e
   split at e<;>cases e
  rw [List.getElem?_append_right (by simpa using hi),List.getElem?_map,List.length_replicate] at e
  cases q:js[i - own.length]? with
  | none=>rw [q] at e;cases e
  | some j =>
   rw [q] at e
   have e4:(G[j]?).getD none=some d:=by simpa using e
   have e7:G[j]?=some (some d):=by
    cases z:G[j]? with
    | none=>rw [z] at e4;cases e4
    | some w=>rw [z] at e4;exact congrArg some e4
   obtain ⟨v,v1,v2⟩:=R.loc j d e7
   refine ⟨v,?_,v2⟩
   show (List.replicate own.length none++js.map fun j=>(σ[j]?).getD none)[i]?=some (some v)
   rw [List.getElem?_append_right (by simpa using hi),List.getElem?_map,List.length_replicate,q]
   show some ((σ[j]?).getD none)=some (some v)
   rw [v1];rfl
def Ext (M M':MH):Prop:=∀ a o,M a=some o->M' a=some o
theorem mset_mset {M:MH} {a:Addr} {o u:MO}:mset (mset M a o) a u=mset M a u:=by
 funext b;unfold mset;split<;>rfl
theorem ext_new {M:MH} {a:Addr} {o:MO} (h:M a=none):Ext M (mset M a o):=fun b u e=>mset_old h e
theorem MemOk.ext {K:PySem.W.Frag} {M M':MH} {H:Hp} (m:MemOk K M' H) (e:Ext M M'):MemOk K M H:=fun a o h=>m a o (e a o h)
theorem Inv.unblock {pins:List (Addr × Obj)} {σ σc:St} {H3 H':Hp} {s3 s':Shared} {C:Addr} {h':Heap} {fp:List Addr} (I3:Inv X pins σ H3 s3) (hf:∀ b∈fp,FpOk X pins H3 b) (I':Inv (compCx X N scope cl C s3 H3 fp) [] σc H' s')
  (hC:C=s3.heap.objs.size) (hs:Heap.SameBut C s'.heap h'):Inv X pins σ H' { s' with heap:=h' }:=by
 have ne:∀ b o,s3.heap.get? b=some o->b≠C:=fun b o e=>by rw [hC];exact Nat.ne_of_lt (Heap.lt_size e)
 have B:Un (frs X.stack) fp H3 H' s3.heap s'.heap:=I'.base
 have fC:H' C=none:=I'.free
 refine I3.call' (ch:=fp) I'.os ?_ ?_ I'.bare ?_
 ·exact {
   keep:=fun b o e n h1 h2=>(hs.2 b (ne b o e)).trans (B.keep b o e n h1 h2)
   slot:=fun b o e n h1 h2=>let ⟨sl,q⟩:=B.slot b o e n h1 h2;⟨sl,(hs.2 b (ne b o e)).trans q⟩
   free:=B.free
   there:=fun b o e h2=>let ⟨o',q⟩:=B.there b o e h2;⟨o',(hs.2 b (ne b o e)).trans q⟩
   tups:=B.tups
   frzs:=B.frzs
   tbls:=B.tbls }
 ·intro b u e
  refine (I'.hok b u e).stay (fun c v hc q=>(hs.2 c ?_).trans q) (fun _ q=>q) fun _ _ q=>q
  rintro rfl
  rcases hc with z | z
  ·rw [<- z,fC] at e;cases e
  ·rw [fC] at z;cases z
 ·intro b hb
  obtain ⟨h0,h1,h2,h3,h4,h5⟩:=hf b hb
  exact ⟨h3,h1,h4,h5⟩
theorem ev_comp {wi:TI} (T:CompOk X own js N scope cl) (hxe:X.xe=fun _ _=>False) (hc:X.calm=true) (hi:PI X tg iter wi) (f:D->D) (p:D->Bool)
  (h:∀ σ H,KF X.K H->Rel X G M σ H->wi σ H fun J H1=>Grow H H1/\∃ (M1:MH) (ds:List D),Rel X G M1 σ H1/\Walks X.K M1 J H1 ds/\ds.length<=sizeLine /\
   (∀ Y:Cx,(∃ C s H fp,Y=compCx X N scope cl C s H fp)->∀ M',Ext M1 M'->∀ d∈ds,GV Y (compG own js G) M' tg d fun G3 M3=>M3=M'/\Sub (compG own js G) G3/\TVs Y G3 M' ifs (fun k M4=>M4=M'/\k=p d)/\(p d=true->EV Y G3 M' elt fun o M4=>M4=M'/\o=f d)) /\
   ∀ q,M1 q=none->Q (.ref q) (mset M1 q (.lst ((ds.filter p).map f))))
  (hs:∀ x,foldedSetIterable iter X.env x=pure x:=by intro _;rfl):EV X G M (.ListComp elt [⟨tg,iter,ifs,0⟩] scope pos) Q:=by
 intro pins s σ H I R
 rw [eval_ListComp]
 refine wpAny_comprehension_free (use:=none) rfl hs T.clos T.kind T.names (thn (hi pins s σ H _ I (h σ H (kf_of I) R)) fun v s1 h1=>thn h1 fun itv s2 h2=>?_)
 obtain ⟨it,fp,tn,J,H2,e,I2,TT,st2,f2,g2,M1,ds,R2,walks,hsz,block,fin⟩:=h2
 subst e
 refine wpAny_newObj_type ?_ (by show 0<=sizeLine;exact Nat.zero_le _)
 have hq:H2 s2.heap.objs.size=none:=I2.hok.fresh (Nat.le_refl _)
 have I3:Inv X pins σ (upd H2 s2.heap.objs.size (.lst [])) { s2 with heap:=s2.heap.push { cls:=.type "list",dict:=none,data:=.seq ([] : List Value).toArray } } :=
  I2.laid (t':=s2.toks) (fun b u e=>Heap.get?_push_of_some _ e) (Nat.le_refl _) ⟨Nat.zero_le _,[],0,.nil,Heap.get?_push_size _ rfl⟩
 have gq:Grow H2 (upd H2 s2.heap.objs.size (.lst [])):=grow_new hq
 have mq:M1 s2.heap.objs.size=none:=R2.mem.fresh hq (kf_of I3)
 have R3:Rel X G (mset M1 s2.heap.objs.size (.lst [])) σ (upd H2 s2.heap.objs.size (.lst [])):=R2.to gq (R2.mem.lay hq ⟨[],upd_same,isl_nil.mpr rfl⟩)
 have f3:∀ b∈fp,FpOk X pins (upd H2 s2.heap.objs.size (.lst [])) b:=fun b hb=>by
  refine ⟨?_,(f2 b hb).2⟩
  rw [upd_ne]
  ·exact (f2 b hb).1
  ·intro z
   obtain ⟨o,e,_⟩:=TT.obj _ _ st2 b hb
   rw [z] at e
   exact absurd (Heap.lt_size e) (Nat.lt_irrefl _)
 have ft:∀ b∈fp,∃ o,(s2.heap.push { cls:=.type "list",dict:=none,data:=.seq ([] : List Value).toArray }).get? b=some o:=fun b hb=>by
  obtain ⟨o,e,_⟩:=TT.obj _ _ st2 b hb
  exact ⟨o,Heap.get?_push_of_some _ e⟩
 have stq:tn 0 (s2.heap.push { cls:=.type "list",dict:=none,data:=.seq ([] : List Value).toArray }):=TT.keep _ _ _ st2 fun b hb o e=>Heap.get?_push_of_some _ e
 generalize s2.heap.objs.size=q at hq I3 gq mq R3 f3 ⊢
 refine wpAny_newFunctionEnv (T.nocell) (by intro y hy;simp at hy) (fun h1 hns1 hsb1=>?_) T.kind
 generalize hH3:upd H2 q (.lst [])=H3 at I3 R3 f3 gq
 generalize hs3:({ s2 with heap:=s2.heap.push { cls:=.type "list",dict:=none,data:=.seq ([] : List Value).toArray } }:Shared)=s3 at I3 hns1 hsb1 ⊢
 have es3:s3.heap=s2.heap.push { cls:=.type "list",dict:=none,data:=.seq ([] : List Value).toArray }:=by rw [<- hs3]
 rw [<- es3] at stq ft
 have hk1:∀ b o,s3.heap.get? b=some o->h1.get? b=some o:=fun b o e=>hsb1.extBut b o (Nat.ne_of_lt (Heap.lt_size e)) (Heap.get?_push_of_some _ e)
 obtain ⟨σc,Ic,Rc⟩:=comp_ok (tk:=s3.toks+([] : List (Str × Value)).length) T I3 f3 ft (by simpa using hns1) hk1 R3
 have stc:tn 0 h1:=TT.keep _ _ _ stq fun b hb o e=>hk1 b o e
 have hC:∃ C,C=s3.heap.objs.size:=⟨_,rfl⟩
 obtain ⟨C,hC⟩:=hC
 rw [<- hC] at Ic Rc
 generalize hY:compCx X N scope cl C s3 H3 fp=Y at Ic Rc
 have blockY:=block Y ⟨C,s3,H3,fp,hY.symm⟩
 have yA:Y.A=X.A:=by rw [<- hY];rfl
 have yp:Y.prog=X.prog:=by rw [<- hY];rfl
 have yw:Y.w=X.w:=by rw [<- hY];rfl
 have yK:Y.K=X.K:=by rw [<- hY];rfl
 have yc:Y.calm=true:=by rw [<- hY];exact hc
 have yx:Y.xe=fun _ _=>False:=by rw [<- hY];exact hxe
 have ye:Y.env=compEnvC scope cl C X.env:=by rw [<- hY];rfl
 have ypn:Y.pn=[]:=by rw [<- hY];rfl
 have yex:Y.ex=fp:=by rw [<- hY];rfl
 have fpY:∀ {H':Hp},(∀ b∈fp,H' b=none)->∀ b∈fp,FpOk Y [] H' b:=fun {H'} hn b hb=>by
  have o1:=Ic.ok.exf b (by rw [yex];exact hb)
  refine ⟨hn b hb,o1.1,Ic.ok.exfs b (by rw [yex];exact hb),.inl (by rw [yex];exact hb),o1.2,fun p hp=>?_⟩
  rw [ypn] at hp;exact absurd hp (by simp)
 have loop:∀ s4:Shared,s4={ s3 with heap:=h1,toks:=s3.toks+([] : List (Str × Value)).length } ->
   codeAny (model X.prog X.w) X.A (.compLoop (.ListComp elt [⟨tg,iter,ifs,0⟩] scope pos) 0 (.ref it) (.ref q) (compEnvC scope cl C X.env)) (compPost (model X.prog X.w) X.A X.xe none (EPD X pins σ G H Q) (.ref q) C) s4:=by
  rintro s4 rfl
  refine compLoop_own (fun m s'=>∃ i σ' H',Inv Y [] σ' H' s'/\Grow H3 H'/\Rel Y (compG own js G) (mset M1 q (.lst (((ds.take i).filter p).map f))) σ' H'/\tn i s'.heap/\(∀ b∈fp,H' b=none)/\i<=ds.length/\m=ds.length - i) ?_ ds.length
   ⟨0,σc,H3,Ic,Grow.refl _,by rw [List.take_zero];exact Rc,stc,fun b hb=>(f3 b hb).1,Nat.zero_le _,rfl⟩
  rintro m s5 ⟨i,σ5,H5,I5,g5,R5,st5,fr5,hin,rfl⟩
  have R5m:MemOk X.K M1 H5:=by rw [<- yK];exact R5.mem.ext (ext_new mq)
  obtain ⟨wstop,wgo⟩:=walks H5 (gq.trans g5) R5m
  by_cases hlt:i < ds.length
  ·obtain ⟨go,yld⟩:=wgo i hlt
   have it5:=TT.item Y yp yw yK yc i [] s5 σ5 H5 (fun _ _=>False) I5 (fpY fr5) st5 go
   rw [yA] at it5
   refine thn it5 fun r s6 ⟨u,hr,h6⟩=>?_
   subst hr
   refine thn h6 fun _ s7 ⟨x,H7,I7,r7,y7,st7,fr7⟩=>?_
   obtain ⟨g7,keep7,m7,d,ed,i7⟩:=yld x H7 y7
   have I7':=I7.pinned (fpY fr7) (TT.obj _ _ st7)
   have hd:d∈ds:=List.mem_of_getElem? ed
   have R7:Rel Y (compG own js G) (mset M1 q (.lst (((ds.take i).filter p).map f))) σ5 H7:=R5.to g7 fun a o e=>(R5.mem a o e).stay g7 fun u h=>keep7 _ _ h
   have gv:=blockY _ (ext_new mq) d hd _ s7 σ5 H7 x u I7' R7 r7 i7
   rw [yp,yw,yA,yx,ye] at gv
   refine thn gv fun _ s8 ⟨σ8,H8,G8,M8,I8,g8,R8,e8,sub8,tests,elt8⟩=>?_
   subst e8
   have tr:=tvs_run tests I8 R8
   rw [yp,yw,yA,yx,ye] at tr
   refine thn tr fun ok s9 ⟨H9,M9,I9,g9,R9,e9,ek⟩=>?_
   subst e9
   have back:∀ {σ':St} {H':Hp} {s':Shared},Inv Y ([]++pinsAt fp s7.heap) σ' H' s'->tn (i+1) s'.heap/\∀ b∈fp,H' b=none:=fun {σ' H' s'} I'=>by
    refine ⟨TT.keep _ _ _ st7 fun b hb o e=>(I'.pin (b,o) (List.mem_append_right _ (List.mem_append_right _ (mem_pinsAt hb e)))).1,fun b hb=>?_⟩
    obtain ⟨o,e,_⟩:=TT.obj _ _ st7 b hb
    exact (I'.pin (b,o) (List.mem_append_right _ (List.mem_append_right _ (mem_pinsAt hb e)))).2.1
   have tk:(ds.take (i+1)).filter p=(ds.take i).filter p++(if p d then [d] else []):=take_succ_filter p ds i d ed
   cases hpd:p d with
   | false =>
    rw [hpd] at ek
    subst ek
    rw [if_neg (by decide)]
    obtain ⟨t1,t2⟩:=back I9
    refine ⟨ds.length - (i+1),by omega,i+1,σ8,H9,I9.unpinned,((g5.trans g7).trans g8).trans g9,?_,t1,t2,hlt,rfl⟩
    rw [tk,hpd,if_neg (by decide),List.append_nil]
    exact R9.sub sub8
   | true =>
    rw [hpd] at ek
    subst ek
    rw [if_pos rfl]
    have ev:=elt8 hpd _ s9 σ8 H9 I9 R9
    rw [yp,yw,yA,yx,ye] at ev
    refine thn ev fun u9 s10 ⟨v10,H10,o10,M10,I10,r10,g10,i10,R10,e10,eo⟩=>?_
    subst e10;subst eo
    obtain ⟨xs,hx,hxi⟩:=R10.mem q _ mset_same
    have hlen:=hxi.len
    have hl2:(((ds.take i).filter p).map f).length<=i:=by
     rw [List.length_map]
     exact Nat.le_trans (List.length_filter_le _ _) (by rw [List.length_take];omega)
    have ap:=mt_append (X:=Y) _ s10 σ8 H10 (.ref q) [v10] (.ref q) [u9] (fun _ H'=>H'=upd H10 q (.lst (xs++[v10]))) I10 rfl (.cons r10 .nil) ⟨q,xs,v10,rfl,rfl,hx,by omega,rfl⟩
    rw [yp,yw,yA,yx] at ap
    refine thn ap fun _ s11 ⟨_,H11,I11,_,e11⟩=>?_
    subst e11
    obtain ⟨t1,t2⟩:=back I11
    have nt:∀ ys,H10 q≠some (.tup ys):=fun ys z=>by rw [hx] at z;cases z
    have ga:Grow H10 (upd H10 q (.lst (xs++[v10]))):=grow_upd nt
    refine ⟨ds.length - (i+1),by omega,i+1,σ8,_,I11.unpinned,((((g5.trans g7).trans g8).trans g9).trans g10).trans ga,?_,t1,t2,hlt,rfl⟩
    rw [tk,hpd,if_pos rfl,List.map_append]
    have mm:=R10.mem.put (p:=q) (o:=.lst (xs++[v10])) (u:=.lst (((ds.take i).filter p).map f++[f d])) nt ⟨_,upd_same,(hxi.grow ga).app (isl_cons.mpr ⟨v10,[],rfl,Is.grow ga _ _ i10,isl_nil.mpr rfl⟩)⟩
    rw [mset_mset] at mm
    exact (R10.to ga mm).sub sub8
  ·have ei:i=ds.length:=by omega
   subst ei
   have dn:=TT.done Y yp yw yK yc ds.length [] s5 σ5 H5 (fun _ _=>False) I5 (fpY fr5) st5 (wstop _ rfl)
   rw [yA] at dn
   refine thn dn fun r s6 ⟨hr,I6⟩=>?_
   subst hr
   obtain ⟨mm,hmm,_⟩:=I6.loc
   rw [ye] at hmm
   refine ⟨mm,hmm,fun h' hsb=>?_⟩
   have I6':Inv (compCx X N scope cl C s3 H3 fp) [] σ5 H5 s6:=by rw [hY];exact I6
   have IX:=Inv.unblock I3 f3 I6' hC hsb
   refine ⟨.ref q,H5,.ref q,_,IX,rfl,(g2.trans gq).trans g5,is_ref.mpr rfl,R3.to g5 (by rw [<- yK];exact R5.mem),?_⟩
   rw [List.take_length]
   exact fin q mq
 have fin0:=codeAny_compStart_list (R:=compPost (model X.prog X.w) X.A X.xe none (EPD X pins σ G H Q) (.ref q) C) (loop _ rfl) (TT.self _ 0 _ _ _ stc (loop _ rfl))
 rw [hC] at fin0
 exact fin0
end
end D3
namespace D3
open PySem PySem.Spec PyProof.Rows L2
section
variable {X:Cx} {G:Ga} {M:MH} {elt tg iter:Expr} {ifs:List Expr} {scope:Scope} {pos:Pos} {Q:DK} {own:List Str} {js:List Nat} {N:List Str} {cl:List (Str × Addr)}
theorem ev_comp_list (T:CompOk X own js N scope cl) (hxe:X.xe=fun _ _=>False) (hc:X.calm=true) (f:D->D) (p:D->Bool)
  (h:EV X G M iter fun d M1=>∃ (l:Addr) (ds:List D),d=.ref l/\(M1 l=some (.lst ds)\/M1 l=some (.ro ds))/\ds.length<=sizeLine /\
   (∀ Y:Cx,(∃ C s H fp,Y=compCx X N scope cl C s H fp)->∀ M',Ext M1 M'->∀ d∈ds,GV Y (compG own js G) M' tg d fun G3 M3=>M3=M'/\Sub (compG own js G) G3/\TVs Y G3 M' ifs (fun k M4=>M4=M'/\k=p d)/\(p d=true->EV Y G3 M' elt fun o M4=>M4=M'/\o=f d)) /\
   ∀ q,M1 q=none->Q (.ref q) (mset M1 q (.lst ((ds.filter p).map f))))
  (hs:∀ x,foldedSetIterable iter X.env x=pure x:=by intro _;rfl):EV X G M (.ListComp elt [⟨tg,iter,ifs,0⟩] scope pos) Q:=by
 refine ev_comp T hxe hc (pi_list (pe_D (G:=G))) f p (fun σ H kf R=>?_) hs
 refine ⟨M,_,R,h,fun v H' d M' kf' g i R' q=>?_⟩
 obtain ⟨l,ds,e,hl,hz,block,fin⟩:=q
 subst e
 rw [is_ref] at i;subst i
 have sq:∀ {H2:Hp},MemOk X.K M' H2->∃ xs,SqL X.K H2 l xs/\IsL H2 ds xs:=fun {H2} m=>by
  rcases hl with hl | hl
  ·obtain ⟨xs,h1,h2⟩:=m l _ hl;exact ⟨xs,SqL.of h1,h2⟩
  ·exact m l _ hl
 obtain ⟨xs0,hx0,_⟩:=sq R'.mem
 refine ⟨l,rfl,⟨xs0,hx0⟩,g,M',ds,R',fun H2 g2 m2=>?_,hz,block,fin⟩
 obtain ⟨xs,hx2,hxi⟩:=sq m2
 have hlen:=hxi.len
 refine ⟨fun i e=>⟨xs,hx2,by omega⟩,fun i hlt=>⟨⟨xs,xs[i]'(by omega),hx2,by simp⟩,fun x H3 y=>?_⟩⟩
 obtain ⟨e,y⟩:=y
 subst e
 have e1:=y xs hx2
 obtain ⟨d,e2,i2⟩:=hxi.get' e1
 exact ⟨Grow.refl _,fun _ _ z=>z,m2,d,e2,i2⟩
theorem compOk_plain (hfree:∀ x∈scope.names,x.2≠.free) (hcell:∀ x∈scope.names,x.2≠.cell) (hk:scope.kind=.function) (hn:∀ x∈scope.names,x.2=.local->scope.names.lookup x.1=some .local) (hN:N=own):CompOk X own [] N scope []:=by
 have key:(relabel scope X.env).names=scope.names:=by
  unfold relabel
  exact map_eq_self (l:=scope.names) fun x hx=>by
   obtain ⟨n,k⟩:=x
   have:(k == NameKind.free)=false:=by simpa using hfree _ hx
   simp [this]
 refine ⟨closureFor_none hfree,hk,hn,hcell,fun x c e=>by simp at e,fun x h=>?_,fun k j e=>by simp at e,by rw [hN];rfl⟩
 rw [key] at h
 rcases h with h | h
 ·exact absurd rfl (hcell _ (PySem.mem_of_lookup h))
 ·exact absurd rfl (hfree _ (PySem.mem_of_lookup h))
end
end D3
namespace D3
open PySem PySem.Spec PyProof.Rows L2
theorem bits_weight (n:Int):Builtin.Int.intBits n=PySem.W.WData.weight (.int n):=by
 unfold Builtin.Int.intBits PySem.W.WData.weight
 rfl
theorem bits_of_all:∀ (ns:List Int) (k:Nat),PySem.W.WData.weightAll (ns.map PySem.W.WData.int)<=k->∀ n∈ns,Builtin.Int.intBits n<=k
 | [],_,_,n,hn=>nomatch hn
 | m :: ns,k,h,n,hn=>by
  rw [List.map_cons] at h
  have h':PySem.W.WData.weight (.int m)+1+PySem.W.WData.weightAll (ns.map PySem.W.WData.int)<=k:=by
   unfold PySem.W.WData.weightAll at h
   exact h
  rcases List.mem_cons.mp hn with e | hn
  ·subst e
   rw [bits_weight]
   omega
  ·exact bits_of_all ns k (by omega) n hn
theorem bits_of_lay {ns:List Int} (h:PySem.W.WData.layableAll [PySem.W.WData.list (ns.map PySem.W.WData.int)]=true):∀ n∈ns,Builtin.Int.intBits n<=2097152:=by
 unfold PySem.W.WData.layableAll at h
 rw [List.all_cons,Bool.and_eq_true] at h
 have h1:=h.1
 unfold PySem.W.WData.layable at h1
 rw [Bool.and_eq_true] at h1
 have h2:=of_decide_eq_true h1.2
 have h3:PySem.W.WData.weightAll (ns.map PySem.W.WData.int)<=2 ^ 20:=by
  unfold PySem.W.WData.weight at h2
  exact h2
 intro n hn
 have:=bits_of_all ns _ h3 n hn
 omega
end D3
namespace D3
open PySem PySem.W PySem.Calls PyProof.Rows
theorem attach_callB {l:PySem.W.OpenLaw} {n:Nat} {q:Program} {loose:List Str} {XP:(Str->Option Value)->Heap->Prop} {YP:World->Heap->Prop} {d:DefRec}
  (hn:l.most=some n) (hdf:d.params.defaults=[])
  (call:∀ (w:World) (s₀ s₁:Shared) (mg mb:Str->Option Value) (fa:Addr) (o:Obj) (pm cd doc:Value) (a:Addr) (vs:List Value) (ns:List Int),
   Ground q loose [] XP w s₀ mg mb s₁.heap->YP w s₁.heap ->
   s₁.heap.get? fa=some o->o.data=.func (docDef d.name d.params d.body d.scope pm cd doc)->s₁.heap.CodeRec cd d.name->mg d.name=some (.ref fa) ->
   s₁.heap.get? a=some { cls:=.type "list",data:=.seq vs.toArray }->IntsAre vs ns->ns.length<=n->(∀ n∈ns,Builtin.Int.intBits n<=2097152)->s₁.gens=#[] ->
   codeAny (model l.prog w) callerA (.call (.ref fa) ⟨[.ref a],[]⟩) (fun r s'=>r=.ok (.ret (.bool true))/\OldK s₁.heap s'.heap/\s'.os=s₁.os/\AllBare s'.gens) s₁) :
  PySem.W.WalkO q loose XP YP l.row.toRowW d [] (fun f vs=>PySem.call f vs):=by
 intro w s₀ s₁ mg mb G Y fa o pm cd doc dV kV ho hd hcd hD hmg hg args vals as hpre hlay hrd hwl hlo
 obtain rfl:dV=.none:=Dflts.none hD hdf
 obtain rfl:kV=.none:=Dflts.noKw hD
 obtain ⟨a,vs,ns,rfl,rfl,hobj,hints,hlen⟩:=Att.script_of hn hpre hwl
 refine enter_call (codeAny_mono (call w s₀ s₁ mg mb fa o pm cd doc a vs ns G Y ho (fd_plain hd) hcd hmg hobj hints hlen (bits_of_lay hlay) hg) fun r s' hq=>?_)
 obtain ⟨rfl,h2,h3,h4⟩:=hq
 exact ⟨.inl ⟨.bool true,.bool true,[],rfl,fun _=>rfl,.bool true,Att.post_true l _,fun _=>⟨List.Pairwise.nil,fun _ hm=>(nomatch hm)⟩⟩,h2,h3,h4⟩
end D3
namespace D3
open PySem PySem.Spec PyProof.Rows L2
def LawSp (sp:SpD):Prop:=∀ (l:Addr) (ns:List Int) (M:MH) (Q:DK),M l=some (.ro (ns.map D.int))->ns.length<=63->(∀ n∈ns,Builtin.Int.intBits n<=2097152)->(∀ M',Q (.bl true) M')->sp [.ref l] M Q
theorem walk_D {l:PySem.W.OpenLaw} {k:Nat} {q:Program} {loose:List Str} {XP:(Str->Option Value)->Heap->Prop} {YP:World->Heap->Prop} {d:DefRec} {K:Params->PySem.W.Frag} {sp:SpD} {x:Str}
  (hn:l.most=some 63) (hdf:d.params.defaults=[]) (hr:Room k callerA) (hs:LawSp sp)
  (hY:∀ (w:World) (h:Heap),YP w h->(K w.params).In h)
  (F:∀ (w:World) (mg:Str->Option Value) (fa:Addr) (h:Heap),(K w.params).In h->h.Ns mainGlobals mg->mg d.name=some (.ref fa) ->
   ∃ fd:FuncData,(∀ (s:Shared) (u:Value),BindsTo s fd ⟨[u],[]⟩ [(x,u)]) /\
    ∀ base:Heap,(K w.params).In base->base.Ns mainGlobals mg->FnOk l.prog w (K w.params) mg base CX0 k fa fd [x] (liftSp (K w.params) sp)) :
  PySem.W.WalkO q loose XP YP l.row.toRowW d [] (fun f vs=>PySem.call f vs):=by
 refine attach_callB hn hdf fun w s₀ s₁ mg mb fa o pm cd doc a vs ns G Y ho hd hcd hmg hobj hints hlen hbits hg=>?_
 have KX:=hY w _ Y
 obtain ⟨fd,hb,hF⟩:=F w mg fa _ KX G.T.g hmg
 refine law_call KX G.T.g G.T.b G.T.builtins G.T.nolimit hg hobj hints (Nat.le_trans hlen (by decide)) hr hF hb (fun H hO hS=>?_) fun H e s' z=>z
 refine ⟨[.ref a],fun b=>if b=a then some (.ro (ns.map D.int)) else none,fun d M'=>d=.bl true,isl_cons.mpr ⟨.ref a,[],rfl,is_ref.mpr rfl,isl_nil.mpr rfl⟩,fun b o e=>?_,hs a ns _ _ (if_pos rfl) hlen hbits (fun _=>rfl),fun v H' d M' _ i _ e=>?_⟩
 ·have e:(if b=a then some (MO.ro (ns.map D.int)) else none)=some o:=e
  by_cases z:b=a
  ·rw [if_pos z] at e
   cases e
   subst z
   exact ⟨_,hS,IsL.ints⟩
  ·rw [if_neg z] at e;cases e
 ·subst e
  rw [is_bl] at i
  exact i
end D3
namespace D3
open PySem PySem.Spec PyProof.Rows L2
mutual
def pd:D->PyData
 | .non=>.none
 | .bl b=>.bool b
 | .int i=>.int i
 | .str x=>.str x
 | .ty _=>.none
 | .tup ds=>.tuple (pdL ds)
 | .ref _=>.none
def pdL:List D->List PyData
 | []=>[]
 | d :: ds=>pd d :: pdL ds
end
mutual
def imm:D->Bool
 | .non=>true
 | .bl _=>true
 | .int _=>true
 | .str x=>PyData.strOk x
 | .ty _=>false
 | .tup ds=>immL ds
 | .ref _=>false
def immL:List D->Bool
 | []=>true
 | d :: ds=>imm d && immL ds
end
section
variable {X:Cx} {pins:List (Addr × Obj)} {σ:St} {H:Hp} {s:Shared}
mutual
theorem reads_of (I:L2.Inv X pins σ H s):∀ (d:D) (v:V) (u:Value),Is H d v->RelV v u->imm d=true->∃ as,Reads s.heap u (pd d) as
 | .non,v,u,i,r,_=>by
  rw [is_non] at i;subst i;cases r
  unfold pd;exact ⟨_,.none⟩
 | .bl b,v,u,i,r,_=>by
  rw [is_bl] at i;subst i;cases r
  unfold pd;exact ⟨_,.bool b⟩
 | .int b,v,u,i,r,_=>by
  rw [is_int] at i;subst i;obtain ⟨t,rfl⟩:=r
  unfold pd;exact ⟨_,.int b t⟩
 | .str b,v,u,i,r,_=>by
  rw [is_str] at i;subst i;obtain ⟨t,rfl⟩:=r
  unfold pd;exact ⟨_,.str b t⟩
 | .ty _,_,_,_,_,h=>by unfold imm at h;cases h
 | .ref _,_,_,_,_,h=>by unfold imm at h;cases h
 | .tup ds,v,u,i,r,h=>by
  rw [is_tup] at i
  obtain ⟨a,xs,rfl,h1,h2⟩:=i
  cases r
  unfold imm at h
  obtain ⟨_,its,rv,o,ho,hc,n,hd⟩:=I.hok a _ h1
  obtain ⟨as,q⟩:=readsAll_of I ds xs its h2 rv h
  unfold pd
  exact ⟨as,.tuple ho hc hd (by simpa using q)⟩
theorem readsAll_of (I:L2.Inv X pins σ H s):∀ (ds:List D) (vs:List V) (us:List Value),IsL H ds vs->Vals vs us->immL ds=true->∃ as,ReadsAll s.heap us (pdL ds) as
 | [],vs,us,i,r,_=>by
  rw [isl_nil] at i;subst i;cases r
  unfold pdL;exact ⟨_,.nil⟩
 | d :: ds,vs,us,i,r,h=>by
  rw [isl_cons] at i
  obtain ⟨x,xs,rfl,i1,i2⟩:=i
  unfold immL at h
  rw [Bool.and_eq_true] at h
  cases r with
  | cons r1 r2 =>
   obtain ⟨as,q1⟩:=reads_of I d x _ i1 r1 h.1
   obtain ⟨bs,q2⟩:=readsAll_of I ds xs _ i2 r2 h.2
   unfold pdL
   exact ⟨_,.cons q1 q2⟩
end
mutual
theorem canLay_imm:∀ d:D,imm d=true->(pd d).canLay0=true
 | .non,_=>by simp only [pd,PyData.canLay0]
 | .bl _,_=>by simp only [pd,PyData.canLay0]
 | .int _,_=>by simp only [pd,PyData.canLay0]
 | .str x,h=>by
  unfold imm at h
  simp only [pd,PyData.canLay0];exact h
 | .ty _,h=>by unfold imm at h;cases h
 | .ref _,h=>by unfold imm at h;cases h
 | .tup ds,h=>by
  unfold imm at h
  simp only [pd,PyData.canLay0]
  exact canLayL_imm ds h
theorem canLayL_imm:∀ ds:List D,immL ds=true->PyData.canLayAll0 (pdL ds)=true
 | [],_=>by simp only [pdL,PyData.canLayAll0]
 | d :: ds,h=>by
  unfold immL at h
  rw [Bool.and_eq_true] at h
  simp only [pdL,PyData.canLayAll0,canLay_imm d h.1,canLayL_imm ds h.2,Bool.and_self]
end
end
section
variable {X:Cx} {G:Ga} {M:MH} {a b e:Expr} {pos:Pos} {Q:DK}
theorem tv_cval {op:CmpOp} {Qb:Bool->MH->Prop} (hm:behindInMarks op b=false)
  (h:∀ (pins:List (Addr × Obj)) (s:Shared) (σ:St) (H:Hp),L2.Inv X pins σ H s->Rel X G M σ H->wpAny (model X.prog X.w) X.A (eval a X.env) (fun v s1=>wpAny (model X.prog X.w) X.A (eval b X.env) (fun u s2=>wpAny (model X.prog X.w) X.A (compareOp op v u) (EPD X pins σ G H fun d M'=>∃ k,d=.bl k/\Qb k M') X.xe s2) X.xe s1) X.xe s):TV X G M (.Compare a [op] [b] pos) Qb:=by
 intro pins s σ H I R
 refine wpAny_isTrue_Compare1 (thn (h pins s σ H I R) fun v s1 h1=>thn h1 fun u s2 h2=>thn h2 fun w s3 ⟨z,H3,d,M3,I3,r3,g3,i3,R3,k,e,q⟩=>?_) hm
 subst e
 rw [is_bl] at i3;subst i3
 cases r3
 exact wpAny_truthy_bool ⟨H3,M3,I3,g3,R3,q⟩
theorem IsL.set {H:Hp}:∀ {ds:List D} {vs:List V} (j:Nat) {d:D} {v:V},IsL H ds vs->Is H d v->IsL H (ds.set j d) (vs.set j v)
 | [],vs,j,d,v,h,_=>by rw [isl_nil] at h;subst h;rw [List.set_nil,List.set_nil,isl_nil]
 | d' :: ds,vs,0,d,v,h,k=>by
  rw [isl_cons] at h
  obtain ⟨x,r,rfl,h1,h2⟩:=h
  rw [List.set_cons_zero,List.set_cons_zero,isl_cons]
  exact ⟨v,r,rfl,k,h2⟩
 | d' :: ds,vs,j+1,d,v,h,k=>by
  rw [isl_cons] at h
  obtain ⟨x,r,rfl,h1,h2⟩:=h
  rw [List.set_cons_succ,List.set_cons_succ,isl_cons]
  exact ⟨x,r.set j v,rfl,h1,h2.set j k⟩
theorem bootIntT:bootBuiltins "int" = some (.type "int"):=by decide +kernel
theorem ev_intC {p:Pos} (hm:X.mg "int" = none) (h:AV X G M [e] fun ds M1=>(∃ i,ds=[.int i]/\Q (.int i) M1)\/∃ k:Bool,ds=[.bl k]/\Q (.int (if k then 1 else 0)) M1) (hg:Gl X "int" := by rfl)
  (he:starEach [e] X.env=(false,eval e X.env) :: starEach [] X.env:=by rfl) (hpl:(backTo pos (starEach ([] : List Expr) X.env)).any (·.1)=false:=by rfl):EV X G M (.Call (.Name "int" p) [e] [] pos) Q :=
 ev_callTy call_int1 hm bootIntT (h.mono fun ds M1 hq=>fun H xs kf hx m=>by
  rcases hq with ⟨i,rfl,q⟩ | ⟨k,rfl,q⟩
  ·obtain ⟨v,rfl,hv⟩:=isl1 hx
   rw [is_int] at hv;subst hv
   exact .inl ⟨i,rfl,fun _=>⟨Grow.refl _,_,M1,is_int.mpr rfl,m,q⟩⟩
  ·obtain ⟨v,rfl,hv⟩:=isl1 hx
   rw [is_bl] at hv;subst hv
   exact .inr ⟨k,rfl,fun _=>⟨Grow.refl _,_,M1,is_int.mpr rfl,m,q⟩⟩) hg (by decide) (by decide) he hpl
end
end D3
namespace D3
open PySem PySem.Spec PyProof.Rows L2
def SubL (da db:D) (M:MH) (Q:DK):Prop:=match da,db with
 | .int i,.int j=>Q (.int (i - j)) M
 | _,_=>False
def MulL (da db:D) (M:MH) (Q:DK):Prop:=match da,db with
 | .int i,.int j=>IntMulOk i j/\Q (.int (i * j)) M
 | _,_=>False
def DivL (da db:D) (M:MH) (Q:DK):Prop:=match da,db with
 | .int i,.int j=>CDivB i j/\Q (.int (i.fdiv j)) M
 | _,_=>False
def ModL (da db:D) (M:MH) (Q:DK):Prop:=match da,db with
 | .int i,.int j=>j≠0/\Q (.int (i.fmod j)) M
 | _,_=>False
def PowL (da db:D) (M:MH) (Q:DK):Prop:=match da,db with
 | .int i,.int j=>CPow i j/\Q (.int (i ^ j.toNat)) M
 | _,_=>False
def NegL (da:D) (M:MH) (Q:DK):Prop:=match da with
 | .int i=>Q (.int (-i)) M
 | _=>False
def CmpL (p:Int->Int->Bool) (da db:D) (M:MH) (Qb:Bool->MH->Prop):Prop:=match da,db with
 | .int i,.int j=>Qb (p i j) M
 | _,_=>False
def eqB (da db:D):Bool:=match da,db with
 | .int i,.int j=>decide (i=j)
 | .bl i,.bl j=>decide (i=j)
 | .str i,.str j=>decide (i=j)
 | _,_=>PyData.eqv (pd da) (pd db)
def EqOk (da db:D):Prop:=match da,db with
 | .int _,.int _=>True
 | .bl _,.bl _=>True
 | .str _,.str _=>True
 | _,_=>imm da=true/\imm db=true/\(pd da).depth<=60
def EqL (da db:D) (M:MH) (Qb:Bool->MH->Prop):Prop:=EqOk da db/\Qb (eqB da db) M
section
variable {X:Cx} {G:Ga} {M:MH} {a b c e:Expr} {es rest:List Expr} {pos:Pos} {Q:DK} {Qb:Bool->MH->Prop} {i j:Int}
theorem add_ii (q:Q (.int (i+j)) M):AddD (.int i) (.int j) M Q:=q
theorem add_tt {xs ys:List D} (h:xs≠[]) (z:xs.length+ys.length<=sizeLine) (q:Q (.tup (xs++ys)) M):AddD (.tup xs) (.tup ys) M Q:=⟨h,z,q⟩
theorem add_ll {l k:Addr} {xs ys:List D} (h:M l=some (.lst xs)) (h':M k=some (.lst ys)) (z:xs.length+ys.length<=sizeLine) (q:∀ p,M p=none->Q (.ref p) (mset M p (.lst (xs++ys)))):AddD (.ref l) (.ref k) M Q:=⟨xs,ys,h,h',z,q⟩
theorem sub_l (q:Q (.int (i - j)) M):SubL (.int i) (.int j) M Q:=q
theorem mul_l (c:IntMulOk i j) (q:Q (.int (i * j)) M):MulL (.int i) (.int j) M Q:=⟨c,q⟩
theorem div_l (c:CDivB i j) (q:Q (.int (i.fdiv j)) M):DivL (.int i) (.int j) M Q:=⟨c,q⟩
theorem mod_l (c:j≠0) (q:Q (.int (i.fmod j)) M):ModL (.int i) (.int j) M Q:=⟨c,q⟩
theorem pow_n {k:Int} (e:i ^ j.toNat=k) (c:CPow i j) (q:Q (.int k) M):PowL (.int i) (.int j) M Q:=⟨c,by rw [e];exact q⟩
theorem neg_l (q:Q (.int (-i)) M):NegL (.int i) M Q:=q
theorem cmp_l {p:Int->Int->Bool} (q:Qb (p i j) M):CmpL p (.int i) (.int j) M Qb:=q
theorem eq_ii (q:Qb (decide (i=j)) M):EqL (.int i) (.int j) M Qb:=⟨trivial,q⟩
theorem eq_bb {i j:Bool} (q:Qb (decide (i=j)) M):EqL (.bl i) (.bl j) M Qb:=⟨trivial,q⟩
theorem eq_ss {i j:Str} (q:Qb (decide (i=j)) M):EqL (.str i) (.str j) M Qb:=⟨trivial,q⟩
theorem eq_tt {xs ys:List D} (h:immL xs=true) (h':immL ys=true) (z:(pd (.tup xs)).depth<=60) (q:Qb (PyData.eqv (pd (.tup xs)) (pd (.tup ys))) M):EqL (.tup xs) (.tup ys) M Qb:=⟨⟨by unfold imm;exact h,by unfold imm;exact h',z⟩,q⟩
theorem ix_tl {ds:List D} {d:D} (e:atI ds i=some d) (q:Q d M):IxD (.tup ds) i M Q:=⟨d,e,q⟩
theorem ix_ll {l:Addr} {ds:List D} {d:D} (h:M l=some (.lst ds)) (e:atI ds i=some d) (q:Q d M):IxD (.ref l) i M Q:=.inl ⟨ds,d,h,e,q⟩
theorem ix_rl {l:Addr} {ds:List D} {d:D} (h:M l=some (.ro ds)) (e:atI ds i=some d) (q:Q d M):IxD (.ref l) i M Q:=.inr ⟨ds,d,h,e,q⟩
theorem SubL.ex {da db:D} (h:SubL da db M Q):∃ i j,da=.int i/\db=.int j/\Q (.int (i - j)) M:=by
 unfold SubL at h;split at h
 ·exact ⟨_,_,rfl,rfl,h⟩
 ·exact h.elim
theorem MulL.ex {da db:D} (h:MulL da db M Q):∃ i j,da=.int i/\db=.int j/\IntMulOk i j/\Q (.int (i * j)) M:=by
 unfold MulL at h;split at h
 ·exact ⟨_,_,rfl,rfl,h⟩
 ·exact h.elim
theorem DivL.ex {da db:D} (h:DivL da db M Q):∃ i j,da=.int i/\db=.int j/\CDivB i j/\Q (.int (i.fdiv j)) M:=by
 unfold DivL at h;split at h
 ·exact ⟨_,_,rfl,rfl,h⟩
 ·exact h.elim
theorem ModL.ex {da db:D} (h:ModL da db M Q):∃ i j,da=.int i/\db=.int j/\j≠0/\Q (.int (i.fmod j)) M:=by
 unfold ModL at h;split at h
 ·exact ⟨_,_,rfl,rfl,h⟩
 ·exact h.elim
theorem PowL.ex {da db:D} (h:PowL da db M Q):∃ i j,da=.int i/\db=.int j/\CPow i j/\Q (.int (i ^ j.toNat)) M:=by
 unfold PowL at h;split at h
 ·exact ⟨_,_,rfl,rfl,h⟩
 ·exact h.elim
theorem NegL.ex {da:D} (h:NegL da M Q):∃ i,da=.int i/\Q (.int (-i)) M:=by
 unfold NegL at h;split at h
 ·exact ⟨_,rfl,h⟩
 ·exact h.elim
theorem CmpL.ex {p:Int->Int->Bool} {da db:D} (h:CmpL p da db M Qb):∃ i j,da=.int i/\db=.int j/\Qb (p i j) M:=by
 unfold CmpL at h;split at h
 ·exact ⟨_,_,rfl,rfl,h⟩
 ·exact h.elim
theorem l_sub (h:EV X G M a fun da Ma=>EV X G Ma b fun db Mb=>SubL da db Mb Q):EV X G M (.BinOp a .Sub b pos) Q:=ev_sub (h.mono fun _ _ h1=>h1.mono fun _ _ h2=>h2.ex)
theorem l_mul (h:EV X G M a fun da Ma=>EV X G Ma b fun db Mb=>MulL da db Mb Q):EV X G M (.BinOp a .Mult b pos) Q:=ev_mul (h.mono fun _ _ h1=>h1.mono fun _ _ h2=>h2.ex)
theorem l_fdiv (h:EV X G M a fun da Ma=>EV X G Ma b fun db Mb=>DivL da db Mb Q):EV X G M (.BinOp a .FloorDiv b pos) Q:=ev_fdiv (h.mono fun _ _ h1=>h1.mono fun _ _ h2=>h2.ex)
theorem l_mod (h:EV X G M a fun da Ma=>EV X G Ma b fun db Mb=>ModL da db Mb Q):EV X G M (.BinOp a .Mod b pos) Q:=ev_mod (h.mono fun _ _ h1=>h1.mono fun _ _ h2=>h2.ex)
theorem l_pow (h:EV X G M a fun da Ma=>EV X G Ma b fun db Mb=>PowL da db Mb Q):EV X G M (.BinOp a .Pow b pos) Q:=ev_pow (h.mono fun _ _ h1=>h1.mono fun _ _ h2=>h2.ex)
theorem l_neg (h:EV X G M a fun da Ma=>NegL da Ma Q):EV X G M (.UnaryOp .USub a pos) Q:=ev_neg (h.mono fun _ _ h1=>h1.ex)
theorem l_lt (h:EV X G M a fun da Ma=>EV X G Ma b fun db Mb=>CmpL (fun i j=>decide (i < j)) da db Mb fun k M'=>Q (.bl k) M'):EV X G M (.Compare a [.Lt] [b] pos) Q:=ev_lt (h.mono fun _ _ h1=>h1.mono fun _ _ h2=>h2.ex)
theorem l_le (h:EV X G M a fun da Ma=>EV X G Ma b fun db Mb=>CmpL (fun i j=>decide (i<=j)) da db Mb fun k M'=>Q (.bl k) M'):EV X G M (.Compare a [.LtE] [b] pos) Q:=ev_le (h.mono fun _ _ h1=>h1.mono fun _ _ h2=>h2.ex)
theorem l_gt (h:EV X G M a fun da Ma=>EV X G Ma b fun db Mb=>CmpL (fun i j=>decide (j < i)) da db Mb fun k M'=>Q (.bl k) M'):EV X G M (.Compare a [.Gt] [b] pos) Q:=ev_gt (h.mono fun _ _ h1=>h1.mono fun _ _ h2=>h2.ex)
theorem lt_lt (h:EV X G M a fun da Ma=>EV X G Ma b fun db Mb=>CmpL (fun i j=>decide (i < j)) da db Mb Qb):TV X G M (.Compare a [.Lt] [b] pos) Qb:=tv_lt (h.mono fun _ _ h1=>h1.mono fun _ _ h2=>h2.ex)
theorem lt_gt (h:EV X G M a fun da Ma=>EV X G Ma b fun db Mb=>CmpL (fun i j=>decide (j < i)) da db Mb Qb):TV X G M (.Compare a [.Gt] [b] pos) Qb:=tv_gt (h.mono fun _ _ h1=>h1.mono fun _ _ h2=>h2.ex)
theorem eqL_cases {da db:D} (h:EqL da db M Qb):(∃ k,EqD da db k/\Qb k M)\/(imm da=true/\imm db=true/\(pd da).depth<=60/\Qb (PyData.eqv (pd da) (pd db)) M):=by
 obtain ⟨h,q⟩:=h
 unfold EqOk at h
 unfold eqB at q
 split at h
 ·exact .inl ⟨_,rfl,q⟩
 ·exact .inl ⟨_,rfl,q⟩
 ·exact .inl ⟨_,rfl,q⟩
 ·rename_i h1 h2 h3
  split at q
  ·exact absurd rfl (fun z=>h1 _ _ rfl z)
  ·exact absurd rfl (fun z=>h2 _ _ rfl z)
  ·exact absurd rfl (fun z=>h3 _ _ rfl z)
  ·exact .inr ⟨h.1,h.2.1,h.2.2,q⟩
theorem eqL_run {neg:Bool} {op:CmpOp} (ho:op=if neg then .NotEq else .Eq) (hu:X.A.units+64 < cLine) {pins:List (Addr × Obj)} {σ:St} {H:Hp} {s:Shared} {da db:D} {x y:V} {v u:Value} (I:L2.Inv X pins σ H s) (R:Rel X G M σ H) (i1:Is H da x) (i2:Is H db y) (r1:RelV x v) (r2:RelV y u)
  (h:EqL da db M fun k M'=>Q (.bl (if neg then !k else k)) M'):wpAny (model X.prog X.w) X.A (compareOp op v u) (EPD X pins σ G H Q) X.xe s:=by
 subst ho
 rcases eqL_cases h with ⟨k,e1,q⟩ | ⟨m1,m2,hd,q⟩
 ·obtain ⟨h2,h3⟩:=eqD_val e1 i1 i2
  cases neg with
  | false =>
   refine thn (op_eq pins s σ H x y v u (fun z H3=>z=.bl (decide (x=y))/\H3=H) I r1 r2 ⟨h2,rfl,rfl⟩) fun w s3 hw=>?_
   obtain ⟨z,H3,I3,r3,e3,e4⟩:=hw
   subst e3;subst e4
   exact ⟨_,H3,.bl k,M,I3,r3,Grow.refl _,is_bl.mpr (by rw [h3]),R,q⟩
  | true =>
   refine thn (op_ne pins s σ H x y v u (fun z H3=>z=.bl (!decide (x=y))/\H3=H) I r1 r2 ⟨h2,rfl,rfl⟩) fun w s3 hw=>?_
   obtain ⟨z,H3,I3,r3,e3,e4⟩:=hw
   subst e3;subst e4
   exact ⟨_,H3,.bl (!k),M,I3,r3,Grow.refl _,is_bl.mpr (by rw [h3]),R,q⟩
 ·obtain ⟨as,ra⟩:=reads_of I da x v i1 r1 m1
  obtain ⟨bs,rb⟩:=reads_of I db y u i2 r2 m2
  have hmin:min (pd da).depth (pd db).depth<=(pd da).depth:=Nat.min_le_left _ _
  cases neg with
  | false=>exact PySem.SeqAt.compareEq_reads ra rb (canLay_imm _ m1) (canLay_imm _ m2) (by omega) ⟨.bl _,H,.bl _,M,I,rfl,Grow.refl _,is_bl.mpr rfl,R,q⟩
  | true=>exact PySem.SeqAt.compareNe_reads ra rb (canLay_imm _ m1) (canLay_imm _ m2) (by omega) ⟨.bl _,H,.bl _,M,I,rfl,Grow.refl _,is_bl.mpr rfl,R,q⟩
theorem l_eq (hu:X.A.units+64 < cLine) (h:EV X G M a fun da Ma=>EV X G Ma b fun db Mb=>EqL da db Mb fun k M'=>Q (.bl k) M'):EV X G M (.Compare a [.Eq] [b] pos) Q:=by
 intro pins s σ H I R
 refine wpAny_Compare1 ?_ (nomark _)
 refine thn (h pins s σ H I R) fun v s1 ⟨x,H1,da,Ma,I1,r1,g1,i1,R1,q1⟩=>?_
 refine thn (q1 pins s1 σ H1 I1 R1) fun u s2 ⟨y,H2,db,Mb,I2,r2,g2,i2,R2,q⟩=>?_
 exact thn (eqL_run (neg:=false) rfl hu I2 R2 (Is.grow g2 _ _ i1) i2 r1 r2 q) fun _ _ h=>h.grow (g1.trans g2)
theorem l_ne (hu:X.A.units+64 < cLine) (h:EV X G M a fun da Ma=>EV X G Ma b fun db Mb=>EqL da db Mb fun k M'=>Q (.bl (!k)) M'):EV X G M (.Compare a [.NotEq] [b] pos) Q:=by
 intro pins s σ H I R
 refine wpAny_Compare1 ?_ (nomark _)
 refine thn (h pins s σ H I R) fun v s1 ⟨x,H1,da,Ma,I1,r1,g1,i1,R1,q1⟩=>?_
 refine thn (q1 pins s1 σ H1 I1 R1) fun u s2 ⟨y,H2,db,Mb,I2,r2,g2,i2,R2,q⟩=>?_
 exact thn (eqL_run (neg:=true) rfl hu I2 R2 (Is.grow g2 _ _ i1) i2 r1 r2 q) fun _ _ h=>h.grow (g1.trans g2)
theorem lt_eq (hu:X.A.units+64 < cLine) (h:EV X G M a fun da Ma=>EV X G Ma b fun db Mb=>EqL da db Mb Qb):TV X G M (.Compare a [.Eq] [b] pos) Qb:=by
 refine tv_cval (nomark _) fun pins s σ H I R=>?_
 refine thn (h pins s σ H I R) fun v s1 ⟨x,H1,da,Ma,I1,r1,g1,i1,R1,q1⟩=>?_
 refine thn (q1 pins s1 σ H1 I1 R1) fun u s2 ⟨y,H2,db,Mb,I2,r2,g2,i2,R2,q⟩=>?_
 exact thn (eqL_run (neg:=false) rfl hu I2 R2 (Is.grow g2 _ _ i1) i2 r1 r2 (Q:=fun d M'=>∃ k,d=.bl k/\Qb k M') ⟨q.1,_,rfl,q.2⟩) fun _ _ h=>h.grow (g1.trans g2)
theorem lt_ne (hu:X.A.units+64 < cLine) (h:EV X G M a fun da Ma=>EV X G Ma b fun db Mb=>EqL da db Mb fun k M'=>Qb (!k) M'):TV X G M (.Compare a [.NotEq] [b] pos) Qb:=by
 refine tv_cval (nomark _) fun pins s σ H I R=>?_
 refine thn (h pins s σ H I R) fun v s1 ⟨x,H1,da,Ma,I1,r1,g1,i1,R1,q1⟩=>?_
 refine thn (q1 pins s1 σ H1 I1 R1) fun u s2 ⟨y,H2,db,Mb,I2,r2,g2,i2,R2,q⟩=>?_
 exact thn (eqL_run (neg:=true) rfl hu I2 R2 (Is.grow g2 _ _ i1) i2 r1 r2 (Q:=fun d M'=>∃ k,d=.bl k/\Qb k M') ⟨q.1,_,rfl,q.2⟩) fun _ _ h=>h.grow (g1.trans g2)
theorem tv_call {f:Expr} {kws:List Keyword} (h:EV X G M (.Call f es kws pos) fun d M'=>∃ k,TruD X.K d M' k/\Qb k M') (he:∀ whole,isTrue (.Call f es kws pos) X.env whole=(do let v <- whole;standAt (Expr.Call f es kws pos).pos;holding [v] (truthy v)):=by intro _;rfl):TV X G M (.Call f es kws pos) Qb:=tv_of h he
theorem ev_callM {j k:Nat} {x:Str} {p:Pos} {sp:SpD} (C:Cal X.prog X.w X.K X.mg X.base j x sp) (hr:Room k X.A) (hk:j<=k) (h:AV X G M (e :: es) fun ds M1=>sp ds M1 Q) (hg:Gl X x:=by rfl) (hdb:(x == ("__debug__" : Str))=false:=by decide)
  (he:starEach (e :: es) X.env=(false,eval e X.env) :: starEach es X.env:=by rfl) (hpl:(backTo pos (starEach es X.env)).any (·.1)=false:=by rfl):EV X G M (.Call (.Name x p) (e :: es) [] pos) Q:=ev_call (C.mono hk) hr h hg hdb he hpl
theorem tvs_nil (h:Qb true M):TVs X G M [] Qb:=h
theorem exs_join {st:Stmt} {sts:List Stmt} {E:EndsD} (J:Ga->MH->Prop) (h:EX X G M st { E with nx:=J }) (k:∀ G' M',J G' M'->EXs X G' M' sts E):EXs X G M (st :: sts) E:=by
 refine exs_cons ?_
 intro pins s σ H I R
 refine thn (h pins s σ H I R) fun f s1 q=>?_
 cases f with
 | next=>obtain ⟨σ',H',G',M',I',g',R',q⟩:=q;exact ⟨σ',H',G',M',I',g',R',k _ _ q⟩
 | ret v=>exact q
 | brk=>exact q
 | cont=>exact q
theorem ifD {c A B:Prop} [Decidable c] (h1:c->A) (h2:¬ c->B):if decide c=true then A else B:=by
 by_cases h:c
 ·rw [if_pos (decide_eq_true h)];exact h1 h
 ·rw [if_neg (by simp [h])];exact h2 h
theorem ifN {c A B:Prop} [Decidable c] (h1:¬ c->A) (h2:c->B):if (!decide c)=true then A else B:=by
 by_cases h:c
 ·rw [if_neg (by simp [h])];exact h2 h
 ·rw [if_pos (by simp [h])];exact h1 h
theorem ifT {A B:Prop} (h:A):if true=true then A else B:=by rw [if_pos rfl];exact h
theorem ifF {A B:Prop} (h:B):if false=true then A else B:=by rw [if_neg (by decide)];exact h
theorem ifNT {A B:Prop} (h:B):if (!true)=true then A else B:=by rw [if_neg (by decide)];exact h
theorem ifNF {A B:Prop} (h:A):if (!false)=true then A else B:=by rw [if_pos (by decide)];exact h
theorem ifDy {c A B:Prop} [Decidable c] (h:c) (a:A):if decide c=true then A else B:=by rw [if_pos (decide_eq_true h)];exact a
theorem ifDn {c A B:Prop} [Decidable c] (h:¬ c) (b:B):if decide c=true then A else B:=by rw [if_neg (by simp [h])];exact b
theorem ifNy {c A B:Prop} [Decidable c] (h:¬ c) (a:A):if (!decide c)=true then A else B:=by rw [if_pos (by simp [h])];exact a
theorem ifNn {c A B:Prop} [Decidable c] (h:c) (b:B):if (!decide c)=true then A else B:=by rw [if_neg (by simp [h])];exact b
end
end D3
namespace D3
open PySem PySem.Spec PyProof.Rows L2
def lkD:List (Str × D)->Str->Option D
 | [],_=>none
 | (x,d) :: r,k=>if x=k then some d else lkD r k
def putD (kvs:List (Str × D)) (k:Str) (d:D):List (Str × D) :=
 if (kvs.any fun kv=>decide (kv.1=k))=true then kvs.map (fun kv=>if kv.1=k then (kv.1,d) else kv) else kvs++[(k,d)]
theorem lkD_cons (x:Str) (d:D) (r:List (Str × D)) (k:Str):lkD ((x,d) :: r) k=if x=k then some d else lkD r k:=rfl
theorem KvIs.len {H:Hp}:∀ {kvs:List (Str × D)} {ys:List (Key × V)},KvIs H kvs ys->kvs.length=ys.length
 | [],ys,h=>by rw [show ys=[] from h];rfl
 | (k,d) :: r,ys,h=>by
  obtain ⟨v,ys',rfl,_,h2⟩:=h
  rw [List.length_cons,List.length_cons,KvIs.len h2]
theorem KvIs.val {H:Hp}:∀ {kvs:List (Str × D)} {ys:List (Key × V)} (k:Str),KvIs H kvs ys->match lkD kvs k with
  | some d=>∃ v,valV ys (Sum.inr k)=some v/\Is H d v
  | none=>valV ys (Sum.inr k)=none
 | [],ys,k,h=>by rw [show ys=[] from h];exact valV_nil
 | (x,d) :: r,ys,k,h=>by
  obtain ⟨v,ys',rfl,h1,h2⟩:=h
  have ih:=KvIs.val k h2
  rw [lkD_cons]
  by_cases e:x=k
  ·rw [if_pos e]
   exact ⟨v,valV_pos (by rw [e]),h1⟩
  ·rw [if_neg e]
   have hne:¬ (Sum.inr x:Key)=Sum.inr k:=fun z=>e (Sum.inr.inj z)
   rw [valV_neg (p:=(Sum.inr x,v)) hne]
   exact ih
theorem KvIs.get {H:Hp} {kvs:List (Str × D)} {ys:List (Key × V)} {k:Str} {d:D} (h:KvIs H kvs ys) (e:lkD kvs k=some d):∃ v,valV ys (Sum.inr k)=some v/\Is H d v:=by
 have:=h.val k;rw [e] at this;exact this
theorem KvIs.some_eq {H:Hp} {kvs:List (Str × D)} {ys:List (Key × V)} (h:KvIs H kvs ys) (k:Str):(valV ys (Sum.inr k)).isSome=(lkD kvs k).isSome:=by
 have:=h.val k
 cases e:lkD kvs k with
 | none=>rw [e] at this;rw [show valV ys (Sum.inr k)=none from this];rfl
 | some d=>rw [e] at this;obtain ⟨v,h1,_⟩:=this;rw [h1];rfl
theorem KvIs.any {H:Hp} {k:Str}:∀ {kvs:List (Str × D)} {ys:List (Key × V)},KvIs H kvs ys->(kvs.any fun kv=>decide (kv.1=k))=ys.any fun kv=>decide (kv.1=Sum.inr k)
 | [],ys,h=>by rw [show ys=[] from h];rfl
 | (x,d) :: r,ys,h=>by
  obtain ⟨v,ys',rfl,h1,h2⟩:=h
  rw [List.any_cons,List.any_cons,KvIs.any h2,key_rr]
theorem KvIs.repl {H:Hp} {k:Str} {d:D} {v:V} (i:Is H d v):∀ {kvs:List (Str × D)} {ys:List (Key × V)},KvIs H kvs ys ->
  KvIs H (kvs.map fun kv=>if kv.1=k then (kv.1,d) else kv) (ys.map fun kv=>if kv.1=Sum.inr k then (kv.1,v) else kv)
 | [],ys,h=>by rw [show ys=[] from h];rfl
 | (x,e) :: r,ys,h=>by
  obtain ⟨u,ys',rfl,h1,h2⟩:=h
  have ih:=KvIs.repl (k:=k) i h2
  rw [List.map_cons,List.map_cons]
  by_cases z:x=k
  ·rw [if_pos z,if_pos (by rw [z])]
   exact ⟨v,_,rfl,i,ih⟩
  ·rw [if_neg z,if_neg (fun q=>z (Sum.inr.inj q))]
   exact ⟨u,_,rfl,h1,ih⟩
theorem KvIs.snoc {H:Hp} {k:Str} {d:D} {v:V} (i:Is H d v):∀ {kvs:List (Str × D)} {ys:List (Key × V)},KvIs H kvs ys->KvIs H (kvs++[(k,d)]) (ys++[(Sum.inr k,v)])
 | [],ys,h=>by rw [show ys=[] from h];exact ⟨v,[],rfl,i,rfl⟩
 | (x,e) :: r,ys,h=>by
  obtain ⟨u,ys',rfl,h1,h2⟩:=h
  exact ⟨u,_,rfl,h1,KvIs.snoc i h2⟩
theorem KvIs.put {H:Hp} {k:Str} {d:D} {v:V} (i:Is H d v) {kvs:List (Str × D)} {ys:List (Key × V)} (h:KvIs H kvs ys):KvIs H (putD kvs k d) (putK ys (Sum.inr k) v):=by
 unfold putD putK
 rw [h.any]
 split
 ·exact h.repl i
 ·exact h.snoc i
section
variable {X:Cx} {G:Ga} {M:MH} {a b c e o i:Expr} {es rest:List Expr} {pos:Pos} {Q:DK} {Qb:Bool->MH->Prop}
def IxA (da db:D) (M:MH) (Q:DK):Prop:=match db with
 | .int i=>match da with
  | .str z=>∃ c,z.length<=sizeLine/\atI z.cps.toList i=some c/\Q (.str ⟨#[c]⟩) M
  | _=>IxD da i M Q
 | .str k=>∃ p kvs d,da=.ref p/\M p=some (.dic kvs)/\lkD kvs k=some d/\Q d M
 | _=>False
theorem ix_at {ds:List D} {j:Int} {d:D} (e:atI ds j=some d) (q:Q d M):IxA (.tup ds) (.int j) M Q:=ix_tl e q
theorem ix_al {l:Addr} {ds:List D} {j:Int} {d:D} (h:M l=some (.lst ds)) (e:atI ds j=some d) (q:Q d M):IxA (.ref l) (.int j) M Q:=ix_ll h e q
theorem ix_ar {l:Addr} {ds:List D} {j:Int} {d:D} (h:M l=some (.ro ds)) (e:atI ds j=some d) (q:Q d M):IxA (.ref l) (.int j) M Q:=ix_rl h e q
theorem ix_as {z:Str} {j:Int} {c:Nat} (h:z.length<=sizeLine) (e:atI z.cps.toList j=some c) (q:Q (.str ⟨#[c]⟩) M):IxA (.str z) (.int j) M Q:=⟨c,h,e,q⟩
theorem ix_dict (hu:X.A.units+1 < cLine):IxR X (fun x y H Q=>∃ a v,x=.ref a/\DGet H a y (some v)/\Q v H):=by
 intro value slice pins s σ H x y v u Q I rx ry h hs
 obtain ⟨a,z,rfl,g,q⟩:=h
 cases rx
 exact tail_any (dict_typeIs I g) PySem.F.slot_dict_getitem.lookup (d_getItem hu I g ry fun w' s3 I3 rw'=>⟨z,H,I3,rw',q⟩) hs
theorem rd_ixA {da db:D} (h:IxA da db M Q):RD X.K (fun x y H Q=>rIx X.K x y H Q\/∃ a v,x=.ref a/\DGet H a y (some v)/\Q v H) da db M Q:=by
 intro H x y kf hx hy m
 unfold IxA at h
 cases db with
 | int i =>
  cases da with
  | str z =>
   obtain ⟨c,h1,h2,q⟩:=h
   rw [is_int] at hy;subst hy
   rw [is_str] at hx;subst hx
   exact .inl (.inr (.inr ⟨z,i,c,rfl,rfl,h1,h2,fun _=>⟨Grow.refl _,_,M,is_str.mpr rfl,m,q⟩⟩))
  | non=>exact h.elim
  | bl _=>exact h.elim
  | int _=>exact h.elim
  | ty _=>exact h.elim
  | tup ds=>exact .inl (rd_ix (X:=X) h H x y kf hx hy m)
  | ref l=>exact .inl (rd_ix (X:=X) h H x y kf hx hy m)
 | str k =>
  obtain ⟨p,kvs,d,rfl,h1,h2,q⟩:=h
  rw [is_ref] at hx;subst hx
  rw [is_str] at hy;subst hy
  obtain ⟨ys,e1,e2⟩:=m p _ h1
  obtain ⟨v,e3,e4⟩:=e2.get h2
  exact .inr ⟨p,v,rfl,by rw [<- e3];exact DGet.k (k:=Sum.inr k) e1,fun _=>⟨Grow.refl _,d,M,e4,m,q⟩⟩
 | non=>exact h.elim
 | bl _=>exact h.elim
 | ty _=>exact h.elim
 | tup _=>exact h.elim
 | ref _=>exact h.elim
theorem l_item (hu:X.A.units+64 < cLine) (h:EV X G M a fun da Ma=>EV X G Ma b fun db Mb=>IxA da db Mb Q) (hs:PlainIx b):EV X G M (.Subscript a b pos) Q :=
 ev_ix (ix_seq.or (ix_dict (by omega))) hs (h.mono fun _ _ h1=>h1.mono fun _ _ q=>rd_ixA q)
def SetL (d1 d2 d:D) (M:MH) (Qm:MH->Prop):Prop:=match d1,d2 with
 | .ref p,.int k=>∃ ds j,M p=some (.lst ds)/\ixN ds.length k=some j/\Qm (mset M p (.lst (ds.set j d)))
 | .ref p,.str k=>∃ kvs,M p=some (.dic kvs)/\kvs.length < sizeLine/\Qm (mset M p (.dic (putD kvs k d)))
 | _,_=>False
theorem set_ll {p:Addr} {k:Int} {d:D} {ds:List D} {j:Nat} {Qm:MH->Prop} (h:M p=some (.lst ds)) (e:ixN ds.length k=some j) (q:Qm (mset M p (.lst (ds.set j d)))):SetL (.ref p) (.int k) d M Qm:=⟨ds,j,h,e,q⟩
theorem SetL.cases {d1 d2 d:D} {Qm:MH->Prop} (h:SetL d1 d2 d M Qm):(∃ p k ds j,d1=.ref p/\d2=.int k/\M p=some (.lst ds)/\ixN ds.length k=some j/\Qm (mset M p (.lst (ds.set j d))))\/∃ p k kvs,d1=.ref p/\d2=.str k/\M p=some (.dic kvs)/\kvs.length < sizeLine/\Qm (mset M p (.dic (putD kvs k d))):=by
 unfold SetL at h
 split at h
 ·obtain ⟨ds,j,h1,h2,h3⟩:=h
  exact .inl ⟨_,_,ds,j,rfl,rfl,h1,h2,h3⟩
 ·obtain ⟨kvs,h1,h2,h3⟩:=h
  exact .inr ⟨_,_,kvs,rfl,rfl,h1,h2,h3⟩
 ·exact h.elim
theorem gv_set {d:D} {Qg:Ga->MH->Prop} (hu:X.A.units+64 < cLine) (h:EV X G M o fun d1 M1=>EV X G M1 i fun d2 M2=>SetL d1 d2 d M2 fun M3=>Qg G M3)
  (ha:∀ v,assign (.Subscript o i pos) X.env v=(do
   let ov <- holding [v] (eval o X.env)
   let iv <- holding [v,ov] (eval i X.env)
   standAt pos
   holding [v,ov,iv] (setItem ov iv v)
   release [v,ov,iv] [])):GV X G M (.Subscript o i pos) d Qg:=by
 intro pins s σ H v u I R r iv
 rw [ha]
 refine wpAny_bind (wpAny_holding (thn (h pins s σ H I R) fun ov s1 ⟨x,H1,d1,M1,I1,r1,g1,i1,R1,q1⟩=>?_))
 refine wpAny_bind (wpAny_holding (thn (q1 pins s1 σ H1 I1 R1) fun iv' s2 ⟨y,H2,d2,M2,I2,r2,g2,i2,R2,q2⟩=>?_))
 rcases SetL.cases q2 with ⟨p,k,ds,j,rfl,rfl,hp,hj,q⟩ | ⟨p,k,kvs,rfl,rfl,hp,hz,q⟩
 ·skip
  rw [is_ref] at i1;subst i1
  rw [is_int] at i2;subst i2
  obtain ⟨xs,hx,hxi⟩:=R2.mem p _ hp
  have nt:∀ ys,H2 p≠some (.tup ys):=fun ys z=>by rw [hx] at z;cases z
  have gu:Grow H2 (upd H2 p (.lst (xs.set j v))):=grow_upd nt
  refine wpAny_bind (wpAny_standAt (wpAny_bind (wpAny_holding (thn (set_list pins s2 σ H2 (.ref p) (.int k) v ov iv' u (fun H'=>H'=upd H2 p (.lst (xs.set j v))) I2 r1 r2 r ⟨p,xs,k,j,rfl,rfl,hx,by rw [<- hxi.len];exact hj,rfl⟩) fun _ s3 ⟨H3,I3,e3⟩=>?_))))
  subst e3
  refine wpAny_release ⟨σ,_,G,_,I3,(g1.trans g2).trans gu,R2.to gu (R2.mem.put (u:=.lst (ds.set j d)) nt ⟨_,upd_same,(hxi.grow gu).set j (Is.grow ((g1.trans g2).trans gu) _ _ iv)⟩),q⟩
 ·skip
  rw [is_ref] at i1;subst i1
  rw [is_str] at i2;subst i2
  obtain ⟨ys,hx,hxi⟩:=R2.mem p _ hp
  cases r1
  have nt:∀ zs,H2 p≠some (.tup zs):=fun zs z=>by rw [hx] at z;cases z
  have gu:Grow H2 (upd H2 p (.dK (putK ys (Sum.inr k) v))):=grow_upd nt
  refine wpAny_bind (wpAny_standAt (wpAny_bind (wpAny_holding (d_setItem (by omega) I2 (DPut.k (k:=Sum.inr k) hx (by rw [<- hxi.len];exact hz)) r2 r fun s3 I3=>?_))))
  refine wpAny_release ⟨σ,_,G,_,I3,(g1.trans g2).trans gu,R2.to gu (R2.mem.put (u:=.dic (putD kvs k d)) nt ⟨_,upd_same,(hxi.grow gu).put (Is.grow ((g1.trans g2).trans gu) _ _ iv)⟩),q⟩
end
end D3
namespace K01
theorem fmod_lt {a b:Int} (hb:0 < b):0<=a.fmod b/\a.fmod b < b:=by
 rw [Int.fmod_eq_emod_of_nonneg a (Int.le_of_lt hb)]
 exact ⟨Int.emod_nonneg _ (by omega),Int.emod_lt_of_pos _ hb⟩
def dv (t b:Int):Int:=if b < 0 then -((Int.gcd t b:Nat):Int) else ((Int.gcd t b:Nat):Int)
def tp (t b:Int):Int:=t.fdiv (dv t b)
theorem log2_lt {n k:Nat} (hk:0 < k) (h:n < 2 ^ k):n.log2 < k:=by
 rcases Nat.eq_zero_or_pos n with h0 | hp
 ·rw [h0,Nat.log2_zero];exact hk
 ·exact (Nat.log2_lt (Nat.ne_of_gt hp)).mpr h
end K01
namespace KA
open PySem PySem.Spec PyProof.Rows L2 D3 K01
def Lim (x:Int):Prop:=x.natAbs < 2 ^ 8000
def Cell (c:Int):Prop:=Builtin.Int.intBits c<=2097152
abbrev fr (t b:Int):D:=.tup [.int t,.int b]
def B (n:Nat) (x:Int):Prop:=x.natAbs < 2 ^ n
theorem bits_le {x:Int} {n:Nat} (h:x.natAbs < 2 ^ n):Builtin.Int.intBits x<=n:=by
 unfold Builtin.Int.intBits
 split
 ·exact Nat.zero_le _
 ·rename_i hx
  have:x.natAbs≠0:=by intro z;apply hx;simp;omega
  have:=(Nat.log2_lt this).mpr h
  omega
theorem mul_ok {x y:Int} {m n:Nat} (hx:Builtin.Int.intBits x<=m) (hy:Builtin.Int.intBits y<=n) (h:m+n<=134217728):IntMulOk x y:=by
 unfold IntMulOk
 intro z
 rw [Bool.and_eq_true] at z
 have z2:=z.2
 unfold Builtin.Int.intTooBig at z2
 rw [bitsLine_eq] at z2
 have:=of_decide_eq_true z2
 omega
theorem Lim.div {x y:Int} (h0:y≠0) (hy:Lim y):CDivB x y:=⟨h0,Nat.lt_trans (log2_lt (by decide) hy) (by decide)⟩
theorem B.mulOk {x y:Int} {m n:Nat} (hx:B m x) (hy:B n y) (h:m+n<=134217728):IntMulOk x y:=mul_ok (bits_le hx) (bits_le hy) h
theorem B.mul {x y:Int} {m n:Nat} (hx:B m x) (hy:B n y):B (m+n) (x * y):=by
 unfold B
 rw [Int.natAbs_mul,Nat.pow_add]
 exact Nat.mul_lt_mul'' hx hy
theorem B.up {x:Int} {m n:Nat} (h:m<=n) (hx:B m x):B n x:=Nat.lt_of_lt_of_le hx (Nat.pow_le_pow_right (by decide) h)
theorem B.add {x y:Int} {m:Nat} (hx:B m x) (hy:B m y):B (m+1) (x+y):=by
 unfold B at *
 rw [Nat.pow_succ]
 have:=Int.natAbs_add_le x y
 omega
theorem B.lim {x:Int} {m:Nat} (hx:B m x) (h:m<=8000):Lim x:=B.up (n:=8000) h hx
theorem abs_eq (a:Int):(if a < 0 then -a else a)=(a.natAbs:Int):=by split<;>omega
theorem kit_tt (K:PySem.W.Frag):PySem.W.kitOne K (.type "tuple") (.type "tuple")=some true:=rfl
theorem small {n:Nat} (h:n<=1000):n<=sizeLine:=Nat.le_of_lt (small1000 h)
theorem Ext.refl (M:MH):Ext M M:=fun _ _ h=>h
theorem Ext.trans {M M1 M2:MH} (a:Ext M M1) (b:Ext M1 M2):Ext M M2:=fun x o h=>b x o (a x o h)
def At (K:PySem.W.Frag) (x:Str) (st:Stmt):Prop:=∃ (f:Addr) (od an:Option Addr) (sl:Array (Option Value)) (oc kV dc pm cd ct:Value),PySem.W.nsIn K mainGlobals x=some (some (.ref f))/\K.lookup f=some ⟨oc,od,.func (PySem.W.fnOf x x (defArgs st) (defBody st) (defScope st) .none kV dc pm an cd ct),sl⟩/\PySem.W.codeIn K cd x=true/\PySem.W.keepIn K (.ref f)=true
theorem At.mk {K:PySem.W.Frag} {x:Str} {st:Stmt} {f:Addr} {od an:Option Addr} {sl:Array (Option Value)} {oc kV dc pm cd ct:Value} (a:PySem.W.nsIn K mainGlobals x=some (some (.ref f))) (l:K.lookup f=some ⟨oc,od,.func (PySem.W.fnOf x x (defArgs st) (defBody st) (defScope st) .none kV dc pm an cd ct),sl⟩)
  (c:PySem.W.codeIn K cd x=true) (k:PySem.W.keepIn K (.ref f)=true):At K x st:=⟨f,od,an,sl,oc,kV,dc,pm,cd,ct,a,l,c,k⟩
theorem At.get {K:PySem.W.Frag} {x:Str} {st:Stmt} {h:Heap} {mg:Str->Option Value} (A:At K x st) (X:K.In h) (G:h.Ns mainGlobals mg):∃ f fd,Fun K x x st f fd/\mg x=some (.ref f):=by
 obtain ⟨f,od,an,sl,oc,kV,dc,pm,cd,ct,a,l,c,k⟩:=A
 exact ⟨f,_,fun_mk (st:=st) l c k,PySem.W.mg_of X G a⟩
theorem dvd_cop {y x b:Int} (h:y ∣ x * b) (g:Int.gcd x y=1):y ∣ b:=by
 have h1:y.natAbs ∣ x.natAbs * b.natAbs:=by rw [<- Int.natAbs_mul];exact Int.natAbs_dvd_natAbs.mpr h
 have h2:Nat.Coprime y.natAbs x.natAbs:=by
  show Nat.gcd _ _=1
  rw [Nat.gcd_comm];exact g
 exact Int.natAbs_dvd_natAbs.mp (h2.dvd_of_dvd_mul_left h1)
theorem lowest {x y a b:Int} (hy:0 < y) (hb:0 < b) (h1:Int.gcd x y=1) (h2:Int.gcd a b=1) (h:x * b=a * y):x=a/\y=b:=by
 have d1:y ∣ b:=by
  have:y ∣ x * b:=by rw [h];exact Int.dvd_mul_left _ _
  exact dvd_cop this h1
 have d2:b ∣ y:=by
  have:b ∣ a * y:=by rw [<- h];exact Int.dvd_mul_left _ _
  exact dvd_cop this h2
 have e:y=b:=Int.le_antisymm (Int.le_of_dvd hb d1) (Int.le_of_dvd hy d2)
 subst e
 exact ⟨Int.eq_of_mul_eq_mul_right (by omega) h,rfl⟩
end KA
namespace KA
open PySem PySem.Spec PyProof.Rows L2 D3 K01
class Bd (x:Int) (n:outParam Nat):Prop where
 h:x.natAbs < 2 ^ n
theorem Bd.b {x:Int} {n:Nat} (i:Bd x n):B n x:=i.h
instance bd_mul {x y:Int} {m n:Nat} [i:Bd x m] [j:Bd y n] : Bd (x * y) (m+n):=⟨B.mul i.h j.h⟩
instance bd_add {x y:Int} {m n:Nat} [i:Bd x m] [j:Bd y n] : Bd (x+y) (max m n+1):=⟨B.add (B.up (Nat.le_max_left ..) i.h) (B.up (Nat.le_max_right ..) j.h)⟩
instance (priority:=low) bd_any {x:Int}:Bd x (x.natAbs.log2+1):=⟨Nat.lt_log2_self⟩
theorem fdiv_abs (x y:Int):(x.fdiv y).natAbs<=x.natAbs:=Int.natAbs_fdiv_le_natAbs x y
instance bd_fdiv {x y:Int} {m:Nat} [i:Bd x m] : Bd (x.fdiv y) m:=⟨Nat.lt_of_le_of_lt (fdiv_abs x y) i.h⟩
theorem mulOk {x y:Int} {m n:Nat} [i:Bd x m] [j:Bd y n] (h:m+n<=134217728:=by first | decide +kernel | omega):IntMulOk x y:=B.mulOk i.h j.h h
theorem lim {x:Int} {m:Nat} [i:Bd x m] (h:m<=8000:=by first | decide +kernel | omega):Lim x:=B.lim i.h h
theorem divOk {x y:Int} {m:Nat} [i:Bd y m] (h0:y≠0) (h:m<=8000:=by first | decide +kernel | omega):CDivB x y:=Lim.div h0 (lim h)
theorem Bd.up' {x:Int} {m n:Nat} (i:Bd x m) (h:m<=n):Bd x n:=⟨B.up h i.h⟩
theorem Bd.rng {x:Int} {n:Nat} (h1:-((2:Int) ^ n) < x) (h2:x < 2 ^ n):Bd x n:=⟨by
 have e:((2 ^ n:Nat):Int)=(2:Int) ^ n:=by rw [Int.natCast_pow];rfl
 rw [<- e] at h1 h2
 omega⟩
theorem Cell.bd {c:Int} (h:Cell c):Bd c 2097152:=⟨by
 have h:Builtin.Int.intBits c<=2097152:=h
 by_cases z:c.natAbs=0
 ·rw [z];exact Nat.pow_pos (by decide)
 ·have e:Builtin.Int.intBits c=c.natAbs.log2+1:=by
   unfold Builtin.Int.intBits
   rw [if_neg (by simp;omega)]
  rw [e] at h
  exact Nat.lt_of_lt_of_le Nat.lt_log2_self (Nat.pow_le_pow_right (by decide) h)⟩
theorem Cell.of {c:Int} {n:Nat} [i:Bd c n] (h:n<=2097152:=by first | decide +kernel | omega):Cell c:=Nat.le_trans (bits_le i.h) h
def Kp (S:List Addr) (M M':MH):Prop:=∀ b o,b∉S->M b=some o->M' b=some o
theorem Kp.refl (S:List Addr) (M:MH):Kp S M M:=fun _ _ _ h=>h
theorem Kp.trans {S:List Addr} {M M1 M2:MH} (a:Kp S M M1) (b:Kp S M1 M2):Kp S M M2:=fun x o h e=>b x o h (a x o h e)
theorem Kp.mono {S S':List Addr} {M M1:MH} (h:∀ x∈S,x∈S') (a:Kp S M M1):Kp S' M M1:=fun x o n e=>a x o (fun z=>n (h x z)) e
theorem Kp.ext {S:List Addr} {M M1:MH} (a:Ext M M1):Kp S M M1:=fun x o _ e=>a x o e
theorem Kp.new {S:List Addr} {M:MH} {p:Addr} {o:MO} (h:M p=none):Kp S M (mset M p o):=Kp.ext (ext_new h)
theorem Kp.put {S:List Addr} {M:MH} {p:Addr} {o:MO} (h:p∈S):Kp S M (mset M p o):=fun x u n e=>by
 have hx:x≠p:=by intro z;subst z;exact n h
 rw [mset_ne hx];exact e
theorem Kp.at {S:List Addr} {M M':MH} {b:Addr} {o:MO} (a:Kp S M M') (e:M b=some o) (n:b∉S):M' b=some o:=a b o n e
theorem ne_fresh {M:MH} {p q:Addr} {o:MO} (h:M q=some o) (n:M p=none):q≠p:=fun z=>by rw [z,n] at h;cases h
def Pu (M:MH) (p:Addr):Prop:=∃ a b:Int,M p=some (.lst [.int a,.int b])/\0<=a/\0<=b
theorem Pu.kp {S:List Addr} {M M':MH} {p:Addr} (h:Pu M p) (k:Kp S M M') (n:p∉S):Pu M' p:=let ⟨a,b,e,ha,hb⟩:=h;⟨a,b,k p _ n e,ha,hb⟩
theorem Pu.ext {M M':MH} {p:Addr} (h:Pu M p) (k:Ext M M'):Pu M' p:=let ⟨a,b,e,ha,hb⟩:=h;⟨a,b,k p _ e,ha,hb⟩
theorem Pu.some {M:MH} {p:Addr} (h:Pu M p):∃ o,M p=.some o:=let ⟨_,_,e,_⟩:=h;⟨_,e⟩
theorem Pu.ne {M:MH} {p q:Addr} (h:Pu M p) (n:M q=none):p≠q:=let ⟨_,e⟩:=h.some;ne_fresh e n
def spPurse:SpD:=fun ds M Q=>∃ c:Int,ds=[.int c]/\Cell c/\∀ p M',M p=none->Pu M' p->Ext M M'->Q (.ref p) M'
def spTake:SpD:=fun ds M Q=>∃ (p:Addr) (m:Int),ds=[.ref p,.int m]/\Pu M p/\0 < m/\Lim m/\∀ (r:Int) M',0<=r->r < m->Pu M' p->Kp [p] M M'->Q (.int r) M'
theorem cut_mid (ns:List Int) (j k:Nat):D3.cutD (ns.map D.int) (some (j:Int)) (some (k:Int))=((ns.take k).drop j).map D.int:=by
 unfold D3.cutD
 rw [HT.sIx_nat,HT.sIx_nat,List.length_map,List.map_drop,List.map_take,List.drop_take]
 by_cases h:k<=ns.length
 ·rw [Nat.min_eq_left h]
  by_cases hj:j<=ns.length
  ·rw [Nat.min_eq_left hj]
  ·rw [Nat.min_eq_right (by omega),List.drop_of_length_le (by simp),List.drop_of_length_le (by simp;omega),List.take_nil,List.take_nil]
 ·rw [Nat.min_eq_right (by omega)]
  by_cases hj:j<=ns.length
  ·rw [Nat.min_eq_left hj,List.take_of_length_le (by simp),List.take_of_length_le (by simp;omega)]
  ·rw [Nat.min_eq_right (by omega),List.drop_of_length_le (by simp),List.drop_of_length_le (by simp;omega),List.take_nil,List.take_nil]
end KA
namespace D3
open PySem PySem.Spec PyProof.Rows L2
section
variable {X:Cx} {G:Ga} {M:MH} {a b c e o i:Expr} {es rest:List Expr} {pos:Pos} {Q:DK} {Qb:Bool->MH->Prop}
def InL (da db:D) (M:MH) (Qb:Bool->MH->Prop):Prop:=match da,db with
 | .str k,.ref p=>(∃ kvs,M p=some (.dic kvs)/\Qb (lkD kvs k).isSome M)\/(∃ ss:List Str,M p=some (.lst (ss.map D.str))/\Qb (decide (k∈ss)) M)
 | .str k,.tup ds=>∃ ss:List Str,ds=ss.map D.str/\Qb (decide (k∈ss)) M
 | _,_=>False
theorem in_t {k:Str} {ss:List Str} (q:Qb (decide (k∈ss)) M):InL (.str k) (.tup (ss.map D.str)) M Qb:=⟨ss,rfl,q⟩
theorem isl_strs {H:Hp}:∀ {ss:List Str} {vs:List V},IsL H (ss.map D.str) vs->vs=ss.map V.str
 | [],vs,h=>by rw [List.map_nil,isl_nil] at h;exact h
 | s :: r,vs,h=>by
  rw [List.map_cons,isl_cons] at h
  obtain ⟨x,t,rfl,h1,h2⟩:=h
  rw [is_str] at h1;subst h1
  rw [isl_strs h2];rfl
theorem inV_strs (k:Str):∀ ss:List Str,inV (.str k) (ss.map V.str)=decide (k∈ss)
 | []=>by simp [inV]
 | s :: r=>by
  have ih:=inV_strs k r
  unfold inV at ih ⊢
  rw [List.map_cons,List.any_cons,ih]
  show ((s == k) || _)=_
  by_cases h:s=k
  ·subst h;simp
  ·have:¬ k=s:=fun z=>h z.symm
   simp [h,this]
theorem flat_strs (ss:List Str):(ss.map V.str).all flatV=true:=by
 induction ss with
 | nil=>rfl
 | cons s r ih=>rw [List.map_cons,List.all_cons,ih];rfl
theorem op_dIn (hu:X.A.units+1 < cLine):OpR X (compareOp .In) (fun x y H Q=>∃ a o,y=.ref a/\DGet H a x o/\Q (.bl o.isSome) H):=by
 intro pins s σ H x y v u Q I rx ry h
 obtain ⟨a,o,rfl,g,q⟩:=h
 cases ry
 exact d_in hu I g rx fun s' I'=>⟨.bl _,H,I',rfl,q⟩
theorem rd_in (neg:Bool) {da db:D} (h:InL da db M fun k M'=>Q (.bl (if neg then !k else k)) M'):RD X.K (fun x y H Q=>rIn X.K neg x y H Q\/∃ a o,y=.ref a/\DGet H a x o/\Q (.bl (if neg then !o.isSome else o.isSome)) H) da db M Q:=by
 intro H x y kf hx hy m
 unfold InL at h
 split at h
 ·rename_i k p
  rw [is_str] at hx;subst hx
  rw [is_ref] at hy;subst hy
  rcases h with ⟨kvs,h1,q⟩ | ⟨ss,h1,q⟩
  ·obtain ⟨ys,e1,e2⟩:=m p _ h1
   refine .inr ⟨p,_,rfl,DGet.k (k:=Sum.inr k) e1,fun _=>⟨Grow.refl _,_,M,is_bl.mpr rfl,m,?_⟩⟩
   rw [e2.some_eq];exact q
  ·obtain ⟨ys,e1,e2⟩:=m p _ h1
   have e3:=isl_strs e2;subst e3
   refine .inl ⟨p,_,rfl,.inl (SqL.of e1),rfl,flat_strs ss,fun _=>⟨Grow.refl _,_,M,is_bl.mpr rfl,m,?_⟩⟩
   rw [inV_strs];exact q
 ·rename_i k ds
  obtain ⟨ss,rfl,q⟩:=h
  rw [is_str] at hx;subst hx
  rw [is_tup] at hy
  obtain ⟨p,xs,rfl,e1,e2⟩:=hy
  have e3:=isl_strs e2;subst e3
  refine .inl ⟨p,_,rfl,.inr (SqT.of e1),rfl,flat_strs ss,fun _=>⟨Grow.refl _,_,M,is_bl.mpr rfl,m,?_⟩⟩
  rw [inV_strs];exact q
 ·exact h.elim
theorem l_in (hu:X.A.units+64 < cLine) (h:EV X G M a fun da Ma=>EV X G Ma b fun db Mb=>InL da db Mb fun k M'=>Q (.bl k) M') (hm:behindInMarks .In b=false):EV X G M (.Compare a [.In] [b] pos) Q :=
 ev_cmp (op_in_seq.or (op_dIn (by omega))) hm (h.mono fun _ _ h1=>h1.mono fun _ _ q=>rd_in false q)
theorem InL.mono {da db:D} {Qc:Bool->MH->Prop} (h:InL da db M Qb) (k:∀ b,Qb b M->Qc b M):InL da db M Qc:=by
 unfold InL at h ⊢
 split at h
 ·rcases h with ⟨x,y,z⟩ | ⟨x,y,z⟩
  ·exact .inl ⟨x,y,k _ z⟩
  ·exact .inr ⟨x,y,k _ z⟩
 ·obtain ⟨x,y,z⟩:=h;exact ⟨x,y,k _ z⟩
 ·exact h
theorem lt_in (hu:X.A.units+64 < cLine) (h:EV X G M a fun da Ma=>EV X G Ma b fun db Mb=>InL da db Mb Qb) (hm:behindInMarks .In b=false):TV X G M (.Compare a [.In] [b] pos) Qb :=
 tv_cmp (op_in_seq.or (op_dIn (by omega))) hm (h.mono fun _ _ h1=>h1.mono fun _ _ q=>rd_in false (InL.mono q fun k q=>⟨k,rfl,q⟩))
theorem bootSorted:bootBuiltins "sorted" = some (.builtin "sorted"):=by decide +kernel
theorem tyL {K:PySem.W.Frag} {H:Hp} {p:Addr} {xs:List V} (h:H p=some (.lst xs)):tyV K "list" (.ref p) H:=.inl ⟨rfl,xs,SqL.of h⟩
theorem ev_append {apos cpos:Pos} (h:EV X G M o fun d M1=>∃ p,d=.ref p/\(∃ ds,M1 p=some (.lst ds))/\EV X G M1 e fun d2 M2=>∃ ds,M2 p=some (.lst ds)/\ds.length < sizeLine/\Q .non (mset M2 p (.lst (ds++[d2]))))
  (hbase:attributeBase o "append" X.env (eval o X.env)=eval o X.env)
  (hfew:((backTo cpos (starEach [e] X.env)).all (fun x=>!x.1) && (backToKw cpos (keywordEach [] X.env)).all (fun x=>x.1.isSome) && decide (([e] : List Expr).length+([] : List Keyword).length+(if ([] : List Keyword).isEmpty then 0 else 1) < 30))=true)
  (hline:(apos.endLine == cpos.line)=true) (hs:starEach [e] X.env=(false,eval e X.env) :: starEach [] X.env) (hplain:(backTo cpos (starEach ([] : List Expr) X.env)).any (·.1)=false) :
  EV X G M (.Call (.Attribute o "append" apos) [e] [] cpos) Q:=by
 refine EV.of (pe_bm PySem.F.plainAttrs_list PySem.F.slot_list_append PySem.F.type_list_append mt_append (pe_D (G:=G)) (pa_D (G:=G) (es:=[e])) hbase hfew hline hs hplain) fun σ H kf R=>?_
 refine ⟨M,_,R,h,fun v H' d M' kf' g i R' q=>?_⟩
 obtain ⟨p,rfl,⟨ds,hds⟩,q⟩:=q
 rw [is_ref] at i;subst i
 obtain ⟨xs,hx,_⟩:=R'.mem p _ hds
 refine ⟨tyL hx,M',fun ds2 M2=>∃ d2,ds2=[d2]/\∃ ds,M2 p=some (.lst ds)/\ds.length < sizeLine/\Q .non (mset M2 p (.lst (ds++[d2]))),R',av_cons (q.mono fun d2 M2 q2=>av_nil ⟨d2,rfl,q2⟩) hs,fun vs H2 ds2 M2 kf2 g2 i2 R2 q2=>?_⟩
 obtain ⟨d2,rfl,ds,hp,hz,q2⟩:=q2
 obtain ⟨v2,rfl,hv2⟩:=isl1 i2
 obtain ⟨xs,hx,hxi⟩:=R2.mem p _ hp
 have nt:∀ ys,H2 p≠some (.tup ys):=fun ys z=>by rw [hx] at z;cases z
 have gu:Grow H2 (upd H2 p (.lst (xs++[v2]))):=grow_upd nt
 exact ⟨p,xs,v2,rfl,rfl,hx,by rw [<- hxi.len];exact hz,fun _=>⟨(g.trans g2).trans gu,.non,_,is_non.mpr rfl,R2.mem.put (u:=.lst (ds++[d2])) nt ⟨_,upd_same,(hxi.grow gu).app (isl_cons.mpr ⟨v2,[],rfl,Is.grow gu _ _ hv2,isl_nil.mpr rfl⟩)⟩,q2⟩⟩
theorem ev_tupleC {p:Pos} (hm:X.mg "tuple" = none) (h:AV X G M [e] fun ds M1=>∃ d,ds=[d]/\match d with
   | .ref q=>∃ es,M1 q=some (.lst es)/\Q (.tup es) M1
   | .tup es=>Q (.tup es) M1
   | _=>False) (hg:Gl X "tuple") (he:starEach [e] X.env=(false,eval e X.env) :: starEach [] X.env) (hpl:(backTo pos (starEach ([] : List Expr) X.env)).any (·.1)=false) :
  EV X G M (.Call (.Name "tuple" p) [e] [] pos) Q :=
 ev_callTy call_tuple_of hm bootTuple (h.mono fun ds M1 ⟨d,e1,q⟩=>fun H xs kf hx m=>by
  subst e1
  obtain ⟨v,rfl,hv⟩:=isl1 hx
  cases d with
  | ref a =>
   obtain ⟨es,ha,q⟩:=q
   rw [is_ref] at hv;subst hv
   obtain ⟨ys,e1,e2⟩:=m a _ ha
   exact ⟨a,ys,rfl,.inl ⟨SqL.of e1,fun p hp kf'=>⟨grow_new hp,.tup es,M1,is_tup.mpr ⟨p,ys,rfl,upd_same,e2.grow (grow_new hp)⟩,m.new hp,q⟩⟩⟩
  | tup es =>
   have hv':=hv
   rw [is_tup] at hv
   obtain ⟨a,ys,rfl,e1,e2⟩:=hv
   exact ⟨a,ys,rfl,.inr ⟨SqT.of e1,fun _=>⟨Grow.refl _,.tup es,M1,hv',m,q⟩⟩⟩
  | non=>exact q.elim
  | bl _=>exact q.elim
  | int _=>exact q.elim
  | str _=>exact q.elim
  | ty _=>exact q.elim) hg (by decide) (by decide) he hpl
theorem IsL.strs {H:Hp}:∀ {ss:List Str},IsL H (ss.map D.str) (ss.map V.str)
 | []=>isl_nil.mpr rfl
 | s :: r=>isl_cons.mpr ⟨.str s,r.map V.str,rfl,is_str.mpr rfl,IsL.strs⟩
theorem strs_of_vals:∀ {ss:List Str} {us:List Value},Vals (ss.map V.str) us->StrsAre us ss
 | [],us,r=>by cases r;exact .nil
 | s :: r,us,h=>by
  cases h with
  | cons h1 h2 =>
   obtain ⟨t,rfl⟩:=h1
   exact .cons s t (strs_of_vals h2)
theorem vals_of_strs:∀ {ss:List Str} {us:List Value},StrsAre us ss->Vals (ss.map V.str) us
 | _,_,.nil=>.nil
 | _,_,.cons y t r=>.cons ⟨t,rfl⟩ (vals_of_strs r)
theorem call_sortedS:CallR X (.builtin "sorted") (fun xs H Q=>∃ (a:Addr) (ss:List Str),xs=[.ref a]/\H a=some (.lst (ss.map V.str))/\ss.length < 64/\∀ p ss',H p=none->ss'.Perm ss->PyProof.Rows.sortedS ss'=true->Q (.ref p) (upd H p (.lst (ss'.map V.str)))):=by
 intro pins s σ H xs us Q I r h
 obtain ⟨a,ss,rfl,e,h64,q⟩:=h
 obtain ⟨u,rfl,ru⟩:=vals1 r
 cases ru
 obtain ⟨z,its,n,rv,hl,eo⟩:=I.lstM e
 have hl2:its.length=ss.length:=by rw [<- hl,List.length_map]
 refine sorted_strs (l:=a) (vs:=its) ⟨_,eo,rfl,n,rfl⟩ (strs_of_vals rv) (by omega) fun out ss' h1 h2 h3=>?_
 obtain ⟨en,he⟩:=sortedAll_at s.heap its out
 have hf:H (s.heap.objs.size+1)=none:=I.hok.fresh (Nat.le_succ _)
 refine ⟨.ref (s.heap.objs.size+1),_,I.laid (a:=s.heap.objs.size+1) (o:=.lst (ss'.map V.str)) (t':=s.toks) (fun b ob hb=>sortedAll_old hb) (Nat.le_succ _) ⟨?_,out.toList,en,vals_of_strs h1,?_⟩,rfl,q _ ss' hf h2 h3⟩
 ·rw [List.length_map,h2.length_eq];rw [List.length_map] at z;exact z
 ·rw [he]
theorem ev_sortedS {p:Pos} (hm:X.mg "sorted" = none) (h:AV X G M [e] fun ds M1=>∃ (q:Addr) (ss:List Str),ds=[.ref q]/\M1 q=some (.lst (ss.map D.str))/\ss.length < 64/\∀ r ss',M1 r=none->ss'.Perm ss->PyProof.Rows.sortedS ss'=true->Q (.ref r) (mset M1 r (.lst (ss'.map D.str)))) (hg:Gl X "sorted") (he:starEach [e] X.env=(false,eval e X.env) :: starEach [] X.env) (hpl:(backTo pos (starEach ([] : List Expr) X.env)).any (·.1)=false) :
  EV X G M (.Call (.Name "sorted" p) [e] [] pos) Q :=
 ev_callB call_sortedS hm bootSorted (h.mono fun ds M1 ⟨a,ss,e1,ha,h64,q⟩=>fun H xs kf hx m=>by
  subst e1
  obtain ⟨v,rfl,hv⟩:=isl1 hx
  rw [is_ref] at hv;subst hv
  obtain ⟨ys,e1,e2⟩:=m a _ ha
  have e3:=isl_strs e2;subst e3
  refine ⟨a,ss,rfl,e1,h64,fun p ss' hp h1 h2 kf'=>⟨grow_new hp,.ref p,mset M1 p (.lst (ss'.map D.str)),is_ref.mpr rfl,m.lay hp ⟨_,upd_same,?_⟩,q p ss' (m.fresh hp kf') h1 h2⟩⟩
  exact IsL.strs) hg (by decide) (by decide) he hpl
end
end D3
namespace D3
open PySem PySem.Spec PyProof.Rows L2
def clOf (env:Env):List (Str × NameKind)->List (Str × Addr)->List (Str × Addr)
 | [],acc=>acc
 | (n,k) :: r,acc=>clOf env r (if k == .free then (n,(env.cells.lookup n).getD 0) :: acc else acc)
theorem closure_loop (env:Env):∀ (names:List (Str × NameKind)) (acc:List (Str × Addr)),(∀ x∈names,x.2=.free->(env.cells.lookup x.1).isSome=true) ->
  (forIn names acc fun (x:Str × NameKind) (r:List (Str × Addr))=>(match x with
   | (name,kind)=>if (kind == NameKind.free)=true then do let c <- cellOf env name;pure (ForInStep.yield ((name,c) :: r)) else pure (ForInStep.yield r):Sem (ForInStep (List (Str × Addr)))))=pure (clOf env names acc)
 | [],acc,_=>rfl
 | (n,k) :: r,acc,h=>by
  rw [List.forIn_cons]
  have ih:=fun acc'=>closure_loop env r acc' fun x hx=>h x (List.mem_cons_of_mem _ hx)
  unfold clOf
  by_cases e:(k == NameKind.free)=true
  ·have hc:=h (n,k) (List.mem_cons_self ..) (by simpa using e)
   obtain ⟨c,hc⟩:=Option.isSome_iff_exists.mp hc
   have hc:env.cells.lookup n=some c:=hc
   rw [if_pos e,hc]
   have:cellOf env n=pure c:=by unfold cellOf;rw [hc]
   simp only [e,if_true,this]
   exact ih _
  ·rw [if_neg e]
   simp only [e,if_false]
   exact ih _
theorem closureFor_of {scope:Scope} {env:Env} (h:∀ x∈scope.names,x.2=.free->(env.cells.lookup x.1).isSome=true):closureFor scope env=pure (clOf env scope.names []):=by
 have:=closure_loop env scope.names [] h
 simp only [closureFor]
 simpa using this
theorem clOf_sub (env:Env) (x:Str) (c:Addr):∀ (names:List (Str × NameKind)) (acc:List (Str × Addr)),(∀ y∈names,y.2=.free->(env.cells.lookup y.1).isSome=true)->(∀ c,acc.lookup x=some c->env.cells.lookup x=some c)->(clOf env names acc).lookup x=some c->env.cells.lookup x=some c
 | [],acc,_,ha,h=>ha c h
 | (n,k) :: r,acc,hn,ha,h=>by
  unfold clOf at h
  refine clOf_sub env x c r _ (fun y hy=>hn y (List.mem_cons_of_mem _ hy)) (fun c' hc'=>?_) h
  by_cases e:(k == NameKind.free)=true
  ·rw [if_pos e,List.lookup_cons] at hc'
   by_cases hx:(x == n)=true
   ·rw [hx] at hc'
    have hx':x=n:=by simpa using hx
    subst hx'
    obtain ⟨d,hd⟩:=Option.isSome_iff_exists.mp (hn (x,k) (List.mem_cons_self ..) (by simpa using e))
    have hd:env.cells.lookup x=some d:=hd
    rw [hd] at hc' ⊢
    simpa using hc'
   ·have hx:(x == n)=false:=by simpa using hx
    rw [hx] at hc'
    exact ha c' hc'
  ·rw [if_neg e] at hc'
   exact ha c' hc'
theorem clOf_has (env:Env) (x:Str):∀ (names:List (Str × NameKind)) (acc:List (Str × Addr)),((x,NameKind.free)∈names\/(acc.lookup x).isSome=true)->((clOf env names acc).lookup x).isSome=true
 | [],acc,h=>by rcases h with h | h;cases h;exact h
 | (n,k) :: r,acc,h=>by
  unfold clOf
  refine clOf_has env x r _ ?_
  rcases h with h | h
  ·rcases List.mem_cons.mp h with h | h
   ·cases h
    refine .inr ?_
    rw [if_pos (show (NameKind.free == NameKind.free)=true from rfl),List.lookup_cons,beq_self_eq_true];rfl
   ·exact .inl h
  ·refine .inr ?_
   split
   ·rw [List.lookup_cons]
    cases x == n
    ·exact h
    ·rfl
   ·exact h
theorem mem_of_lookup' {α β:Type} [BEq α] [LawfulBEq α] {k:α} {v:β}:∀ {l:List (α × β)},l.lookup k=some v->(k,v)∈l
 | [],h=>by cases h
 | (a,b) :: r,h=>by
  rw [List.lookup_cons] at h
  cases e:k == a with
  | true =>
   rw [e] at h
   have:k=a:=by simpa using e
   subst this
   cases h
   exact List.mem_cons_self ..
  | false=>rw [e] at h;exact List.mem_cons_of_mem _ (mem_of_lookup' h)
section
variable {X:Cx} {G:Ga} {M:MH} {elt tg iter e:Expr} {ifs:List Expr} {scope:Scope} {pos:Pos} {Q:DK} {own:List Str} {js:List Nat} {N:List Str}
theorem compOk_free {fs:List Str} (hk:scope.kind=.function) (hn:∀ x∈scope.names,x.2=.local->scope.names.lookup x.1=some .local) (hcell:∀ x∈scope.names,x.2≠.cell)
  (hf:∀ x∈scope.names,x.2=.free->(X.env.cells.lookup x.1).isSome=true)
  (hN:N=own++fs) (hl:fs.length=js.length) (hj:∀ (k j:Nat),js[k]?=some j->∃ x,fs[k]?=some x/\X.N[j]?=some x/\X.env.kindOf x=some .cell/\X.env.scope.names.lookup x=some .cell/\scope.names.lookup x=some .free)
  (hfun:X.env.scope.kind=.function):CompOk X own js N scope (clOf X.env scope.names []):=by
 refine ⟨closureFor_of hf,hk,hn,hcell,fun x c e=>clOf_sub X.env x c scope.names [] hf (fun c z=>by cases z) e,fun x h=>?_,fun k j e=>?_,by rw [hN,List.length_append,hl]⟩
 ·refine Option.isSome_iff_exists.mp (clOf_has X.env x scope.names [] (.inl ?_))
  have:∃ k,(x,k)∈(relabel scope X.env).names/\(k=.cell\/k=.free):=by
   rcases h with h | h
   ·exact ⟨_,mem_of_lookup' h,.inl rfl⟩
   ·exact ⟨_,mem_of_lookup' h,.inr rfl⟩
  obtain ⟨k,hm,hk⟩:=this
  unfold relabel at hm
  obtain ⟨⟨n,q⟩,hq,he⟩:=List.mem_map.mp hm
  have he:(if (q == NameKind.free && X.env.scope.kind == .function && X.env.kindOf n == some .cell)=true then (n,NameKind.cell) else (n,q))=(x,k):=he
  split at he
  ·rename_i hc
   injection he with e1 e2
   subst e1
   have:q=.free:=by
    rw [Bool.and_eq_true,Bool.and_eq_true] at hc
    simpa using hc.1.1
   rw [this] at hq;exact hq
  ·injection he with e1 e2
   subst e1;subst e2
   rcases hk with hk | hk
   ·exact absurd hk (hcell _ hq)
   ·rw [hk] at hq;exact hq
 ·obtain ⟨x,h1,h2,h3,h4,h5⟩:=hj k j e
  refine ⟨x,?_,h2,.inr (.inl h4),fun m h u lk=>?_,?_⟩
  ·rw [hN,List.getElem?_append_right (by omega),show own.length+k - own.length=k by omega];exact h1
  ·rcases lk with ⟨z,_⟩ | ⟨_,c,hc,hi⟩
   ·rw [h3] at z;cases z
   ·obtain ⟨c',hc'⟩:=Option.isSome_iff_exists.mp (clOf_has X.env x scope.names [] (.inl (mem_of_lookup' h5)))
    have:=clOf_sub X.env x c' scope.names [] hf (fun c z=>by cases z) hc'
    rw [hc] at this;cases this
    exact ⟨c,hc',hi⟩
  ·refine .inl ?_
   have:∀ names:List (Str × NameKind),names.lookup x=some .free->(names.map fun (y:Str × NameKind)=>match y with | (n,k)=>if (k == NameKind.free && X.env.scope.kind == .function && X.env.kindOf n == some .cell)=true then (n,NameKind.cell) else (n,k)).lookup x=some .cell:=by
    intro names hl
    induction names with
    | nil=>cases hl
    | cons y r ih =>
     obtain ⟨n,q⟩:=y
     rw [List.lookup_cons] at hl
     rw [List.map_cons]
     cases en:x == n with
     | true =>
      rw [en] at hl
      have hx:x=n:=by simpa using en
      subst hx
      injection hl with hl
      subst hl
      have hc:(NameKind.free == NameKind.free && X.env.scope.kind == .function && X.env.kindOf x == some .cell)=true:=by rw [hfun,h3];rfl
      simp only [hc,if_true]
      rw [List.lookup_cons,beq_self_eq_true]
     | false =>
      rw [en] at hl
      have ih:=ih hl
      simp only
      split
      ·rw [List.lookup_cons,en];exact ih
      ·rw [List.lookup_cons,en];exact ih
   exact this scope.names h5
theorem compOk_freeB {fs:List Str} (hk:scope.kind=.function) (hnB:(scope.names.all fun x=>!(x.2 == .local) || scope.names.lookup x.1 == some .local)=true) (hcB:(scope.names.all fun x=>!(x.2 == .cell))=true)
  (hfB:(scope.names.all fun x=>!(x.2 == .free) || (X.env.cells.lookup x.1).isSome)=true)
  (hN:N=own++fs) (hl:fs.length=js.length) (hjB:((fs.zip js).all fun y=>(X.N[y.2]? == some y.1) && (X.env.kindOf y.1 == some .cell) && (X.env.scope.names.lookup y.1 == some .cell) && (scope.names.lookup y.1 == some .free))=true)
  (hfun:X.env.scope.kind=.function):CompOk X own js N scope (clOf X.env scope.names []):=by
 refine compOk_free (fs:=fs) hk (fun x hx e=>?_) (fun x hx e=>?_) (fun x hx e=>?_) hN hl (fun k j e=>?_) hfun
 ·have:=List.all_eq_true.mp hnB x hx
  rw [e] at this
  simpa using this
 ·have:=List.all_eq_true.mp hcB x hx
  rw [e] at this
  cases this
 ·have:=List.all_eq_true.mp hfB x hx
  rw [e] at this
  simpa using this
 ·have hkl:k < fs.length:=by rw [hl];exact (List.getElem?_eq_some_iff.mp e).1
  have hz:(fs.zip js)[k]?=some (fs[k],j):=by
   rw [List.getElem?_zip_eq_some]
   exact ⟨List.getElem?_eq_getElem hkl,e⟩
  have:=List.all_eq_true.mp hjB _ (List.mem_of_getElem? hz)
  rw [Bool.and_eq_true,Bool.and_eq_true,Bool.and_eq_true] at this
  obtain ⟨⟨⟨h1,h2⟩,h3⟩,h4⟩:=this
  exact ⟨fs[k],List.getElem?_eq_getElem hkl,by simpa using h1,by simpa using h2,by simpa using h3,by simpa using h4⟩
theorem ev_comp_range {cl:List (Str × Addr)} {p p2:Pos} (T:CompOk X own js N scope cl) (hxe:X.xe=fun _ _=>False) (hc:X.calm=true) (hm:X.mg "range" = none) (f:D->D) (pr:D->Bool)
  (h:AV X G M [e] fun as M1=>∃ n:Int,as=[.int n]/\0<=n/\n < 1000 /\
   (∀ Y:Cx,(∃ C s H fp,Y=compCx X N scope cl C s H fp)->∀ M',Ext M1 M'->∀ i:Nat,i < n.toNat->GV Y (compG own js G) M' tg (.int i) fun G3 M3=>M3=M'/\Sub (compG own js G) G3/\TVs Y G3 M' ifs (fun k M4=>M4=M'/\k=pr (.int i))/\(pr (.int i)=true->EV Y G3 M' elt fun o M4=>M4=M'/\o=f (.int i))) /\
   ∀ q,M1 q=none->Q (.ref q) (mset M1 q (.lst ((((List.range n.toNat).map fun i:Nat=>D.int i).filter pr).map f))))
  (hg:Gl X "range") (hse:starEach [e] X.env=[(false,eval e X.env)]) (hs:∀ x,foldedSetIterable (.Call (.Name "range" p) [e] [] p2) X.env x=pure x):EV X G M (.ListComp elt [⟨tg,.Call (.Name "range" p) [e] [] p2,ifs,0⟩] scope pos) Q:=by
 refine ev_comp T hxe hc (pi_range1 hg hm (pa_D (G:=G)) hse) f pr (fun σ H kf R=>?_) hs
 refine ⟨M,_,R,h,fun vs H' ds M' kf' g i R' q=>?_⟩
 obtain ⟨n,e,h1,h2,block,fin⟩:=q
 subst e
 obtain ⟨v,rfl,hv⟩:=isl1 i
 rw [is_int] at hv;subst hv
 refine ⟨n,rfl,by omega,by omega,g,M',(List.range n.toNat).map fun i:Nat=>D.int i,R',fun H2 g2 m2=>⟨fun i e=>?_,fun i hlt=>⟨?_,fun x H3 y=>?_⟩⟩,by rw [List.length_map,List.length_range];exact KA.small (by omega),fun Y hY M2 hM d hd=>?_,fin⟩
 ·show n.toNat<=i
  rw [e,List.length_map,List.length_range];exact Nat.le_refl _
 ·show i < n.toNat
  simpa using hlt
 ·obtain ⟨e,y⟩:=y
  subst e;subst y
  have hlt':i < n.toNat:=by simpa using hlt
  exact ⟨Grow.refl _,fun _ _ z=>z,m2,.int i,by rw [List.getElem?_map,List.getElem?_range hlt'];rfl,is_int.mpr (by simp)⟩
 ·obtain ⟨i,hi,e⟩:=List.mem_map.mp hd
  subst e
  exact block Y hY M2 hM i (List.mem_range.mp hi)
def Its (x:Str):It:=⟨fun i _=>∃ c,x.cps[i]?=some c,fun i H v H'=>H'=H/\∃ c,x.cps[i]?=some c/\v=.str ⟨#[c]⟩,fun i _=>x.cps[i]?=none⟩
theorem turn_str {P:Program} {w:World} {K:PySem.W.Frag} {tg:Expr} (it:Addr) (x:Str) (t:Tok):Turn P w K tg (Its x) [it] it (fun i h=>h.IsStrIter it "str_ascii_iterator" x t i) where
 mem:=by simp
 obj:=fun i h st b hb=>by
  have e:b=it:=by simpa using hb
  subst e
  obtain ⟨o,e,c,d⟩:=st
  exact ⟨o,e,fun v z=>by rw [d] at z;cases z⟩
 keep:=fun i h h' st k=>let ⟨o,e,c,d⟩:=st;⟨o,k it (by simp) o e,c,d⟩
 item:=by
  intro X hP hw hK hc i pins s σ H E I hf st hg
  subst hP hw hK
  obtain ⟨c,hx⟩:=hg
  obtain ⟨f0,f1,f2,f3,f4,f5⟩:=hf it (by simp)
  refine wpAny_pyNext_ascii_item st hx fun h' st' sb=>?_
  have I1:L2.Inv X pins σ H { s with heap:=h',toks:=s.toks+1 }:=I.turned (t':=s.toks+1) (fun b o hb e=>(sb.2 b hb).trans e) f0 f1 f3 f4 f5
  obtain ⟨o,e,c',d⟩:=id st'
  exact ⟨_,rfl,go_of (s:={ s with heap:=h',toks:=s.toks+1 }) e c' d (by decide) ⟨.str ⟨#[c]⟩,H,I1,⟨_,rfl⟩,⟨rfl,c,hx,rfl⟩,st',fun b hb=>(hf b hb).1⟩⟩
 done:=by
  intro X hP hw hK hc i pins s σ H E I hf st hg
  subst hP hw hK
  obtain ⟨f0,f1,f2,f3,f4,f5⟩:=hf it (by simp)
  exact wpAny_pyNext_ascii_end (I.ok.hd hc) st hg fun h' eb=>⟨rfl,I.turned (t':=s.toks) (fun b o hb e=>eb b o hb e) f0 f1 f3 f4 f5⟩
 self:=fun _ _ _ _ _ st h=>wpAny_pyIter_striter_ascii st h
def iStr (tl:TE):TI:=fun σ H R=>tl σ H fun x H1=>∃ z,x=.str z/\z.cps.all (· < 128)=true/\R (Its z) H1
theorem pi_str {l:Expr} {tl:TE} (hl:PE X l tl):PI X tg l (iStr tl):=by
 intro pins s σ H R I h
 refine thn (hl pins s σ H _ I h) fun v s1 ⟨x,H1,I1,r1,q1⟩=>?_
 obtain ⟨z,e,ha,q⟩:=q1
 subst e
 obtain ⟨t,rfl⟩:=r1
 refine wpAny_pyIter_ascii ha ?_
 refine ⟨s1.heap.objs.size,[s1.heap.objs.size],_,_,H1,rfl,I1.kept (t':=s1.toks) fun b o e=>Heap.get?_push_of_some _ e,turn_str _ z t,⟨_,Heap.get?_push_size _ rfl,rfl,rfl⟩,fun b hb=>?_,q⟩
 have e:b=s1.heap.objs.size:=by simpa using hb
 subst e
 exact I1.fpOk (Nat.le_refl _) (I1.hok.fresh (Nat.le_refl _))
theorem ev_comp_str {cl:List (Str × Addr)} (T:CompOk X own js N scope cl) (hxe:X.xe=fun _ _=>False) (hc:X.calm=true) (f:D->D) (pr:D->Bool)
  (h:EV X G M iter fun d M1=>∃ z:Str,d=.str z/\z.cps.all (· < 128)=true/\z.cps.size<=1000 /\
   (∀ Y:Cx,(∃ C s H fp,Y=compCx X N scope cl C s H fp)->∀ M',Ext M1 M'->∀ c∈z.cps.toList,GV Y (compG own js G) M' tg (.str ⟨#[c]⟩) fun G3 M3=>M3=M'/\Sub (compG own js G) G3/\TVs Y G3 M' ifs (fun k M4=>M4=M'/\k=pr (.str ⟨#[c]⟩))/\(pr (.str ⟨#[c]⟩)=true->EV Y G3 M' elt fun o M4=>M4=M'/\o=f (.str ⟨#[c]⟩))) /\
   ∀ q,M1 q=none->Q (.ref q) (mset M1 q (.lst (((z.cps.toList.map fun c=>D.str ⟨#[c]⟩).filter pr).map f))))
  (hs:∀ x,foldedSetIterable iter X.env x=pure x):EV X G M (.ListComp elt [⟨tg,iter,ifs,0⟩] scope pos) Q:=by
 refine ev_comp T hxe hc (pi_str (pe_D (G:=G))) f pr (fun σ H kf R=>?_) hs
 refine ⟨M,_,R,h,fun v H' d M' kf' g i R' q=>?_⟩
 obtain ⟨z,e,ha,hz,block,fin⟩:=q
 subst e
 rw [is_str] at i;subst i
 refine ⟨z,rfl,ha,g,M',z.cps.toList.map fun c=>D.str ⟨#[c]⟩,R',fun H2 g2 m2=>⟨fun i e=>?_,fun i hlt=>⟨?_,fun x H3 y=>?_⟩⟩,by rw [List.length_map,Array.length_toList];exact KA.small hz,fun Y hY M2 hM d hd=>?_,fin⟩
 ·show z.cps[i]?=none
  rw [e,List.length_map,Array.length_toList];simp
 ·show ∃ c,z.cps[i]?=some c
  have hlt':i < z.cps.size:=by simpa using hlt
  exact ⟨z.cps[i],by simp [hlt']⟩
 ·obtain ⟨e,c,hcc,y⟩:=y
  subst e;subst y
  exact ⟨Grow.refl _,fun _ _ z=>z,m2,.str ⟨#[c]⟩,by rw [List.getElem?_map,Array.getElem?_toList,hcc];rfl,is_str.mpr rfl⟩
 ·obtain ⟨c,hcc,e⟩:=List.mem_map.mp hd
  subst e
  exact block Y hY M2 hM c hcc
end
end D3
namespace KA
open PySem PySem.Spec PyProof.Rows L2 D3 K01
def tD (t:Str × Int):D:=.tup [.str t.1,.int t.2]
abbrev trm (ts:List (Str × Int)):D:=.tup (ts.map tD)
abbrev nms (ss:List Str):D:=.tup (ss.map D.str)
def Letter (s:Str):Prop:=∃ c,97<=c/\c<=122/\s=⟨#[c]⟩
structure Names (ss:List Str):Prop where
 pos:1<=ss.length
 le:ss.length<=5
 nodup:ss.Nodup
 lett:∀ s∈ss,Letter s
structure Terms (ss:List Str) (ts:List (Str × Int)):Prop where
 sub:(ts.map (·.1)).Sublist ss
 wt:∀ t∈ts,t.2≠0/\B 64 t.2
theorem Terms.len {ss:List Str} {ts:List (Str × Int)} (h:Terms ss ts):ts.length<=ss.length:=by
 have:=h.sub.length_le;rw [List.length_map] at this;exact this
theorem Terms.mem {ss:List Str} {ts:List (Str × Int)} (h:Terms ss ts) {t:Str × Int} (ht:t∈ts):t.1∈ss:=h.sub.subset (List.mem_map_of_mem ht)
def spCell:SpD:=fun ds M Q=>∃ (l:Addr) (ns:List Int) (k:Int),ds=[.ref l,.int k]/\M l=some (.ro (ns.map D.int))/\(∀ n∈ns,Cell n)/\ns.length<=63/\0<=k/\∀ c,Cell c->Q (.int c) M
def spNumber:SpD:=fun ds M Q=>∃ p,ds=[.ref p]/\Pu M p/\∀ n M',B 64 n->Pu M' p->Kp [p] M M'->Q (.int n) M'
def spTerms:SpD:=fun ds M Q=>∃ p ss,ds=[.ref p,nms ss]/\Pu M p/\ss.length<=5/\∀ ts M',Terms ss ts->Pu M' p->Kp [p] M M'->Q (trm ts) M'
def spSum:SpD:=fun ds M Q=>∃ p ss,ds=[.ref p,nms ss]/\Pu M p/\ss.length<=5/\∀ ts w b M',Terms ss ts->B 64 w->0 < b->B 64 b->Pu M' p->Kp [p] M M'->Q (.tup [trm ts,.int w,.int b]) M'
def word (k:Bool):Str:=if k then "least" else "more"
def spRow:SpD:=fun ds M Q=>∃ p ss,ds=[.ref p,nms ss]/\Pu M p/\ss.length<=5/\∀ k ts w M',Terms ss ts->B 64 w->Pu M' p->Kp [p] M M'->Q (.tup [.str (word k),trm ts,.int w]) M'
def spNames:SpD:=fun ds M Q=>∃ c,ds=[.int c]/\Cell c/\∀ ss M',Names ss->ss.length<=3->Ext M M'->Q (nms ss) M'
end KA
namespace KA
open PySem PySem.Spec PyProof.Rows L2 D3 K01
abbrev rowD (k:Bool) (ts:List (Str × Int)) (b:Int):D:=.tup [.str (word k),trm ts,.int b]
end KA
namespace D3
open PySem PySem.Spec PyProof.Rows L2
section
variable {P:Program} {w:World} {B:Around} {Z:Value->Shared->Prop}
end
section
variable {X:Cx} {G:Ga} {M:MH} {pos:Pos}
end
end D3
namespace D3
open PySem PySem.Spec PyProof.Rows L2
theorem depthAll_le {n:Nat}:∀ {ds:List D},(∀ d∈ds,(pd d).depth<=n)->PyData.depthAll (pdL ds)<=n
 | [],_=>by simp [pdL,PyData.depthAll]
 | d :: r,h=>by
  have h1:=h d (List.mem_cons_self ..)
  have h2:=depthAll_le (ds:=r) fun x hx=>h x (List.mem_cons_of_mem _ hx)
  simp only [pdL,PyData.depthAll]
  omega
theorem depth_le {n:Nat} {ds:List D} (h:∀ d∈ds,(pd d).depth<=n):(pd (.tup ds)).depth<=n+1:=by
 have:=depthAll_le h
 simp only [pd,PyData.depth]
 omega
theorem immL_of:∀ {ds:List D},(∀ d∈ds,imm d=true)->immL ds=true
 | [],_=>by simp [immL]
 | d :: r,h=>by
  simp only [immL]
  rw [h d (List.mem_cons_self ..),immL_of fun x hx=>h x (List.mem_cons_of_mem _ hx)];rfl
theorem imm_tup {ds:List D} (h:∀ d∈ds,imm d=true):imm (.tup ds)=true:=by simp only [imm];exact immL_of h
theorem eq_self {ds:List D} {M:MH} {Qb:Bool->MH->Prop} (h:imm (.tup ds)=true) (z:(pd (.tup ds)).depth<=60) (q:Qb true M):EqL (.tup ds) (.tup ds) M Qb:=by
 refine ⟨⟨h,h,z⟩,?_⟩
 show Qb (PyData.eqv (pd (.tup ds)) (pd (.tup ds))) M
 rw [PySem.SeqAt.eqv_refl _ (canLay_imm _ h)]
 exact q
end D3
namespace KA
open PySem PySem.Spec PyProof.Rows L2 D3 K01
theorem Letter.ok {s:Str} (h:Letter s):PyData.strOk s=true:=by
 obtain ⟨c,h1,h2,rfl⟩:=h
 simp [PyData.strOk]
 omega
theorem imm_tD {t:Str × Int} (h:Letter t.1):imm (KA.tD t)=true:=by
 refine imm_tup fun d hd=>?_
 rcases List.mem_cons.mp hd with rfl | hd
 ·simp only [imm];exact h.ok
 ·rw [List.mem_singleton.mp hd];simp only [imm]
theorem depth_tD (t:Str × Int):(pd (KA.tD t)).depth<=1:=depth_le fun d hd=>by
 rcases List.mem_cons.mp hd with rfl | hd
 ·simp [pd,PyData.depth]
 ·rw [List.mem_singleton.mp hd];simp [pd,PyData.depth]
theorem imm_trm {ts:List (Str × Int)} (h:∀ t∈ts,Letter t.1):imm (trm ts)=true:=imm_tup fun d hd=>by
 obtain ⟨t,ht,rfl⟩:=List.mem_map.mp hd
 exact imm_tD (h t ht)
theorem depth_trm (ts:List (Str × Int)):(pd (trm ts)).depth<=2:=depth_le fun d hd=>by
 obtain ⟨t,ht,rfl⟩:=List.mem_map.mp hd
 exact depth_tD t
theorem word_ok (k:Bool):PyData.strOk (word k)=true:=by cases k<;>decide +kernel
theorem imm_row {k:Bool} {ts:List (Str × Int)} {b:Int} (h:∀ t∈ts,Letter t.1):imm (rowD k ts b)=true:=imm_tup fun d hd=>by
 rcases List.mem_cons.mp hd with rfl | hd
 ·simp only [imm];exact word_ok k
 ·rcases List.mem_cons.mp hd with rfl | hd
  ·exact imm_trm h
  ·rw [List.mem_singleton.mp hd];simp only [imm]
theorem depth_row (k:Bool) (ts:List (Str × Int)) (b:Int):(pd (rowD k ts b)).depth<=3:=depth_le fun d hd=>by
 rcases List.mem_cons.mp hd with rfl | hd
 ·simp [pd,PyData.depth]
 ·rcases List.mem_cons.mp hd with rfl | hd
  ·exact depth_trm ts
  ·rw [List.mem_singleton.mp hd];simp [pd,PyData.depth]
end KA
namespace KA
open PySem PySem.Spec PyProof.Rows L2 D3 K01
abbrev Rw:=Bool × List (Str × Int) × Int
abbrev Sm:=List (Str × Int) × Int × Int
inductive Stm where
 | set (x:Str) (s:Sm)
 | any (x:Str)
 | note (rs:List Rw)
 | choose (a b:List Stm)
 | ite (r:Rw) (a b:List Stm)
 | whl (r:Rw) (rs:List Rw) (m:Option (Sm × Int)) (b:List Stm)
def rwD (r:Rw):D:=rowD r.1 r.2.1 r.2.2
def smD (s:Sm):D:=.tup [trm s.1,.int s.2.1,.int s.2.2]
def msD:Option (Sm × Int)->D
 | none=>.non
 | some m=>.tup [smD m.1,.int m.2]
mutual
def stD:Stm->D
 | .set x s=>.tup [.str "set",.str x,smD s]
 | .any x=>.tup [.str "any",.str x]
 | .note rs=>.tup [.str "note",.tup (rs.map rwD)]
 | .choose a b=>.tup [.str "choose",.tup (stDs a),.tup (stDs b)]
 | .ite r a b=>.tup [.str "if",rwD r,.tup (stDs a),.tup (stDs b)]
 | .whl r rs m b=>.tup [.str "while",rwD r,.tup (rs.map rwD),msD m,.tup (stDs b)]
def stDs:List Stm->List D
 | []=>[]
 | s :: r=>stD s :: stDs r
end
theorem stDs_map:∀ b:List Stm,stDs b=b.map stD
 | []=>by simp only [stDs,List.map_nil]
 | s :: r=>by simp only [stDs,List.map_cons,stDs_map r]
theorem stDs_snoc (b:List Stm) (s:Stm):stDs (b++[s])=stDs b++[stD s]:=by rw [stDs_map,stDs_map,List.map_append];rfl
structure Cnt where
 s:Nat
 b:Nat
 l:Nat
 a:Nat
 n:Nat
def Cnt.add (x y:Cnt):Cnt:=⟨x.s+y.s,x.b+y.b,x.l+y.l,x.a+y.a,x.n+y.n⟩
mutual
def tt:Stm->Cnt
 | .set _ _=>⟨1,0,0,0,0⟩
 | .any _=>⟨1,0,0,1,0⟩
 | .note rs=>⟨1,0,0,0,rs.length⟩
 | .choose a b=>((tts a).add (tts b)).add ⟨1,1,0,0,0⟩
 | .ite _ a b=>((tts a).add (tts b)).add ⟨1,1,0,0,0⟩
 | .whl _ _ _ b=>(tts b).add ⟨1,0,1,0,0⟩
def tts:List Stm->Cnt
 | []=>⟨0,0,0,0,0⟩
 | s :: r=>(tt s).add (tts r)
end
theorem Cnt.ext' {x y:Cnt} (h1:x.s=y.s) (h2:x.b=y.b) (h3:x.l=y.l) (h4:x.a=y.a) (h5:x.n=y.n):x=y:=by cases x;cases y;simp_all
theorem tts_app:∀ a b:List Stm,tts (a++b)=(tts a).add (tts b)
 | [],b=>by refine Cnt.ext' ?_ ?_ ?_ ?_ ?_<;>simp [tts,Cnt.add]
 | s :: r,b=>by
  have ih:=tts_app r b
  show tts (s :: (r++b))=_
  simp only [tts,ih]
  refine Cnt.ext' ?_ ?_ ?_ ?_ ?_<;>simp only [Cnt.add]<;>omega
def Took (n m c:Cnt):Prop:=n.s=m.s+c.s/\n.b=m.b+c.b/\n.l=m.l+c.l/\n.a=m.a+c.a/\n.n=m.n+c.n
mutual
def dp:Stm->Nat
 | .set _ _=>1
 | .any _=>1
 | .note _=>1
 | .choose a b=>max (dps a) (dps b)+1
 | .ite _ a b=>max (dps a) (dps b)+1
 | .whl _ _ _ b=>dps b+1
def dps:List Stm->Nat
 | []=>0
 | s :: r=>max (dp s) (dps r)
end
theorem dps_le {n:Nat}:∀ {b:List Stm},(∀ s∈b,dp s<=n)->dps b<=n
 | [],_=>by simp [dps]
 | s :: r,h=>by
  have h1:=h s (List.mem_cons_self ..)
  have h2:=dps_le (b:=r) fun x hx=>h x (List.mem_cons_of_mem _ hx)
  simp only [dps];omega
structure WfR (ss:List Str) (r:Rw):Prop where
 ts:Terms ss r.2.1
 b:B 64 r.2.2
structure WfS (ss:List Str) (s:Sm):Prop where
 ts:Terms ss s.1
 w:B 64 s.2.1
 pos:0 < s.2.2
 b:B 64 s.2.2
def WfM (ss:List Str) (b:List Stm):Option (Sm × Int)->Prop
 | none=>True
 | some m=>WfS ss m.1/\0 < m.2/\B 65 m.2/\(tts b).l=0
mutual
def wf (ss:List Str):Stm->Prop
 | .set x s=>x∈ss/\WfS ss s
 | .any x=>x∈ss
 | .note rs=>(∀ r∈rs,WfR ss r)/\1<=rs.length/\rs.length<=2
 | .choose a b=>wfs ss a/\wfs ss b
 | .ite r a b=>WfR ss r/\wfs ss a/\wfs ss b
 | .whl r rs m b=>WfR ss r/\(∀ r∈rs,WfR ss r)/\rs.length<=2/\WfM ss b m/\wfs ss b
def wfs (ss:List Str):List Stm->Prop
 | []=>True
 | s :: r=>wf ss s/\wfs ss r
end
theorem wfs_snoc {ss:List Str} {s:Stm}:∀ {b:List Stm},wfs ss b->wf ss s->wfs ss (b++[s])
 | [],_,h=>by simp only [List.nil_append,wfs];exact ⟨h,trivial⟩
 | x :: r,hb,h=>by
  simp only [wfs] at hb
  show wfs ss (x :: (r++[s]))
  simp only [wfs]
  exact ⟨hb.1,wfs_snoc hb.2 h⟩
structure Stt (M:MH) (p c:Addr) (cs:List Int) (i:Nat) (n:Cnt):Prop where
 st:M p=some (.lst [.ref c,.int i,.int n.s,.int n.b,.int n.l,.int n.a,.int n.n])
 cl:M c=some (.lst (cs.map D.int))
theorem Stt.ne {M:MH} {p c:Addr} {cs:List Int} {i:Nat} {n:Cnt} (h:Stt M p c cs i n):c≠p:=by
 intro z;subst z
 have:=h.st.symm.trans h.cl
 simp only [Option.some.injEq,MO.lst.injEq] at this
 cases cs with
 | nil=>cases this
 | cons x r=>injection this with h1 _;cases h1
theorem Stt.kp {S:List Addr} {M M':MH} {p c:Addr} {cs:List Int} {i:Nat} {n:Cnt} (h:Stt M p c cs i n) (k:Kp S M M') (h1:p∉S) (h2:c∉S):Stt M' p c cs i n:=⟨k.at h.st h1,k.at h.cl h2⟩
theorem Stt.ext {M M':MH} {p c:Addr} {cs:List Int} {i:Nat} {n:Cnt} (h:Stt M p c cs i n) (k:Ext M M'):Stt M' p c cs i n:=⟨k _ _ h.st,k _ _ h.cl⟩
theorem Stt.put {M:MH} {p c:Addr} {cs:List Int} {i j:Nat} {n m:Cnt} (h:Stt M p c cs i n):Stt (mset M p (.lst [.ref c,.int j,.int m.s,.int m.b,.int m.l,.int m.a,.int m.n])) p c cs j m :=
 ⟨mset_same,by rw [mset_ne h.ne];exact h.cl⟩
theorem Stt.upd {M M2:MH} {p c:Addr} {cs:List Int} {i j:Nat} {n m:Cnt} {l:List D} (h:Stt M p c cs i n) (e:mset M p (.lst l)=M2) (hl:l=[.ref c,.int j,.int m.s,.int m.b,.int m.l,.int m.a,.int m.n]):Stt M2 p c cs j m/\Kp [p] M M2/\∀ q,M2 q=none->M q=none:=by
 subst e;subst hl
 refine ⟨h.put,Kp.put (by simp),fun q hq=>?_⟩
 by_cases z:q=p
 ·subst z;rw [mset_same] at hq;cases hq
 ·rw [mset_ne z] at hq;exact hq
theorem cast1 {n:Nat} (h:0 < n):(n:Int) - 1=((n - 1:Nat):Int):=by omega
def Cells (cs:List Int):Prop:=cs.length<=63/\∀ x∈cs,Cell x
def spNext:SpD:=fun ds M Q=>∃ p c cs i n,ds=[.ref p]/\Stt M p c cs i n/\Cells cs/\∀ q M',M q=none->Pu M' q->Stt M' p c cs (i+1) n->Kp [p] M M'->Q (.ref q) M'
def spStmt (d:Nat):SpD:=fun ds M Q=>∃ p c cs i n ss,ds=[.ref p,nms ss,.int d]/\Stt M p c cs i n/\Cells cs/\Names ss/\∀ st j m M',i < j->Stt M' p c cs j m->wf ss st->dp st+d<=5->Took ⟨n.s+1,n.b,n.l,n.a,n.n⟩ m (tt st)->Kp [p] M M'->Q (stD st) M'
def spLoop (d:Nat):SpD:=fun ds M Q=>∃ p c cs i n ss q,ds=[.ref p,nms ss,.int d,.ref q]/\Stt M p c cs i n/\Cells cs/\Names ss/\Pu M q/\q≠p/\q≠c/\0 < n.l/\∀ st j m M',i<=j->Stt M' p c cs j m->wf ss st->dp st+d<=5->Took ⟨n.s+1,n.b,n.l,n.a,n.n⟩ m (tt st)->Kp [p,q] M M'->Q (stD st) M'
def spBlock (d:Nat):SpD:=fun ds M Q=>∃ p c cs i n ss,ds=[.ref p,nms ss,.int d]/\Stt M p c cs i n/\Cells cs/\Names ss/\∀ b j m M',i<=j->Stt M' p c cs j m->wfs ss b->(∀ s∈b,dp s+d<=5)->Took n m (tts b)->Kp [p] M M'->Q (.tup (stDs b)) M'
structure Plan where
 ss:List Str
 rs:List Rw
 bl:List Stm
def plD (p:Plan):D:=.tup [nms p.ss,.tup (p.rs.map rwD),.tup (stDs p.bl)]
structure WfP (p:Plan):Prop where
 names:Names p.ss
 rs:∀ r∈p.rs,WfR p.ss r
 rl:p.rs.length<=2
 bl:wfs p.ss p.bl
 dp:∀ s∈p.bl,KA.dp s<=4
 cs:(tts p.bl).s<=24
 cb:(tts p.bl).b<=2
 cl:(tts p.bl).l<=2
 ca:(tts p.bl).a<=1
 cn:(tts p.bl).n<=2
def spPlan:SpD:=fun ds M Q=>∃ c cs first ss,ds=[.ref c,.int first,nms ss]/\M c=some (.lst (cs.map D.int))/\Cells cs/\Cell first/\Names ss/\∀ p M',WfP p->p.ss=ss->Ext M M'->Q (plD p) M'
end KA
namespace D3
open PySem PySem.Spec PyProof.Rows L2
section
variable {X:Cx} {G:Ga} {M:MH} {elt tg iter e:Expr} {scope:Scope} {pos:Pos} {Q:DK} {own:List Str} {js:List Nat} {N:List Str} {cl:List (Str × Addr)}
def WalksV (J:It) (H:Hp) (ds:List D):Prop:=∀ H',Grow H H'->(∀ i,i=ds.length->J.stop i H')/\∀ i,i < ds.length->J.go i H'/\∀ x H2,J.yld i H' x H2->H2=H'/\∃ d,ds[i]?=some d/\Is H' d x
theorem ev_compI {wi:TI} (T:CompOk X own js N scope cl) (hxe:X.xe=fun _ _=>False) (hc:X.calm=true) (hi:PI X tg iter wi)
  (h:∀ σ H,KF X.K H->Rel X G M σ H->wi σ H fun J H1=>Grow H H1/\∃ (M1:MH) (ds:List D) (Iv:Addr->Nat->List D->MH->Prop),Rel X G M1 σ H1/\WalksV J H1 ds/\(∀ q,M1 q=none->Iv q 0 [] (mset M1 q (.lst []))) /\
   (∀ Y:Cx,(∃ C s H fp,Y=compCx X N scope cl C s H fp)->∀ q i acc M' d,ds[i]?=some d->Iv q i acc M'->M' q=some (.lst acc)->GV Y (compG own js G) M' tg d fun G3 M3=>M3=M'/\Sub (compG own js G) G3/\EV Y G3 M' elt fun o M4=>M4 q=some (.lst acc)/\acc.length < sizeLine/\Iv q (i+1) (acc++[o]) (mset M4 q (.lst (acc++[o])))) /\
   ∀ q acc M',Iv q ds.length acc M'->M' q=some (.lst acc)->Q (.ref q) M')
  (hs:∀ x,foldedSetIterable iter X.env x=pure x:=by intro _;rfl):EV X G M (.ListComp elt [⟨tg,iter,[],0⟩] scope pos) Q:=by
 intro pins s σ H I R
 rw [eval_ListComp]
 refine wpAny_comprehension_free (use:=none) rfl hs T.clos T.kind T.names (thn (hi pins s σ H _ I (h σ H (kf_of I) R)) fun v s1 h1=>thn h1 fun itv s2 h2=>?_)
 obtain ⟨it,fp,tn,J,H2,e,I2,TT,st2,f2,g2,M1,ds,Iv,R2,walks,iv0,block,fin⟩:=h2
 subst e
 refine wpAny_newObj_type ?_ (by show 0<=sizeLine;exact Nat.zero_le _)
 have hq:H2 s2.heap.objs.size=none:=I2.hok.fresh (Nat.le_refl _)
 have I3:Inv X pins σ (upd H2 s2.heap.objs.size (.lst [])) { s2 with heap:=s2.heap.push { cls:=.type "list",dict:=none,data:=.seq ([] : List Value).toArray } } :=
  I2.laid (t':=s2.toks) (fun b u e=>Heap.get?_push_of_some _ e) (Nat.le_refl _) ⟨Nat.zero_le _,[],0,.nil,Heap.get?_push_size _ rfl⟩
 have gq:Grow H2 (upd H2 s2.heap.objs.size (.lst [])):=grow_new hq
 have mq:M1 s2.heap.objs.size=none:=R2.mem.fresh hq (kf_of I3)
 have R3:Rel X G (mset M1 s2.heap.objs.size (.lst [])) σ (upd H2 s2.heap.objs.size (.lst [])):=R2.to gq (R2.mem.lay hq ⟨[],upd_same,isl_nil.mpr rfl⟩)
 have f3:∀ b∈fp,FpOk X pins (upd H2 s2.heap.objs.size (.lst [])) b:=fun b hb=>by
  refine ⟨?_,(f2 b hb).2⟩
  rw [upd_ne]
  ·exact (f2 b hb).1
  ·intro z
   obtain ⟨o,e,_⟩:=TT.obj _ _ st2 b hb
   rw [z] at e
   exact absurd (Heap.lt_size e) (Nat.lt_irrefl _)
 have ft:∀ b∈fp,∃ o,(s2.heap.push { cls:=.type "list",dict:=none,data:=.seq ([] : List Value).toArray }).get? b=some o:=fun b hb=>by
  obtain ⟨o,e,_⟩:=TT.obj _ _ st2 b hb
  exact ⟨o,Heap.get?_push_of_some _ e⟩
 have stq:tn 0 (s2.heap.push { cls:=.type "list",dict:=none,data:=.seq ([] : List Value).toArray }):=TT.keep _ _ _ st2 fun b hb o e=>Heap.get?_push_of_some _ e
 generalize s2.heap.objs.size=q at hq I3 gq mq R3 f3 ⊢
 refine wpAny_newFunctionEnv (T.nocell) (by intro y hy;simp at hy) (fun h1 hns1 hsb1=>?_) T.kind
 generalize hH3:upd H2 q (.lst [])=H3 at I3 R3 f3 gq
 generalize hs3:({ s2 with heap:=s2.heap.push { cls:=.type "list",dict:=none,data:=.seq ([] : List Value).toArray } }:Shared)=s3 at I3 hns1 hsb1 ⊢
 have es3:s3.heap=s2.heap.push { cls:=.type "list",dict:=none,data:=.seq ([] : List Value).toArray }:=by rw [<- hs3]
 rw [<- es3] at stq ft
 have hk1:∀ b o,s3.heap.get? b=some o->h1.get? b=some o:=fun b o e=>hsb1.extBut b o (Nat.ne_of_lt (Heap.lt_size e)) (Heap.get?_push_of_some _ e)
 obtain ⟨σc,Ic,Rc⟩:=comp_ok (tk:=s3.toks+([] : List (Str × Value)).length) T I3 f3 ft (by simpa using hns1) hk1 R3
 have stc:tn 0 h1:=TT.keep _ _ _ stq fun b hb o e=>hk1 b o e
 have hC:∃ C,C=s3.heap.objs.size:=⟨_,rfl⟩
 obtain ⟨C,hC⟩:=hC
 rw [<- hC] at Ic Rc
 generalize hY:compCx X N scope cl C s3 H3 fp=Y at Ic Rc
 have blockY:=block Y ⟨C,s3,H3,fp,hY.symm⟩
 have yA:Y.A=X.A:=by rw [<- hY];rfl
 have yp:Y.prog=X.prog:=by rw [<- hY];rfl
 have yw:Y.w=X.w:=by rw [<- hY];rfl
 have yK:Y.K=X.K:=by rw [<- hY];rfl
 have yc:Y.calm=true:=by rw [<- hY];exact hc
 have yx:Y.xe=fun _ _=>False:=by rw [<- hY];exact hxe
 have ye:Y.env=compEnvC scope cl C X.env:=by rw [<- hY];rfl
 have ypn:Y.pn=[]:=by rw [<- hY];rfl
 have yex:Y.ex=fp:=by rw [<- hY];rfl
 have fpY:∀ {H':Hp},(∀ b∈fp,H' b=none)->∀ b∈fp,FpOk Y [] H' b:=fun {H'} hn b hb=>by
  have o1:=Ic.ok.exf b (by rw [yex];exact hb)
  refine ⟨hn b hb,o1.1,Ic.ok.exfs b (by rw [yex];exact hb),.inl (by rw [yex];exact hb),o1.2,fun p hp=>?_⟩
  rw [ypn] at hp;exact absurd hp (by simp)
 have loop:∀ s4:Shared,s4={ s3 with heap:=h1,toks:=s3.toks+([] : List (Str × Value)).length } ->
   codeAny (model X.prog X.w) X.A (.compLoop (.ListComp elt [⟨tg,iter,[],0⟩] scope pos) 0 (.ref it) (.ref q) (compEnvC scope cl C X.env)) (compPost (model X.prog X.w) X.A X.xe none (EPD X pins σ G H Q) (.ref q) C) s4:=by
  rintro s4 rfl
  refine compLoop_own (fun m s'=>∃ i σ' H' acc M',Inv Y [] σ' H' s'/\Grow H3 H'/\Rel Y (compG own js G) M' σ' H'/\M' q=some (.lst acc)/\Iv q i acc M'/\tn i s'.heap/\(∀ b∈fp,H' b=none)/\i<=ds.length/\m=ds.length - i) ?_ ds.length
   ⟨0,σc,H3,[],mset M1 q (.lst []),Ic,Grow.refl _,Rc,mset_same,iv0 q mq,stc,fun b hb=>(f3 b hb).1,Nat.zero_le _,rfl⟩
  rintro m s5 ⟨i,σ5,H5,acc,M5,I5,g5,R5,m5,v5,st5,fr5,hin,rfl⟩
  obtain ⟨wstop,wgo⟩:=walks H5 (gq.trans g5)
  by_cases hlt:i < ds.length
  ·obtain ⟨go,yld⟩:=wgo i hlt
   have it5:=TT.item Y yp yw yK yc i [] s5 σ5 H5 (fun _ _=>False) I5 (fpY fr5) st5 go
   rw [yA] at it5
   refine thn it5 fun r s6 ⟨u,hr,h6⟩=>?_
   subst hr
   refine thn h6 fun _ s7 ⟨x,H7,I7,r7,y7,st7,fr7⟩=>?_
   obtain ⟨e7,d,ed,i7⟩:=yld x H7 y7
   subst e7
   have I7':=I7.pinned (fpY fr7) (TT.obj _ _ st7)
   have gv:=blockY q i acc M5 d ed v5 m5 _ s7 σ5 H7 x u I7' R5 r7 i7
   rw [yp,yw,yA,yx,ye] at gv
   refine thn gv fun _ s8 ⟨σ8,H8,G8,M8,I8,g8,R8,e8,sub8,elt8⟩=>?_
   subst e8
   refine wpAny_tests_nil ?_
   rw [if_pos rfl]
   have back:∀ {σ':St} {H':Hp} {s':Shared},Inv Y ([]++pinsAt fp s7.heap) σ' H' s'->tn (i+1) s'.heap/\∀ b∈fp,H' b=none:=fun {σ' H' s'} I'=>by
    refine ⟨TT.keep _ _ _ st7 fun b hb o e=>(I'.pin (b,o) (List.mem_append_right _ (List.mem_append_right _ (mem_pinsAt hb e)))).1,fun b hb=>?_⟩
    obtain ⟨o,e,_⟩:=TT.obj _ _ st7 b hb
    exact (I'.pin (b,o) (List.mem_append_right _ (List.mem_append_right _ (mem_pinsAt hb e)))).2.1
   have ev:=elt8 _ s8 σ8 H8 I8 R8
   rw [yp,yw,yA,yx,ye] at ev
   refine thn ev fun u9 s10 ⟨v10,H10,o10,M10,I10,r10,g10,i10,R10,e10,ez,eo⟩=>?_
   obtain ⟨xs,hx,hxi⟩:=R10.mem q _ e10
   have hlen:=hxi.len
   have ap:=mt_append (X:=Y) _ s10 σ8 H10 (.ref q) [v10] (.ref q) [u9] (fun _ H'=>H'=upd H10 q (.lst (xs++[v10]))) I10 rfl (.cons r10 .nil) ⟨q,xs,v10,rfl,rfl,hx,by omega,rfl⟩
   rw [yp,yw,yA,yx] at ap
   refine thn ap fun _ s11 ⟨_,H11,I11,_,e11⟩=>?_
   subst e11
   obtain ⟨t1,t2⟩:=back I11
   have nt:∀ ys,H10 q≠some (.tup ys):=fun ys z=>by rw [hx] at z;cases z
   have ga:Grow H10 (upd H10 q (.lst (xs++[v10]))):=grow_upd nt
   have mm:=R10.mem.put (p:=q) (o:=.lst (xs++[v10])) (u:=.lst (acc++[o10])) nt ⟨_,upd_same,(hxi.grow ga).app (isl_cons.mpr ⟨v10,[],rfl,Is.grow ga _ _ i10,isl_nil.mpr rfl⟩)⟩
   exact ⟨ds.length - (i+1),by omega,i+1,σ8,_,acc++[o10],_,I11.unpinned,((g5.trans g8).trans g10).trans ga,(R10.to ga mm).sub sub8,mset_same,eo,t1,t2,hlt,rfl⟩
  ·have ei:i=ds.length:=by omega
   subst ei
   have dn:=TT.done Y yp yw yK yc ds.length [] s5 σ5 H5 (fun _ _=>False) I5 (fpY fr5) st5 (wstop _ rfl)
   rw [yA] at dn
   refine thn dn fun r s6 ⟨hr,I6⟩=>?_
   subst hr
   obtain ⟨mm,hmm,_⟩:=I6.loc
   rw [ye] at hmm
   refine ⟨mm,hmm,fun h' hsb=>?_⟩
   have I6':Inv (compCx X N scope cl C s3 H3 fp) [] σ5 H5 s6:=by rw [hY];exact I6
   have IX:=Inv.unblock I3 f3 I6' hC hsb
   exact ⟨.ref q,H5,.ref q,_,IX,rfl,(g2.trans gq).trans g5,is_ref.mpr rfl,R3.to g5 (by rw [<- yK];exact R5.mem),fin q acc M5 v5 m5⟩
 have fin0:=codeAny_compStart_list (R:=compPost (model X.prog X.w) X.A X.xe none (EPD X pins σ G H Q) (.ref q) C) (loop _ rfl) (TT.self _ 0 _ _ _ stc (loop _ rfl))
 rw [hC] at fin0
 exact fin0
theorem ev_compR {p p2:Pos} (T:CompOk X own js N scope cl) (hxe:X.xe=fun _ _=>False) (hc:X.calm=true) (hm:X.mg "range" = none)
  (h:AV X G M [e] fun as M1=>∃ (n:Int) (Iv:Addr->Nat->List D->MH->Prop),as=[.int n]/\0<=n/\n < 1000/\(∀ q,M1 q=none->Iv q 0 [] (mset M1 q (.lst []))) /\
   (∀ Y:Cx,(∃ C s H fp,Y=compCx X N scope cl C s H fp)->∀ q i acc M',i < n.toNat->Iv q i acc M'->M' q=some (.lst acc)->GV Y (compG own js G) M' tg (.int (i:Nat)) fun G3 M3=>M3=M'/\Sub (compG own js G) G3/\EV Y G3 M' elt fun o M4=>M4 q=some (.lst acc)/\acc.length < sizeLine/\Iv q (i+1) (acc++[o]) (mset M4 q (.lst (acc++[o])))) /\
   ∀ q acc M',Iv q n.toNat acc M'->M' q=some (.lst acc)->Q (.ref q) M')
  (hg:Gl X "range") (hse:starEach [e] X.env=[(false,eval e X.env)]) (hs:∀ x,foldedSetIterable (.Call (.Name "range" p) [e] [] p2) X.env x=pure x):EV X G M (.ListComp elt [⟨tg,.Call (.Name "range" p) [e] [] p2,[],0⟩] scope pos) Q:=by
 refine ev_compI T hxe hc (pi_range1 hg hm (pa_D (G:=G)) hse) (fun σ H kf R=>?_) hs
 refine ⟨M,_,R,h,fun vs H' ds M' kf' g i R' q=>?_⟩
 obtain ⟨n,Iv,e,h1,h2,iv0,block,fin⟩:=q
 subst e
 obtain ⟨v,rfl,hv⟩:=isl1 i
 rw [is_int] at hv;subst hv
 refine ⟨n,rfl,by omega,by omega,g,M',(List.range n.toNat).map fun i:Nat=>D.int i,Iv,R',fun H2 g2=>⟨fun i e=>?_,fun i hlt=>⟨?_,fun x H3 y=>?_⟩⟩,iv0,fun Y hY q i acc M2 d hd v2 m2=>?_,fun q acc M2 v2 m2=>fin q acc M2 (by rw [List.length_map,List.length_range] at v2;exact v2) m2⟩
 ·show n.toNat<=i
  rw [e,List.length_map,List.length_range];exact Nat.le_refl _
 ·show i < n.toNat
  simpa using hlt
 ·obtain ⟨e,y⟩:=y
  subst e;subst y
  have hlt':i < n.toNat:=by simpa using hlt
  exact ⟨rfl,.int i,by rw [List.getElem?_map,List.getElem?_range hlt'];rfl,is_int.mpr (by simp)⟩
 ·rw [List.getElem?_map] at hd
  have hi:i < n.toNat:=by
   refine Nat.lt_of_not_le fun z=>?_
   rw [List.getElem?_eq_none (by rw [List.length_range];exact z)] at hd;cases hd
  rw [List.getElem?_range hi] at hd
  have hd:D.int (i:Nat)=d:=by simpa using hd
  subst hd
  exact block Y hY q i acc M2 hi v2 m2
end
end D3
namespace D3
open PySem PySem.Spec PyProof.Rows L2
section
variable {X:Cx} {G:Ga} {M:MH} {elt tg iter e:Expr} {scope:Scope} {pos:Pos} {Q:DK} {own:List Str} {js:List Nat} {N:List Str} {cl:List (Str × Addr)}
theorem ex_compI {wi:TI} {ifs:List Expr} {E:EndsD} {y:Str} {py spos:Pos} (jj:Nat) (T:CompOk X own js N scope cl) (hxe:X.xe=fun _ _=>False) (hc:X.calm=true) (hi:PI X tg iter wi) (hN:X.N.Nodup) (hj:X.N[jj]?=some y) (hy:Loc X.env.scope y) (hyf:X.fn y=true\/X.env.scope.names.lookup y=some .local)
  (hsw:swapsWith (.ListComp elt [⟨tg,iter,ifs,0⟩] scope pos) (some (.Name y py)) spos.line X.env=pure true)
  (h:∀ σ H,KF X.K H->Rel X G M σ H->wi σ H fun J H1=>Grow H H1/\∃ (M1:MH) (ds:List D) (Iv:Addr->Nat->List D->MH->Prop),Rel X G M1 σ H1 /\
   (∀ q i acc M' H',Grow H1 H'->MemOk X.K M' H'->Iv q i acc M'->(i=ds.length->J.stop i H')/\(i < ds.length->J.go i H'/\∀ x H2,J.yld i H' x H2->Grow H' H2/\(∀ b o,H' b=some o->H2 b=some o)/\∃ d,ds[i]?=some d/\Is H2 d x))/\(∀ q,M1 q=none->Iv q 0 [] (mset M1 q (.lst []))) /\
   (∀ Y:Cx,(∃ C s H fp,Y=compCx X N scope cl C s H fp)->∀ q i acc M' d,ds[i]?=some d->Iv q i acc M'->M' q=some (.lst acc)->GV Y (compG own js G) M' tg d fun G3 M3=>M3=M'/\Sub (compG own js G) G3/\TVs Y G3 M' ifs fun k M4=>M4=M'/\if k=true then EV Y G3 M' elt fun o M5=>M5 q=some (.lst acc)/\acc.length < sizeLine/\Iv q (i+1) (acc++[o]) (mset M5 q (.lst (acc++[o]))) else Iv q (i+1) acc M') /\
   ∀ q acc M',Iv q ds.length acc M'->M' q=some (.lst acc)->E.nx (G.set jj (some (.ref q))) M')
  (hs:∀ x,foldedSetIterable iter X.env x=pure x:=by intro _;rfl):EX X G M (.Assign [.Name y py] (.ListComp elt [⟨tg,iter,ifs,0⟩] scope pos) spos) E:=by
 intro pins s σ H I R
 rw [exec_Assign_Name_used _ _ _ _ hsw]
 refine wpAny_bind (wpAny_standAt (wpAny_bind ?_))
 show wpAny _ X.A (do let _ <- comprehension (.ListComp elt [⟨tg,iter,ifs,0⟩] scope pos) scope X.env _ (newList []) false (eval iter X.env) (some (assign (.Name y py) X.env))) _ _ s
 refine wpAny_bind (wpAny_mono (wpAny_comprehension_free (use:=some (assign (.Name y py) X.env)) (Q:=fun _ s'=>SPD X pins H E .next s') rfl hs T.clos T.kind T.names (thn (hi pins s σ H _ I (h σ H (kf_of I) R)) fun v s1 h1=>thn h1 fun itv s2 h2=>?_)) (fun _ s' hq=>wpAny_pure (wpAny_pure hq)) fun _ _ e=>e)
 obtain ⟨it,fp,tn,J,H2,e,I2,TT,st2,f2,g2,M1,ds,Iv,R2,walks,iv0,block,fin⟩:=h2
 subst e
 refine wpAny_newObj_type ?_ (by show 0<=sizeLine;exact Nat.zero_le _)
 have hq:H2 s2.heap.objs.size=none:=I2.hok.fresh (Nat.le_refl _)
 have I3:Inv X pins σ (upd H2 s2.heap.objs.size (.lst [])) { s2 with heap:=s2.heap.push { cls:=.type "list",dict:=none,data:=.seq ([] : List Value).toArray } } :=
  I2.laid (t':=s2.toks) (fun b u e=>Heap.get?_push_of_some _ e) (Nat.le_refl _) ⟨Nat.zero_le _,[],0,.nil,Heap.get?_push_size _ rfl⟩
 have gq:Grow H2 (upd H2 s2.heap.objs.size (.lst [])):=grow_new hq
 have mq:M1 s2.heap.objs.size=none:=R2.mem.fresh hq (kf_of I3)
 have R3:Rel X G (mset M1 s2.heap.objs.size (.lst [])) σ (upd H2 s2.heap.objs.size (.lst [])):=R2.to gq (R2.mem.lay hq ⟨[],upd_same,isl_nil.mpr rfl⟩)
 have f3:∀ b∈fp,FpOk X pins (upd H2 s2.heap.objs.size (.lst [])) b:=fun b hb=>by
  refine ⟨?_,(f2 b hb).2⟩
  rw [upd_ne]
  ·exact (f2 b hb).1
  ·intro z
   obtain ⟨o,e,_⟩:=TT.obj _ _ st2 b hb
   rw [z] at e
   exact absurd (Heap.lt_size e) (Nat.lt_irrefl _)
 have ft:∀ b∈fp,∃ o,(s2.heap.push { cls:=.type "list",dict:=none,data:=.seq ([] : List Value).toArray }).get? b=some o:=fun b hb=>by
  obtain ⟨o,e,_⟩:=TT.obj _ _ st2 b hb
  exact ⟨o,Heap.get?_push_of_some _ e⟩
 have stq:tn 0 (s2.heap.push { cls:=.type "list",dict:=none,data:=.seq ([] : List Value).toArray }):=TT.keep _ _ _ st2 fun b hb o e=>Heap.get?_push_of_some _ e
 generalize s2.heap.objs.size=q at hq I3 gq mq R3 f3 ⊢
 refine wpAny_newFunctionEnv (T.nocell) (by intro y hy;simp at hy) (fun h1 hns1 hsb1=>?_) T.kind
 generalize hH3:upd H2 q (.lst [])=H3 at I3 R3 f3 gq
 generalize hs3:({ s2 with heap:=s2.heap.push { cls:=.type "list",dict:=none,data:=.seq ([] : List Value).toArray } }:Shared)=s3 at I3 hns1 hsb1 ⊢
 have es3:s3.heap=s2.heap.push { cls:=.type "list",dict:=none,data:=.seq ([] : List Value).toArray }:=by rw [<- hs3]
 rw [<- es3] at stq ft
 have hk1:∀ b o,s3.heap.get? b=some o->h1.get? b=some o:=fun b o e=>hsb1.extBut b o (Nat.ne_of_lt (Heap.lt_size e)) (Heap.get?_push_of_some _ e)
 obtain ⟨σc,Ic,Rc⟩:=comp_ok (tk:=s3.toks+([] : List (Str × Value)).length) T I3 f3 ft (by simpa using hns1) hk1 R3
 have stc:tn 0 h1:=TT.keep _ _ _ stq fun b hb o e=>hk1 b o e
 have hC:∃ C,C=s3.heap.objs.size:=⟨_,rfl⟩
 obtain ⟨C,hC⟩:=hC
 rw [<- hC] at Ic Rc
 generalize hY:compCx X N scope cl C s3 H3 fp=Y at Ic Rc
 have blockY:=block Y ⟨C,s3,H3,fp,hY.symm⟩
 have yA:Y.A=X.A:=by rw [<- hY];rfl
 have yp:Y.prog=X.prog:=by rw [<- hY];rfl
 have yw:Y.w=X.w:=by rw [<- hY];rfl
 have yK:Y.K=X.K:=by rw [<- hY];rfl
 have yc:Y.calm=true:=by rw [<- hY];exact hc
 have yx:Y.xe=fun _ _=>False:=by rw [<- hY];exact hxe
 have ye:Y.env=compEnvC scope cl C X.env:=by rw [<- hY];rfl
 have ypn:Y.pn=[]:=by rw [<- hY];rfl
 have yex:Y.ex=fp:=by rw [<- hY];rfl
 have fpY:∀ {H':Hp},(∀ b∈fp,H' b=none)->∀ b∈fp,FpOk Y [] H' b:=fun {H'} hn b hb=>by
  have o1:=Ic.ok.exf b (by rw [yex];exact hb)
  refine ⟨hn b hb,o1.1,Ic.ok.exfs b (by rw [yex];exact hb),.inl (by rw [yex];exact hb),o1.2,fun p hp=>?_⟩
  rw [ypn] at hp;exact absurd hp (by simp)
 have loop:∀ s4:Shared,s4={ s3 with heap:=h1,toks:=s3.toks+([] : List (Str × Value)).length } ->
   codeAny (model X.prog X.w) X.A (.compLoop (.ListComp elt [⟨tg,iter,ifs,0⟩] scope pos) 0 (.ref it) (.ref q) (compEnvC scope cl C X.env)) (compPost (model X.prog X.w) X.A X.xe (some (assign (.Name y py) X.env)) (fun _ s'=>SPD X pins H E .next s') (.ref q) C) s4:=by
  rintro s4 rfl
  refine compLoop_own (fun m s'=>∃ i σ' H' acc M',Inv Y [] σ' H' s'/\Grow H3 H'/\Rel Y (compG own js G) M' σ' H'/\M' q=some (.lst acc)/\Iv q i acc M'/\tn i s'.heap/\(∀ b∈fp,H' b=none)/\i<=ds.length/\m=ds.length - i) ?_ ds.length
   ⟨0,σc,H3,[],mset M1 q (.lst []),Ic,Grow.refl _,Rc,mset_same,iv0 q mq,stc,fun b hb=>(f3 b hb).1,Nat.zero_le _,rfl⟩
  rintro m s5 ⟨i,σ5,H5,acc,M5,I5,g5,R5,m5,v5,st5,fr5,hin,rfl⟩
  obtain ⟨wstop,wgo⟩:=walks q i acc M5 H5 (gq.trans g5) (by rw [<- yK];exact R5.mem) v5
  by_cases hlt:i < ds.length
  ·obtain ⟨go,yld⟩:=wgo hlt
   have it5:=TT.item Y yp yw yK yc i [] s5 σ5 H5 (fun _ _=>False) I5 (fpY fr5) st5 go
   rw [yA] at it5
   refine thn it5 fun r s6 ⟨u,hr,h6⟩=>?_
   subst hr
   refine thn h6 fun _ s7 ⟨x,H7,I7,r7,y7,st7,fr7⟩=>?_
   obtain ⟨g7,keep7,d,ed,i7⟩:=yld x H7 y7
   have I7':=I7.pinned (fpY fr7) (TT.obj _ _ st7)
   have R7:Rel Y (compG own js G) M5 σ5 H7:=R5.to g7 fun a o e=>(R5.mem a o e).stay g7 fun u h=>keep7 _ _ h
   have gv:=blockY q i acc M5 d ed v5 m5 _ s7 σ5 H7 x u I7' R7 r7 i7
   rw [yp,yw,yA,yx,ye] at gv
   refine thn gv fun _ s8 ⟨σ8,H8,G8,M8,I8,g8,R8,e8,sub8,tests⟩=>?_
   subst e8
   have back:∀ {σ':St} {H':Hp} {s':Shared},Inv Y ([]++pinsAt fp s7.heap) σ' H' s'->tn (i+1) s'.heap/\∀ b∈fp,H' b=none:=fun {σ' H' s'} I'=>by
    refine ⟨TT.keep _ _ _ st7 fun b hb o e=>(I'.pin (b,o) (List.mem_append_right _ (List.mem_append_right _ (mem_pinsAt hb e)))).1,fun b hb=>?_⟩
    obtain ⟨o,e,_⟩:=TT.obj _ _ st7 b hb
    exact (I'.pin (b,o) (List.mem_append_right _ (List.mem_append_right _ (mem_pinsAt hb e)))).2.1
   have tr:=tvs_run tests I8 R8
   rw [yp,yw,yA,yx,ye] at tr
   refine thn tr fun ok s9 ⟨H9,M9,I9,g9,R9,e9,elt8⟩=>?_
   subst e9
   cases ok with
   | false =>
    rw [if_neg (by decide)]
    rw [if_neg (by decide)] at elt8
    obtain ⟨t1,t2⟩:=back I9
    exact ⟨ds.length - (i+1),by omega,i+1,σ8,H9,acc,_,I9.unpinned,((g5.trans g7).trans g8).trans g9,R9.sub sub8,m5,elt8,t1,t2,hlt,rfl⟩
   | true =>
    rw [if_pos rfl]
    rw [if_pos rfl] at elt8
    have ev:=elt8 _ s9 σ8 H9 I9 R9
    rw [yp,yw,yA,yx,ye] at ev
    refine thn ev fun u9 s10 ⟨v10,H10,o10,M10,I10,r10,g10,i10,R10,e10,ez,eo⟩=>?_
    obtain ⟨xs,hx,hxi⟩:=R10.mem q _ e10
    have hlen:=hxi.len
    have ap:=mt_append (X:=Y) _ s10 σ8 H10 (.ref q) [v10] (.ref q) [u9] (fun _ H'=>H'=upd H10 q (.lst (xs++[v10]))) I10 rfl (.cons r10 .nil) ⟨q,xs,v10,rfl,rfl,hx,by omega,rfl⟩
    rw [yp,yw,yA,yx] at ap
    refine thn ap fun _ s11 ⟨_,H11,I11,_,e11⟩=>?_
    subst e11
    obtain ⟨t1,t2⟩:=back I11
    have nt:∀ ys,H10 q≠some (.tup ys):=fun ys z=>by rw [hx] at z;cases z
    have ga:Grow H10 (upd H10 q (.lst (xs++[v10]))):=grow_upd nt
    have mm:=R10.mem.put (p:=q) (o:=.lst (xs++[v10])) (u:=.lst (acc++[o10])) nt ⟨_,upd_same,(hxi.grow ga).app (isl_cons.mpr ⟨v10,[],rfl,Is.grow ga _ _ i10,isl_nil.mpr rfl⟩)⟩
    exact ⟨ds.length - (i+1),by omega,i+1,σ8,_,acc++[o10],_,I11.unpinned,((((g5.trans g7).trans g8).trans g9).trans g10).trans ga,(R10.to ga mm).sub sub8,mset_same,eo,t1,t2,hlt,rfl⟩
  ·have ei:i=ds.length:=by omega
   subst ei
   have dn:=TT.done Y yp yw yK yc ds.length [] s5 σ5 H5 (fun _ _=>False) I5 (fpY fr5) st5 (wstop rfl)
   rw [yA] at dn
   refine thn dn fun r s6 ⟨hr,I6⟩=>?_
   subst hr
   obtain ⟨mm,hmm,_⟩:=I6.loc
   rw [ye] at hmm
   have I6':Inv (compCx X N scope cl C s3 H3 fp) [] σ5 H5 s6:=by rw [hY];exact I6
   have IX:Inv X pins σ H5 s6:=Inv.unblock I3 f3 I6' hC (Heap.SameBut.refl C s6.heap)
   have hCl:Y.env.locals=C:=by rw [ye];rfl
   have freeC:H5 C=none:=by rw [<- hCl];exact I6.free
   have CneL:C≠X.env.locals:=by rw [hC];exact Nat.ne_of_gt I3.lt
   have CnF:C∉X.fs:=I3.nofs (by rw [hC];exact Nat.le_refl _)
   obtain ⟨oC,esC,epC,hoC,hdC,hrC⟩:=id hmm
   have hoC:s6.heap.get? C=some oC:=hoC
   have IXp:Inv X (pins++[(C,oC)]) σ H5 s6:=IX.pins_of fun z hz=>by
    rcases List.mem_append.mp hz with hz | hz
    ·exact IX.pin z (List.mem_append_right _ hz)
    ·rw [List.mem_singleton.mp hz]
     exact ⟨hoC,freeC,CneL,CnF,fun v e=>by rw [hdC] at e;cases e⟩
   have hl:jj < σ.length:=by rw [IX.len];exact (List.getElem?_eq_some_iff.mp hj).1
   refine wpAny_assign_Name (store_ok IXp hN hj hy (v:=.ref q) rfl (fun s7 I7=>?_) hyf)
   have pC:=I7.pin (C,oC) (List.mem_append_right _ (List.mem_append_right _ (List.mem_singleton.mpr rfl)))
   refine ⟨mm,⟨oC,esC,epC,pC.1,hdC,hrC⟩,fun h' hsb=>?_⟩
   have pinsne:∀ p∈X.pn++pins,p.1≠C:=fun z hz e=>by
    have:=(I3.pin z hz).1
    exact absurd (Heap.lt_size this) (by rw [e,hC];exact Nat.lt_irrefl _)
   have cellne:∀ x c,X.env.cells.lookup x=some c->c≠C:=fun x c e z=>by
    obtain ⟨v,qc⟩:=I3.cell x c e
    exact absurd qc.lt (by rw [z,hC];exact Nat.lt_irrefl _)
   have I8:Inv X pins (σ.set jj (some (.ref q))) H5 { s7 with heap:=h' }:=(I7.unpinned).turned (t':=s7.toks) (it:=C) (fun b o hb e=>(hsb.2 b hb).trans e) freeC CneL (.inr (by rw [hC];exact I3.sz)) cellne pinsne
   have RX:Rel X G M5 σ H5:=R3.to g5 (by rw [<- yK];exact R5.mem)
   exact ⟨_,H5,_,M5,I8,(g2.trans gq).trans g5,RX.set hl (is_ref.mpr rfl),fin q acc M5 v5 m5⟩
 have fin0:=codeAny_compStart_list (R:=compPost (model X.prog X.w) X.A X.xe (some (assign (.Name y py) X.env)) (fun _ s'=>SPD X pins H E .next s') (.ref q) C) (loop _ rfl) (TT.self _ 0 _ _ _ stc (loop _ rfl))
 rw [hC] at fin0
 exact fin0
theorem ex_compR {E:EndsD} {y:Str} {py spos p p2:Pos} (jj:Nat) (T:CompOk X own js N scope cl) (hxe:X.xe=fun _ _=>False) (hc:X.calm=true) (hm:X.mg "range" = none) (hN:X.N.Nodup) (hj:X.N[jj]?=some y) (hy:Loc X.env.scope y) (hyf:X.fn y=true\/X.env.scope.names.lookup y=some .local)
  (hsw:swapsWith (.ListComp elt [⟨tg,.Call (.Name "range" p) [e] [] p2,[],0⟩] scope pos) (some (.Name y py)) spos.line X.env=pure true)
  (h:AV X G M [e] fun as M1=>∃ (n:Int) (Iv:Addr->Nat->List D->MH->Prop),as=[.int n]/\0<=n/\n < 1000/\(∀ q,M1 q=none->Iv q 0 [] (mset M1 q (.lst []))) /\
   (∀ Y:Cx,(∃ C s H fp,Y=compCx X N scope cl C s H fp)->∀ q i acc M',i < n.toNat->Iv q i acc M'->M' q=some (.lst acc)->GV Y (compG own js G) M' tg (.int (i:Nat)) fun G3 M3=>M3=M'/\Sub (compG own js G) G3/\EV Y G3 M' elt fun o M4=>M4 q=some (.lst acc)/\acc.length < sizeLine/\Iv q (i+1) (acc++[o]) (mset M4 q (.lst (acc++[o])))) /\
   ∀ q acc M',Iv q n.toNat acc M'->M' q=some (.lst acc)->E.nx (G.set jj (some (.ref q))) M')
  (hg:Gl X "range") (hse:starEach [e] X.env=[(false,eval e X.env)]) (hs:∀ x,foldedSetIterable (.Call (.Name "range" p) [e] [] p2) X.env x=pure x):EX X G M (.Assign [.Name y py] (.ListComp elt [⟨tg,.Call (.Name "range" p) [e] [] p2,[],0⟩] scope pos) spos) E:=by
 refine ex_compI jj T hxe hc (pi_range1 hg hm (pa_D (G:=G)) hse) hN hj hy hyf hsw (fun σ H kf R=>?_) hs
 refine ⟨M,_,R,h,fun vs H' ds M' kf' g i R' q=>?_⟩
 obtain ⟨n,Iv,e,h1,h2,iv0,block,fin⟩:=q
 subst e
 obtain ⟨v,rfl,hv⟩:=isl1 i
 rw [is_int] at hv;subst hv
 refine ⟨n,rfl,by omega,by omega,g,M',(List.range n.toNat).map fun i:Nat=>D.int i,Iv,R',fun q i acc M2 H2 g2 m2 v2=>⟨fun e=>?_,fun hlt=>⟨?_,fun x H3 y=>?_⟩⟩,iv0,fun Y hY q i acc M2 d hd v2 m2=>?_,fun q acc M2 v2 m2=>fin q acc M2 (by rw [List.length_map,List.length_range] at v2;exact v2) m2⟩
 ·show n.toNat<=i
  rw [e,List.length_map,List.length_range];exact Nat.le_refl _
 ·show i < n.toNat
  simpa using hlt
 ·obtain ⟨e,y⟩:=y
  subst e;subst y
  have hlt':i < n.toNat:=by simpa using hlt
  exact ⟨Grow.refl _,fun _ _ z=>z,.int i,by rw [List.getElem?_map,List.getElem?_range hlt'];rfl,is_int.mpr (by simp)⟩
 ·rw [List.getElem?_map] at hd
  have hi:i < n.toNat:=by
   refine Nat.lt_of_not_le fun z=>?_
   rw [List.getElem?_eq_none (by rw [List.length_range];exact z)] at hd;cases hd
  rw [List.getElem?_range hi] at hd
  have hd:D.int (i:Nat)=d:=by simpa using hd
  subst hd
  have:=block Y hY q i acc M2 hi v2 m2
  intro pins s σ H v u I R r i1
  refine thn (this pins s σ H v u I R r i1) fun _ s2 h2=>?_
  obtain ⟨σ2,H2,G2,M3,I2,g2,R2,e1,e2,e3⟩:=h2
  exact ⟨σ2,H2,G2,M3,I2,g2,R2,e1,e2,⟨rfl,by rw [if_pos rfl];exact e3⟩⟩
theorem tvs_mono {Y:Cx} {G:Ga} {M:MH} {cs:List Expr} {Q Q':Bool->MH->Prop} (h:TVs Y G M cs Q) (k:∀ k M',Q k M'->Q' k M'):TVs Y G M cs Q':=by
 unfold TVs at h ⊢
 split at h
 ·exact k _ _ h
 ·exact fun pins s σ H I R=>thn (h pins s σ H I R) fun b s' ⟨H',M',I',g,R',q⟩=>⟨H',M',I',g,R',k _ _ q⟩
 ·exact h
theorem gv_mono {Y:Cx} {G:Ga} {M:MH} {tg:Expr} {d:D} {Q Q':Ga->MH->Prop} (h:GV Y G M tg d Q) (k:∀ G' M',Q G' M'->Q' G' M'):GV Y G M tg d Q' :=
 fun pins s σ H v u I R r i=>thn (h pins s σ H v u I R r i) fun _ s2 ⟨σ2,H2,G2,M2,I2,g2,R2,q⟩=>⟨σ2,H2,G2,M2,I2,g2,R2,k _ _ q⟩
theorem pure_block {M1:MH} {ds:List D} {ifs:List Expr} {f:D->D} {pr:D->Bool} (hz:ds.length<=sizeLine)
  (block:∀ Y:Cx,(∃ C s H fp,Y=compCx X N scope cl C s H fp)->∀ M',Ext M1 M'->∀ d∈ds,GV Y (compG own js G) M' tg d fun G3 M3=>M3=M'/\Sub (compG own js G) G3/\TVs Y G3 M' ifs (fun k M4=>M4=M'/\k=pr d)/\(pr d=true->EV Y G3 M' elt fun o M4=>M4=M'/\o=f d)) :
  ∀ Y:Cx,(∃ C s H fp,Y=compCx X N scope cl C s H fp)->∀ q i acc M' d,ds[i]?=some d->(M1 q=none/\M'=mset M1 q (.lst acc)/\acc=((ds.take i).filter pr).map f)->M' q=some (.lst acc)->GV Y (compG own js G) M' tg d fun G3 M3=>M3=M'/\Sub (compG own js G) G3/\TVs Y G3 M' ifs fun k M4=>M4=M'/\if k=true then EV Y G3 M' elt fun o M5=>M5 q=some (.lst acc)/\acc.length < sizeLine/\(M1 q=none/\mset M5 q (.lst (acc++[o]))=mset M1 q (.lst (acc++[o]))/\acc++[o]=((ds.take (i+1)).filter pr).map f) else (M1 q=none/\M'=mset M1 q (.lst acc)/\acc=((ds.take (i+1)).filter pr).map f):=by
 intro Y hY q i acc M' d hd ⟨hq,hM,hacc⟩ mq
 have hi:i < ds.length:=(List.getElem?_eq_some_iff.mp hd).1
 have tk:(ds.take (i+1)).filter pr=(ds.take i).filter pr++(if pr d then [d] else []):=take_succ_filter pr ds i d hd
 have hl:acc.length<=i:=by
  rw [hacc,List.length_map]
  exact Nat.le_trans (List.length_filter_le _ _) (by rw [List.length_take];omega)
 refine gv_mono (block Y hY M' (by rw [hM];exact ext_new hq) d (List.mem_of_getElem? hd)) fun G3 M3 ⟨e1,e2,e3,e4⟩=>⟨e1,e2,tvs_mono e3 fun k M4 ⟨e5,e6⟩=>⟨e5,?_⟩⟩
 subst e6
 cases hp:pr d with
 | true =>
  rw [if_pos rfl]
  refine (e4 hp).mono fun o M5 ⟨e7,e8⟩=>?_
  subst e7;subst e8
  refine ⟨mq,by omega,hq,by rw [hM,mset_mset],?_⟩
  rw [tk,hp,if_pos rfl,List.map_append,<- hacc];rfl
 | false =>
  rw [if_neg (by decide)]
  refine ⟨hq,hM,?_⟩
  rw [tk,hp,if_neg (by decide),List.append_nil];exact hacc
theorem ex_comp_tup {E:EndsD} {ifs:List Expr} {y:Str} {py spos:Pos} (jj:Nat) (T:CompOk X own js N scope cl) (hxe:X.xe=fun _ _=>False) (hc:X.calm=true) (hN:X.N.Nodup) (hj:X.N[jj]?=some y) (hy:Loc X.env.scope y) (hyf:X.fn y=true\/X.env.scope.names.lookup y=some .local)
  (hsw:swapsWith (.ListComp elt [⟨tg,iter,ifs,0⟩] scope pos) (some (.Name y py)) spos.line X.env=pure true) (f:D->D) (pr:D->Bool)
  (h:EV X G M iter fun d M1=>∃ ds:List D,d=.tup ds/\ds.length<=sizeLine /\
   (∀ Y:Cx,(∃ C s H fp,Y=compCx X N scope cl C s H fp)->∀ M',Ext M1 M'->∀ d∈ds,GV Y (compG own js G) M' tg d fun G3 M3=>M3=M'/\Sub (compG own js G) G3/\TVs Y G3 M' ifs (fun k M4=>M4=M'/\k=pr d)/\(pr d=true->EV Y G3 M' elt fun o M4=>M4=M'/\o=f d)) /\
   ∀ q,M1 q=none->E.nx (G.set jj (some (.ref q))) (mset M1 q (.lst ((ds.filter pr).map f))))
  (hs:∀ x,foldedSetIterable iter X.env x=pure x):EX X G M (.Assign [.Name y py] (.ListComp elt [⟨tg,iter,ifs,0⟩] scope pos) spos) E:=by
 refine ex_compI jj T hxe hc (pi_tup (pe_D (G:=G))) hN hj hy hyf hsw (fun σ H kf R=>?_) hs
 refine ⟨M,_,R,h,fun v H' d M' kf' g i R' q=>?_⟩
 obtain ⟨ds,e,hz,block,fin⟩:=q
 subst e
 rw [is_tup] at i
 obtain ⟨l,xs,rfl,hx,hxi⟩:=i
 have hlen:=hxi.len
 refine ⟨l,rfl,⟨xs,SqT.of hx⟩,g,M',ds,fun q i acc M2=>M' q=none/\M2=mset M' q (.lst acc)/\acc=((ds.take i).filter pr).map f,R',fun q i acc M2 H2 g2 m2 v2=>?_,fun q hq=>⟨hq,rfl,by simp⟩,pure_block hz block,fun q acc M2 ⟨h1,h2,h3⟩ _=>by rw [h2,h3,List.take_length];exact fin q h1⟩
 have hx2:SqT X.K H2 l xs:=SqT.of (g2 _ _ hx)
 refine ⟨fun e=>⟨xs,hx2,by omega⟩,fun hlt=>⟨⟨xs,xs[i]'(by omega),hx2,by simp⟩,fun x H3 y=>?_⟩⟩
 obtain ⟨e,y⟩:=y
 subst e
 have e1:=y xs hx2
 obtain ⟨d,e2,i2⟩:=(hxi.grow g2).get' e1
 exact ⟨Grow.refl _,fun _ _ z=>z,d,e2,i2⟩
end
end D3
namespace D3
open PySem PySem.Spec PyProof.Rows L2
section
variable {X:Cx} {G:Ga} {M:MH} {o e:Expr} {Q:DK} {apos cpos pos:Pos}
end
end D3
namespace D3
open PySem PySem.Spec PyProof.Rows L2
section
variable {X:Cx} {G:Ga} {M:MH} {o e:Expr} {Q:DK} {apos cpos pos:Pos}
end
section
variable {X:Cx} {G:Ga} {M:MH} {own:List Str} {js:List Nat} {N:List Str} {scope:Scope} {elt tg iter:Expr} {pos:Pos}
end
end D3
namespace D3
open PySem PySem.Spec PyProof.Rows L2
section
variable {X:Cx} {G:Ga} {M:MH} {elt tg iter:Expr} {ifs:List Expr} {scope:Scope} {pos:Pos} {Q:DK} {own:List Str} {js:List Nat} {N:List Str} {cl:List (Str × Addr)}
end
end D3
namespace D3
open PySem PySem.Spec PyProof.Rows L2
section
variable {P:Program} {w:World} {B:Around} {Z:Value->Shared->Prop} {c t:Addr} {a:Nat} {xs:Array Value} {st:Shared} {R:Value->Shared->Prop}
end
end D3
namespace D3
open PySem PySem.Spec PyProof.Rows L2
open AutoSeq1 (wpAny_loadPart')
theorem turned2 {X:Cx} {pins:List (Addr × Obj)} {σ:St} {H:Hp} {s:Shared} {g:Heap} {e it:Addr} {tk:Nat} (I:L2.Inv X pins σ H s) (fe:FpOk X pins H e) (fi:FpOk X pins H it) (ne:e≠it)
  (he:∃ o,s.heap.get? e=some o) (hi:∃ o,s.heap.get? it=some o) (ke:∃ o,g.get? e=some o) (ki:∃ o,g.get? it=some o) (k:∀ b o,b≠e->b≠it->s.heap.get? b=some o->g.get? b=some o) :
  ∃ m:Heap,L2.Inv X pins σ H { s with heap:=m,toks:=tk }/\m.objs.size=s.heap.objs.size/\∀ b o,m.get? b=some o->g.get? b=some o:=by
 obtain ⟨oe,he⟩:=he
 obtain ⟨oi,hi⟩:=hi
 obtain ⟨ue,ke⟩:=ke
 obtain ⟨ui,ki⟩:=ki
 obtain ⟨a0,a1,a2,a3,a4,a5⟩:=fi
 obtain ⟨b0,b1,b2,b3,b4,b5⟩:=fe
 have s1:Heap.SameBut it s.heap (s.heap.update it fun _=>ui):=Heap.SameBut.update ..
 have s2:Heap.SameBut e (s.heap.update it fun _=>ui) ((s.heap.update it fun _=>ui).update e fun _=>ue):=Heap.SameBut.update ..
 have g1:(s.heap.update it fun _=>ui).get? it=some ui:=Heap.get?_update_self (fun _=>ui) hi (Heap.get?_some_iff.mp ki).2
 have g2:((s.heap.update it fun _=>ui).update e fun _=>ue).get? e=some ue:=Heap.get?_update_self (fun _=>ue) ((s1.2 e ne).trans he) (Heap.get?_some_iff.mp ke).2
 have I1:L2.Inv X pins σ H { s with heap:=s.heap.update it fun _=>ui }:=I.turned (t':=s.toks) (fun b o hb q=>(s1.2 b hb).trans q) a0 a1 a3 a4 a5
 have I2:L2.Inv X pins σ H { s with heap:=(s.heap.update it fun _=>ui).update e fun _=>ue,toks:=tk }:=I1.turned (fun b o hb q=>(s2.2 b hb).trans q) b0 b1 b3 b4 b5
 refine ⟨_,I2,s2.1.trans s1.1,fun b o q=>?_⟩
 by_cases z:b=e
 ·subst z;rw [g2] at q;rw [<- q];exact ke
 ·rw [s2.2 b z] at q
  by_cases z':b=it
  ·subst z';rw [g1] at q;rw [<- q];exact ki
  ·rw [s1.2 b z'] at q
   exact k b o z z' q
section
variable {X:Cx} {ts:List Expr} {n:Nat} {tp:Pos}
end
section
variable {X:Cx} {G:Ga} {M:MH} {ts:List Expr} {n:Nat} {tp pos:Pos} {e:Expr} {body:List Stmt} {E:EndsD}
end
section
variable {X:Cx} {G:Ga} {M:MH} {elt e:Expr} {ts ifs:List Expr} {n:Nat} {tp p ep:Pos} {scope:Scope} {pos:Pos} {Q:DK} {own:List Str} {js:List Nat} {N:List Str} {cl:List (Str × Addr)}
end
end D3
namespace D3
open PySem PySem.Spec PyProof.Rows L2
section
variable {P:Program} {w:World} {B:Around} {Z:Value->Shared->Prop} {st:Shared} {z TI TO i1 i2:Addr} {f1 f2:List Addr} {n1 n2 k:Nat} {p1 p2:Nat->Value->Prop} {S1 S2:Nat->Heap->Prop} {a b:Value}
end
end D3
namespace D3
open PySem PySem.Spec PyProof.Rows L2
section
variable {X:Cx} {ts:List Expr} {n:Nat} {tp:Pos}
end
end D3
namespace D3
open PySem PySem.Spec PyProof.Rows L2
section
variable {X:Cx} {G:Ga} {M:MH} {ts:List Expr} {n:Nat} {tp pos:Pos} {e1 e2:Expr} {body:List Stmt} {E:EndsD}
end
section
variable {X:Cx} {G:Ga} {M:MH} {elt e1 e2:Expr} {ts ifs:List Expr} {n:Nat} {tp p ep:Pos} {scope:Scope} {pos:Pos} {Q:DK} {own:List Str} {js:List Nat} {N:List Str} {cl:List (Str × Addr)}
end
end D3
namespace D3
open PySem PySem.Spec PyProof.Rows L2
section
variable {X:Cx} {G:Ga} {M:MH} {a b:Expr} {pos:Pos} {Q:DK}
end
end D3
namespace D3
open PySem PySem.Spec PyProof.Rows L2
section
variable {X:Cx} {G:Ga} {M:MH} {o e a b:Expr} {es:List Expr} {pos:Pos} {Q:DK}
theorem ev_gstr {x y:Str} {t:Tok} (hm:X.mg x=some (.str y t)) (q:Q (.str y) M) (hg:Gl X x:=by rfl) (hd:(x == ("__debug__" : Str))=false:=by decide):EV X G M (.Name x pos) Q :=
 EV.of (pe_glob (v:=.str y) hg hm ⟨_,rfl⟩ hd) fun σ H kf R=>show _ from fun _=>⟨Grow.refl _,_,M,is_str.mpr rfl,R.mem,q⟩
theorem bootStrT:bootBuiltins "str" = some (.type "str"):=by decide +kernel
theorem ev_strI {p:Pos} (hm:X.mg "str" = none) (h:AV X G M [e] fun ds M1=>∃ i:Int,ds=[.int i]/\i.natAbs.log2 < 1920/\Q (.str (toString i)) M1) (hg:Gl X "str" := by rfl)
  (he:starEach [e] X.env=(false,eval e X.env) :: starEach [] X.env:=by rfl) (hpl:(backTo pos (starEach ([] : List Expr) X.env)).any (·.1)=false:=by rfl):EV X G M (.Call (.Name "str" p) [e] [] pos) Q :=
 ev_callTy call_str_int hm bootStrT (h.mono fun ds M1 ⟨i,e1,hz,q⟩=>fun H xs kf hx m=>by
  subst e1
  obtain ⟨v,rfl,hv⟩:=isl1 hx
  rw [is_int] at hv;subst hv
  exact ⟨i,rfl,hz,fun _=>⟨Grow.refl _,_,M1,is_str.mpr rfl,m,q⟩⟩) hg (by decide) (by decide) he hpl
def repS (z:Str) (n:Nat):Str:=⟨(List.replicate n z.cps).foldl (·++·) #[]⟩
theorem repS_one (z:Str):repS z 1=z:=by unfold repS;simp
def rRepS:R2:=fun x y H Q=>∃ (z:Str) (k:Int),x=.str z/\y=.int k/\0<=k/\1<=z.length/\k<=1000/\z.length<=1000/\Q (.str (repS z k.toNat)) H
theorem len_foldl (n:Nat) (c:Array Nat):∀ acc:Array Nat,((List.replicate n c).foldl (·++·) acc).size=acc.size+n * c.size:=by
 induction n with
 | zero=>intro acc;simp
 | succ n ih=>intro acc;rw [List.replicate_succ,List.foldl_cons,ih,Array.size_append,Nat.succ_mul];omega
theorem len_repS (z:Str) (n:Nat):(repS z n).length=n * z.length:=by
 show (repS z n).cps.size=n * z.cps.size
 unfold repS
 rw [len_foldl];simp
theorem op_repS:OpR X (binaryOp .Mult) rRepS:=by
 intro pins s σ H x y v u Q I rx ry h
 obtain ⟨z,k,rfl,rfl,h0,h1,hk,hz,q⟩:=h
 obtain ⟨t,rfl⟩:=(show ∃ t,v=Value.str z t from rx)
 obtain ⟨t',rfl⟩:=(show ∃ t,u=Value.int k t from ry)
 have hm:z.length * k.toNat<=1000000:=Nat.le_trans (Nat.mul_le_mul hz (show k.toNat<=1000 by omega)) (by decide)
 refine PySem.P.mul_str ?_ ?_ ?_ ?_
 ·rw [decide_eq_false (by omega),decide_eq_false (by omega)];rfl
 ·intro n1 _
  have:(1000:Int)<=(2 ^ 63 - 1) / k:=Int.le_ediv_of_mul_le (by omega) (by omega)
  omega
 ·intro _ _
  unfold Builtin.Str.tooLong
  exact decide_eq_false (by unfold sizeLine;omega)
 ·by_cases hk0:k < 1
  ·have:k=0:=by omega
   subst this
   rw [if_pos (by decide)]
   exact ⟨by decide,⟨.str _,H,I.tok _,⟨_,rfl⟩,q⟩⟩
  ·rw [if_neg hk0]
   by_cases hk1:k=1
   ·subst hk1
    rw [if_pos (by simp)]
    refine ⟨.str z,H,I,⟨_,rfl⟩,?_⟩
    have:=q
    rw [show (1:Int).toNat=1 from rfl,repS_one] at this
    exact this
   ·rw [if_neg (by simp;exact ⟨hk1,by omega⟩)]
    refine ⟨?_,⟨.str _,H,I.tok _,⟨_,rfl⟩,q⟩⟩
    have:=len_repS z k.toNat
    unfold repS at this
    rw [this]
    rw [Nat.mul_comm]
    unfold sizeLine
    omega
theorem ev_repS (h:EV X G M a fun da Ma=>EV X G Ma b fun db Mb=>∃ (z:Str) (k:Int),da=.str z/\db=.int k/\0<=k/\1<=z.length/\k<=1000/\z.length<=1000/\Q (.str (repS z k.toNat)) Mb):EV X G M (.BinOp a .Mult b pos) Q :=
 ev_op op_repS (h.mono fun da Ma q0=>q0.mono fun db Mb ⟨z,k,e1,e2,h0,h1,hk,hz,q⟩=>fun H x y kf hx hy m=>by
  subst e1;subst e2
  rw [is_str] at hx;rw [is_int] at hy;subst hx;subst hy
  exact ⟨z,k,rfl,rfl,h0,h1,hk,hz,fun _=>⟨Grow.refl _,_,Mb,is_str.mpr rfl,m,q⟩⟩)
def rJoin:V->List V->Hp->VK->Prop:=fun x vs H Q=>∃ (z:Str) (l:Addr) (ys:List Str),x=.str z/\vs=[.ref l]/\H l=some (.lst (ys.map V.str))/\(ys.map (·.length)).sum+ys.length * z.length<=16777216/\Q (.str (Txt.join z ys)) H
theorem strs_valsJ:∀ {ys:List Str} {its:List Value},Vals (ys.map V.str) its->StrsAre its ys
 | [],_,.nil=>.nil
 | y :: ys,_,.cons r q=>by
  obtain ⟨t,rfl⟩:=(show ∃ t,_=Value.str y t from r)
  exact .cons y t (strs_valsJ q)
theorem mt_join:MtR X "str.join" rJoin:=by
 intro pins s σ H x vs v us Q I rx rv h
 obtain ⟨z,l,ys,rfl,rfl,hH,hz,q⟩:=h
 obtain ⟨t,rfl⟩:=(show ∃ t,v=Value.str z t from rx)
 obtain ⟨u,rfl,ru⟩:=rv.one
 cases ru
 obtain ⟨_,its,n,r,hl,e⟩:=I.lstM hH
 exact join_list (items:=its.toArray) ⟨_,e,rfl,n,rfl⟩ (by simpa using strs_valsJ r) hz fun t' k=>⟨.str _,H,I.tok _,⟨_,rfl⟩,q⟩
theorem ev_join {apos cpos:Pos} (h:EV X G M o fun d M1=>∃ z,d=.str z/\EV X G M1 e fun d2 M2=>∃ (l:Addr) (ys:List Str),d2=.ref l/\M2 l=some (.lst (ys.map D.str))/\(ys.map (·.length)).sum+ys.length * z.length<=16777216/\Q (.str (Txt.join z ys)) M2)
  (hbase:attributeBase o "join" X.env (eval o X.env)=eval o X.env)
  (hfew:((backTo cpos (starEach [e] X.env)).all (fun x=>!x.1) && (backToKw cpos (keywordEach [] X.env)).all (fun x=>x.1.isSome) && decide (([e] : List Expr).length+([] : List Keyword).length+(if ([] : List Keyword).isEmpty then 0 else 1) < 30))=true)
  (hline:(apos.endLine == cpos.line)=true) (hs:starEach [e] X.env=(false,eval e X.env) :: starEach [] X.env) (hplain:(backTo cpos (starEach ([] : List Expr) X.env)).any (·.1)=false) :
  EV X G M (.Call (.Attribute o "join" apos) [e] [] cpos) Q:=by
 refine EV.of (pe_bm PySem.F.plainAttrs_str PySem.F.slot_str_join PySem.F.type_str_join mt_join (pe_D (G:=G)) (pa_D (G:=G) (es:=[e])) hbase hfew hline hs hplain) fun σ H kf R=>?_
 refine ⟨M,_,R,h,fun v H' d M' kf' g i R' q=>?_⟩
 obtain ⟨z,rfl,q⟩:=q
 rw [is_str] at i;subst i
 refine ⟨rfl,M',fun ds2 M2=>∃ d2,ds2=[d2]/\∃ (l:Addr) (ys:List Str),d2=.ref l/\M2 l=some (.lst (ys.map D.str))/\(ys.map (·.length)).sum+ys.length * z.length<=16777216/\Q (.str (Txt.join z ys)) M2,R',av_cons (q.mono fun d2 M2 q2=>av_nil ⟨d2,rfl,q2⟩) hs,fun vs H2 ds2 M2 kf2 g2 i2 R2 q2=>?_⟩
 obtain ⟨d2,rfl,l,ys,rfl,hl,hz,q2⟩:=q2
 obtain ⟨v2,rfl,hv2⟩:=isl1 i2
 rw [is_ref] at hv2;subst hv2
 obtain ⟨xs,hx,hi⟩:=R2.mem l _ hl
 rw [isl_strs hi] at hx
 exact ⟨z,l,ys,rfl,rfl,hx,hz,fun _=>⟨g.trans g2,_,M2,is_str.mpr rfl,R2.mem,q2⟩⟩
end
end D3
namespace D3
open PySem PySem.Spec PyProof.Rows L2
open AutoSeq1 (wpAny_loadPart')
section
variable {P:Program} {w:World} {B:Around} {Z:Value->Shared->Prop} {st:Shared} {t it:Addr} {xs:Array Value}
end
section
variable {X:Cx} {tg:Expr}
end
section
variable {X:Cx} {G:Ga} {M:MH} {elt tg e:Expr} {ifs:List Expr} {scope:Scope} {pos p ep:Pos} {own:List Str} {js:List Nat} {N:List Str} {cl:List (Str × Addr)}
end
end D3
namespace D3
open PySem PySem.Spec PyProof.Rows L2
def Two (K:PySem.W.Frag) (w:World) (a:Addr) (k1 v1 k2 v2:Str):Prop:=∃ t1 u1 t2 u2 n,K.lookup a=some { cls:=.type "dict",data:=.dict #[⟨PyData.keyHash w.params k1,.str k1 t1,.str v1 u1⟩,⟨PyData.keyHash w.params k2,.str k2 t2,.str v2 u2⟩] n }
theorem Two.mk' {K:PySem.W.Frag} {w:World} {a:Addr} {k1 v1 k2 v2:Str} {t1 u1 t2 u2:Tok} {n:Nat} (h:K.lookup a=some { cls:=.type "dict",data:=.dict #[⟨PyData.keyHash w.params k1,.str k1 t1,.str v1 u1⟩,⟨PyData.keyHash w.params k2,.str k2 t2,.str v2 u2⟩] n }):Two K w a k1 v1 k2 v2:=⟨t1,u1,t2,u2,n,h⟩
section
variable {X:Cx} {G:Ga} {M:MH} {e:Expr} {pos:Pos} {Q:DK}
theorem ix_two {a:Addr} {k1 v1 k2 v2:Str} (hd:Two X.K X.w a k1 v1 k2 v2) (hne:k1≠k2):IxR X (fun x y H Q=>∃ k,x=.ref a/\y=.str k/\(k=k1\/k=k2)/\Q (.str (if k=k1 then v1 else v2)) H):=by
 intro value slice pins s σ H x y v u Q I rx ry h hs
 obtain ⟨k,rfl,rfl,hk,q⟩:=h
 cases rx
 obtain ⟨t,rfl⟩:=(show ∃ t,u=Value.str k t from ry)
 obtain ⟨t1,u1,t2,u2,n,hd⟩:=hd
 have hg:=I.kIn _ _ hd
 have dd:s.heap.DictOf (mixKind X.prog X.w) a [(.inr k1,.str v1 u1),(.inr k2,.str v2 u2)]:=by
  refine ⟨_,_,n,hg,⟨rfl,rfl,rfl⟩,rfl,?_,?_,?_⟩
  ·intro e he
   simp at he
   rcases he with rfl | rfl
   ·exact ⟨.inr k1,mixKind_str _ _ _ _,rfl⟩
   ·exact ⟨.inr k2,mixKind_str _ _ _ _,rfl⟩
  ·exact .cons (mixKind_str _ _ _ _) rfl (.cons (mixKind_str _ _ _ _) rfl .nil)
  ·simp [hne]
 by_cases e1:k=k1
 ·subst e1
  rw [if_pos rfl] at q
  exact tail_any dd.typeIs PySem.F.slot_dict_getitem.lookup (wpAny_getItem_of (mixKind_str _ _ k t) dd.mapOf (v:=.str v1 u1) (by simp [valueAt]) ⟨.str v1,H,I.tok _,⟨_,rfl⟩,q⟩) hs
 ·rw [if_neg e1] at q
  have e2:=hk.resolve_left e1
  subst e2
  exact tail_any dd.typeIs PySem.F.slot_dict_getitem.lookup (wpAny_getItem_of (mixKind_str _ _ k t) dd.mapOf (v:=.str v2 u2) (by simp [valueAt,hne]) ⟨.str v2,H,I.tok _,⟨_,rfl⟩,q⟩) hs
theorem ev_two {x:Str} {p:Pos} {a:Addr} {k1 v1 k2 v2:Str} (hd:Two X.K X.w a k1 v1 k2 v2) (hne:k1≠k2) (hm:X.mg x=some (.ref a)) (h:EV X G M e fun d M1=>∃ k,d=.str k/\(k=k1\/k=k2)/\Q (.str (if k=k1 then v1 else v2)) M1)
  (hg:Gl X x:=by rfl) (hdb:(x == ("__debug__" : Str))=false:=by decide) (hs:PlainIx e:=by intro _ _;rfl):EV X G M (.Subscript (.Name x p) e pos) Q:=by
 refine ev_ix (ix_two hd hne) hs ?_
 refine EV.of (pe_glob (v:=.ref a) hg hm rfl hdb) fun σ H kf R=>show _ from fun _=>⟨Grow.refl _,.ref a,M,is_ref.mpr rfl,R.mem,?_⟩
 refine h.mono fun d M1 ⟨k,e1,hk,q⟩=>?_
 subst e1
 intro H x y kf hx hy m
 rw [is_ref] at hx;rw [is_str] at hy;subst hx;subst hy
 exact ⟨k,rfl,rfl,hk,fun _=>⟨Grow.refl _,_,M1,is_str.mpr rfl,m,q⟩⟩
end
end D3
namespace D3
open PySem PySem.Spec PyProof.Rows L2
section
variable {X:Cx} {G:Ga} {M:MH} {elt tg iter:Expr} {scope:Scope} {pos:Pos} {Q:DK} {own:List Str} {js:List Nat} {N:List Str} {cl:List (Str × Addr)}
end
section
variable {X:Cx} {G:Ga} {M:MH} {c:Expr} {pos:Pos} {E:EndsD}
end
end D3
namespace D3
open PySem PySem.Spec PyProof.Rows L2
theorem IsL.rev {H:Hp}:∀ {ds:List D} {vs:List V},IsL H ds vs->IsL H ds.reverse vs.reverse
 | [],vs,h=>by rw [isl_nil] at h;subst h;exact isl_nil.mpr rfl
 | d :: ds,vs,h=>by
  rw [isl_cons] at h
  obtain ⟨x,r,rfl,h1,h2⟩:=h
  rw [List.reverse_cons,List.reverse_cons]
  exact (IsL.rev h2).app (isl_cons.mpr ⟨x,[],rfl,h1,isl_nil.mpr rfl⟩)
theorem IsL.init {H:Hp} {ds:List D} {d:D} {vs:List V} (h:IsL H (ds++[d]) vs):∃ us u,vs=us++[u]/\IsL H ds us/\Is H d u:=by
 have h1:=h.rev
 rw [List.reverse_append] at h1
 obtain ⟨u,r,e,k1,k2⟩:=isl_cons.mp h1
 refine ⟨r.reverse,u,?_,?_,k1⟩
 ·have:=congrArg List.reverse e
  simpa using this
 ·have:=k2.rev
  simpa using this
section
variable {X:Cx} {G:Ga} {M:MH} {o e:Expr} {Q:DK} {apos cpos:Pos}
theorem ev_pop (h:EV X G M o fun d M1=>∃ p ds x,d=.ref p/\M1 p=some (.lst (ds++[x]))/\Q x (mset M1 p (.lst ds)))
  (hbase:attributeBase o "pop" X.env (eval o X.env)=eval o X.env) (hline:(apos.endLine == cpos.line)=true):EV X G M (.Call (.Attribute o "pop" apos) [] [] cpos) Q:=by
 refine EV.of (pe_bm0 PySem.F.plainAttrs_list PySem.F.slot_list_pop PySem.F.type_list_pop mt_pop (pe_D (G:=G)) hbase hline) fun σ H kf R=>?_
 refine ⟨M,_,R,h,fun v H' d M' kf' g i R' q=>?_⟩
 obtain ⟨p,ds,x,rfl,hp,q⟩:=q
 rw [is_ref] at i;subst i
 obtain ⟨xs,hx,hxi⟩:=R'.mem p _ hp
 obtain ⟨us,u,rfl,h1,h2⟩:=hxi.init
 have nt:∀ ys,H' p≠some (.tup ys):=fun ys z=>by rw [hx] at z;cases z
 have gu:Grow H' (upd H' p (.lst us)):=grow_upd nt
 refine ⟨tyL hx,p,us++[u],u,rfl,rfl,hx,by simp,?_⟩
 rw [List.dropLast_concat]
 exact fun _=>⟨g.trans gu,x,_,Is.grow gu _ _ h2,R'.mem.put (u:=.lst ds) nt ⟨_,upd_same,h1.grow gu⟩,q⟩
end
end D3
namespace D3
open PySem PySem.Spec PyProof.Rows L2
section
variable {X:Cx} {G:Ga} {M:MH} {e:Expr} {Q:DK} {pos:Pos}
end
end D3
namespace D3
open PySem PySem.Spec PyProof.Rows L2
section
variable {P:Program} {w:World} {B:Around} {R:Result->Shared->Prop} {I:Addr} {fp wr:List Addr} {n:Nat} {Pi:Nat->Value->Prop} {St:Nat->Heap->Prop}
end
section
variable {P:Program} {w:World} {B:Around} {Z:Value->Shared->Prop} {st:Shared} {Q:Value->Shared->Prop}
end
section
variable {X:Cx} {G:Ga} {M:MH} {e:Expr} {Q:DK} {pos p kp np:Pos}
end
end D3
namespace D3
open PySem PySem.Spec PyProof.Rows L2
section
variable {X:Cx} {G:Ga} {M:MH} {a b:Expr} {pos:Pos}
theorem tv_isnot {Qb:Bool->MH->Prop} (h:EV X G M a fun da Ma=>EV X G Ma b fun db Mb=>∃ k,IsDv da db k/\db=.non/\Qb (!k) Mb):TV X G M (.Compare a [.IsNot] [b] pos) Qb :=
 tv_cmp op_notN (nomark _) (h.mono fun _ _ h1=>h1.mono fun _ Mb ⟨k,e1,e2,q⟩=>by
  intro H x y kf hx hy m
  subst e2
  have hy':=hy
  rw [is_non] at hy'
  rcases isD_val e1 hx hy with ⟨i,j,e3,e4,e⟩ | ⟨_,e⟩
  ·rw [hy'] at e4;cases e4
  ·exact ⟨hy',fun _=>⟨Grow.refl _,.bl (!k),Mb,is_bl.mpr (by rw [e]),m,!k,rfl,q⟩⟩)
end
end D3
namespace D3
open PySem PySem.Spec PyProof.Rows L2
section
variable {X:Cx} {tg:Expr}
end
section
variable {X:Cx} {G:Ga} {M:MH} {a b c:Expr} {tg:Expr} {body:List Stmt} {pos:Pos} {E:EndsD}
theorem isl3 {H:Hp} {x y z:D} {vs:List V} (h:IsL H [x,y,z] vs):∃ u v w,vs=[u,v,w]/\Is H x u/\Is H y v/\Is H z w:=by
 obtain ⟨u,r,rfl,h1,h⟩:=isl_cons.mp h
 obtain ⟨v,r,rfl,h2,h⟩:=isl_cons.mp h
 obtain ⟨w,r,rfl,h3,h⟩:=isl_cons.mp h
 rw [isl_nil.mp h]
 exact ⟨u,v,w,rfl,h1,h2,h3⟩
end
end D3
namespace D3
open PySem PySem.Spec PyProof.Rows L2
section
variable {X:Cx} {G:Ga} {M:MH} {a b e:Expr} {pos:Pos} {Q:DK} {Qb:Bool->MH->Prop} {pins:List (Addr × Obj)} {σ:St} {H:Hp} {s:Shared}
theorem reads_lst (I:L2.Inv X pins σ H s) (m:MemOk X.K M H) {l:Addr} {ds:List D} (h:M l=some (.lst ds)) (hi:immL ds=true):∃ as,Reads s.heap (.ref l) (.list (pdL ds)) as:=by
 obtain ⟨xs,e1,e2⟩:=m l _ h
 obtain ⟨z,its,n,rv,hl,eo⟩:=I.lstM e1
 obtain ⟨as,q⟩:=readsAll_of I ds xs its e2 rv hi
 exact ⟨_,.list eo rfl rfl (by simpa using q)⟩
def EqX (da db:D) (M:MH) (Qb:Bool->MH->Prop):Prop:=match da,db with
 | .ref l,.ref k=>∃ xs ys,M l=some (.lst xs)/\M k=some (.lst ys)/\immL xs=true/\immL ys=true/\PyData.depthAll (pdL xs)<=59/\Qb (PyData.eqvAll (pdL xs) (pdL ys)) M
 | _,_=>EqL da db M Qb
theorem eqx_l {l k:Addr} {xs ys:List D} (h1:M l=some (.lst xs)) (h2:M k=some (.lst ys)) (i1:immL xs=true) (i2:immL ys=true) (hd:PyData.depthAll (pdL xs)<=59) (q:Qb (PyData.eqvAll (pdL xs) (pdL ys)) M):EqX (.ref l) (.ref k) M Qb:=⟨xs,ys,h1,h2,i1,i2,hd,q⟩
theorem eqvAll_refl {xs:List D} (h:immL xs=true):PyData.eqvAll (pdL xs) (pdL xs)=true:=by
 have:=PySem.SeqAt.eqv_refl (pd (.tup xs)) (canLay_imm _ (by simp only [imm];exact h))
 simp only [pd,PyData.eqv] at this
 exact this
theorem eqx_same {l k:Addr} {xs:List D} (h1:M l=some (.lst xs)) (h2:M k=some (.lst xs)) (i1:immL xs=true) (hd:PyData.depthAll (pdL xs)<=59) (q:Qb true M):EqX (.ref l) (.ref k) M Qb :=
 eqx_l h1 h2 i1 i1 hd (by rw [eqvAll_refl i1];exact q)
theorem eqX_run {neg:Bool} {op:CmpOp} (ho:op=if neg then .NotEq else .Eq) (hu:X.A.units+64 < cLine) {da db:D} {x y:V} {v u:Value} (I:L2.Inv X pins σ H s) (R:Rel X G M σ H) (i1:Is H da x) (i2:Is H db y) (r1:RelV x v) (r2:RelV y u)
  (h:EqX da db M fun k M'=>Q (.bl (if neg then !k else k)) M'):wpAny (model X.prog X.w) X.A (compareOp op v u) (EPD X pins σ G H Q) X.xe s:=by
 unfold EqX at h
 split at h
 ·rename_i l k
  obtain ⟨xs,ys,h1,h2,m1,m2,hd,q⟩:=h
  rw [is_ref] at i1 i2;subst i1;subst i2
  cases r1;cases r2
  obtain ⟨as,ra⟩:=reads_lst I R.mem h1 m1
  obtain ⟨bs,rb⟩:=reads_lst I R.mem h2 m2
  have c1:(PyData.list (pdL xs)).canLay0=true:=by simp only [PyData.canLay0];exact canLayL_imm xs m1
  have c2:(PyData.list (pdL ys)).canLay0=true:=by simp only [PyData.canLay0];exact canLayL_imm ys m2
  have hdp:(PyData.list (pdL xs)).depth<=60:=by simp only [PyData.depth];omega
  have hmin:min (PyData.list (pdL xs)).depth (PyData.list (pdL ys)).depth<=(PyData.list (pdL xs)).depth:=Nat.min_le_left _ _
  have ee:PyData.eqv (.list (pdL xs)) (.list (pdL ys))=PyData.eqvAll (pdL xs) (pdL ys):=by simp only [PyData.eqv]
  subst ho
  cases neg with
  | false=>exact PySem.SeqAt.compareEq_reads ra rb c1 c2 (by omega) ⟨.bl _,H,.bl _,M,I,rfl,Grow.refl _,is_bl.mpr rfl,R,by rw [ee];exact q⟩
  | true=>exact PySem.SeqAt.compareNe_reads ra rb c1 c2 (by omega) ⟨.bl _,H,.bl _,M,I,rfl,Grow.refl _,is_bl.mpr rfl,R,by rw [ee];exact q⟩
 ·exact eqL_run ho hu I R i1 i2 r1 r2 h
theorem lx_eq (hu:X.A.units+64 < cLine) (h:EV X G M a fun da Ma=>EV X G Ma b fun db Mb=>EqX da db Mb fun k M'=>Q (.bl k) M'):EV X G M (.Compare a [.Eq] [b] pos) Q:=by
 intro pins s σ H I R
 refine wpAny_Compare1 ?_ (nomark _)
 refine thn (h pins s σ H I R) fun v s1 ⟨x,H1,da,Ma,I1,r1,g1,i1,R1,q1⟩=>?_
 refine thn (q1 pins s1 σ H1 I1 R1) fun u s2 ⟨y,H2,db,Mb,I2,r2,g2,i2,R2,q⟩=>?_
 exact thn (eqX_run (neg:=false) rfl hu I2 R2 (Is.grow g2 _ _ i1) i2 r1 r2 q) fun _ _ h=>h.grow (g1.trans g2)
theorem EqX.to {da db:D} (h:EqX da db M Qb) {Qc:Bool->MH->Prop} (k:∀ b M',Qb b M'->Qc b M'):EqX da db M Qc:=by
 unfold EqX at h ⊢
 split at h
 ·obtain ⟨xs,ys,h1,h2,m1,m2,hd,q⟩:=h
  exact ⟨xs,ys,h1,h2,m1,m2,hd,k _ _ q⟩
 ·exact ⟨h.1,k _ _ h.2⟩
theorem lxt_eq (hu:X.A.units+64 < cLine) (h:EV X G M a fun da Ma=>EV X G Ma b fun db Mb=>EqX da db Mb Qb):TV X G M (.Compare a [.Eq] [b] pos) Qb:=by
 refine tv_cval (nomark _) fun pins s σ H I R=>?_
 refine thn (h pins s σ H I R) fun v s1 ⟨x,H1,da,Ma,I1,r1,g1,i1,R1,q1⟩=>?_
 refine thn (q1 pins s1 σ H1 I1 R1) fun u s2 ⟨y,H2,db,Mb,I2,r2,g2,i2,R2,q⟩=>?_
 exact thn (eqX_run (neg:=false) rfl hu I2 R2 (Is.grow g2 _ _ i1) i2 r1 r2 (Q:=fun d M'=>∃ k,d=.bl k/\Qb k M') (q.to fun b M' q=>⟨_,rfl,q⟩)) fun _ _ h=>h.grow (g1.trans g2)
def rNilT:R2:=fun x y H Q=>∃ a b,x=.ref a/\y=.ref b/\H a=some (.tup [])/\(∃ ys,H b=some (.tup ys))/\Q (.ref b) H
theorem op_nilT:OpR X (binaryOp .Add) rNilT:=by
 intro pins s σ H x y v u Q I rx ry h
 obtain ⟨a,b,rfl,rfl,ha,⟨ys,hb⟩,q⟩:=h
 cases rx
 cases ry
 obtain ⟨its,r1,p1,_⟩:=I.tuple (SqT.of ha)
 obtain ⟨its2,r2,p2,_⟩:=I.tuple (SqT.of hb)
 cases r1
 obtain ⟨⟨cls,dd,data,sl⟩,ho,hc,n,hd⟩:=id p1
 obtain ⟨⟨cls2,dd2,data2,sl2⟩,ho2,hc2,n2,hd2⟩:=id p2
 simp only at hc hd hc2 hd2
 subst hc hd hc2 hd2
 exact concat_meets ⟨_,ho,rfl⟩ ⟨_,ho2,rfl⟩ noFill_tuple_add seq_tuple_add PySem.F.slot_tuple_add PySem.F.entry_tuple_add (PySem.F.args_tuple_add_2 _ _)
  (tuple_addW0 a b _ _ n n2 dd dd2 sl sl2 rfl) ⟨ho,ho2,⟨.ref b,H,I,rfl,q⟩⟩
theorem ev_addT (h:EV X G M a fun da Ma=>EV X G Ma b fun db Mb=>∃ xs ys,da=.tup xs/\db=.tup ys/\xs.length+ys.length<=sizeLine/\Q (.tup (xs++ys)) Mb):EV X G M (.BinOp a .Add b pos) Q :=
 ev_op (op_nilT.or op_addAll) (h.mono fun _ _ h1=>h1.mono fun _ Mb ⟨xs,ys,e1,e2,hz,q⟩=>by
  subst e1;subst e2
  by_cases hx:xs=[]
  ·subst hx
   intro H x y kf hx hy m
   rw [is_tup] at hx hy
   obtain ⟨l,us,rfl,hl,hu⟩:=hx
   obtain ⟨k,ws,rfl,hk,hw⟩:=hy
   rw [isl_nil] at hu;subst hu
   exact .inl ⟨l,k,rfl,rfl,hl,⟨ws,hk⟩,fun _=>⟨Grow.refl _,_,Mb,is_tup.mpr ⟨k,ws,rfl,hk,hw⟩,m,q⟩⟩
  ·intro H x y kf hx' hy' m
   exact .inr (rd_add (add_tt hx hz q) H x y kf hx' hy' m))
end
end D3
namespace D3
open PySem PySem.Spec PyProof.Rows L2
section
variable {prog:Program} {w:World} {A:Around} {E:Value->Shared->Prop} {s:Shared}
end
section
variable {X:Cx} {G:Ga} {M:MH} {e:Expr} {pos:Pos} {Q:DK}
end
end D3
namespace D3
open PySem PySem.Spec PyProof.Rows L2
section
variable {X:Cx} {G:Ga} {M:MH} {o e f:Expr} {Q:DK} {apos cpos pos:Pos}
theorem bootAll:bootBuiltins "all" = some (.builtin "all"):=by decide +kernel
theorem isl_bools {H:Hp}:∀ {bs:List Bool} {vs:List V},IsL H (bs.map D.bl) vs->vs=bs.map V.bl
 | [],vs,h=>by rw [List.map_nil,isl_nil] at h;subst h;rfl
 | n :: ns,vs,h=>by
  rw [List.map_cons,isl_cons] at h
  obtain ⟨x,r,rfl,h1,h2⟩:=h
  rw [is_bl] at h1
  rw [h1,isl_bools h2];rfl
theorem vals_bools {bs:List Bool} {us:List Value} {i:Nat} {u:Value} (r:Vals (bs.map V.bl) us) (h:us[i]?=some u):u=.bool ((bs[i]?).getD false):=by
 have hl:=r.length
 rw [List.length_map] at hl
 have hi:i < bs.length:=by
  have:=(List.getElem?_eq_some_iff.mp h).1
  omega
 obtain ⟨w,hw,rw'⟩:=r.get (i:=i) (x:=.bl bs[i]) (by simp [hi])
 rw [h] at hw
 cases hw
 rw [show u=.bool bs[i] from rw']
 simp [hi]
theorem range_all (bs:List Bool):((List.range bs.length).all fun i=>(bs[i]?).getD false)=bs.all id:=by
 have:bs=(List.range bs.length).map fun i=>(bs[i]?).getD false:=by
  apply List.ext_getElem?
  intro i
  rw [List.getElem?_map]
  by_cases h:i < bs.length
  ·rw [List.getElem?_range h];simp [h]
  ·rw [List.getElem?_eq_none (by omega),List.getElem?_eq_none (by simp;omega)];rfl
 conv=>rhs;rw [this]
 rw [List.all_map]
 rfl
theorem call_allL (hc:X.calm=true):CallR X (.builtin "all") (fun xs H Q=>∃ (a:Addr) (bs:List Bool),xs=[.ref a]/\H a=some (.lst (bs.map V.bl))/\Q (.bl (bs.all id)) H):=by
 intro pins s σ H xs us Q I r h
 obtain ⟨a,bs,rfl,e,q⟩:=h
 obtain ⟨u,rfl,ru⟩:=vals1 r
 cases ru
 obtain ⟨z,its,n,rv,hl,eo⟩:=I.lstM e
 have hlen:its.toArray.size=bs.length:=by
  rw [List.length_map] at hl
  simp [<- hl]
 have lt:a < s.heap.objs.size:=Heap.lt_size eo
 have hL:s.heap.IsList a its.toArray:=⟨_,eo,rfl,n,rfl⟩
 refine call_all_walk (wpAny_pyIter_list hL ?_)
 refine ⟨_,_,_,_,_,_,fun i=>(bs[i]?).getD false,rfl,Walks.list (A:=X.A.in1) (I.ok.hd hc) s.heap.objs.size a (Nat.ne_of_lt lt) its.toArray,⟨⟨_,Heap.get?_push_size _ rfl,rfl,rfl⟩,hL.push _⟩,?_,fun h' tk hk=>?_⟩
 ·intro i v s' Q' E' hv hq
  have ev:v=.bool ((bs[i]?).getD false):=vals_bools rv (by simpa using hv)
  subst ev
  exact wpAny_pure hq
 ·rw [hlen,range_all]
  exact ⟨.bl (bs.all id),H,I.kept fun b o y=>hk b o (by simp;exact Nat.ne_of_lt (Heap.lt_size y)) (Heap.get?_push_of_some _ y),rfl,q⟩
theorem ev_allL {p:Pos} (hc:X.calm=true) (hm:X.mg "all" = none) (h:AV X G M [e] fun ds M1=>∃ (q:Addr) (bs:List Bool),ds=[.ref q]/\M1 q=some (.lst (bs.map D.bl))/\Q (.bl (bs.all id)) M1) (hg:Gl X "all") (he:starEach [e] X.env=(false,eval e X.env) :: starEach [] X.env) (hpl:(backTo pos (starEach ([] : List Expr) X.env)).any (·.1)=false) :
  EV X G M (.Call (.Name "all" p) [e] [] pos) Q :=
 ev_callB (call_allL hc) hm bootAll (h.mono fun ds M1 ⟨a,bs,e1,ha,q⟩=>fun H xs kf hx m=>by
  subst e1
  obtain ⟨v,rfl,hv⟩:=isl1 hx
  rw [is_ref] at hv;subst hv
  obtain ⟨ys,e1,e2⟩:=m a _ ha
  have e3:=isl_bools e2;subst e3
  exact ⟨a,bs,rfl,e1,fun _=>⟨Grow.refl _,.bl _,M1,is_bl.mpr rfl,m,q⟩⟩) hg (by decide) (by decide) he hpl
end
end D3
namespace D3
open PySem PySem.Spec PyProof.Rows L2
section
variable {X:Cx} {G:Ga} {M:MH} {a b e:Expr} {pos:Pos} {Q:DK} {Qb:Bool->MH->Prop} {pins:List (Addr × Obj)} {σ:St} {H:Hp} {s:Shared}
end
end D3
namespace X1
open PySem
section
variable {M:Model} {A:Around} {E:Value->Shared->Prop} {s:Shared}
def ExcAt (h:Heap) (e:Addr) (C:Value) (dd:Option Addr):Prop :=
 ∃ oe vs,h.get? e=some oe/\oe.cls=C/\oe.dict=dd/\oe.data=.fields vs/\1 < vs.size /\
  (vs[1]?=some .none\/∃ T oT ts,vs[1]?=some (.ref T)/\T≠e/\h.get? T=some oT/\oT.data=.fields ts/\ts[3]?=some .none)
def Passed (S:List Addr) (e:Addr) (h h':Heap):Prop :=
 (∀ b o,h.get? b=some o->b≠e->b∉S->h'.get? b=some o)/\∀ b o,h.get? b=some o->b≠e->∃ sl,h'.get? b=some { o with slots:=sl }
theorem entry {base:Heap} {env:Env} {outer:List Env} {L e:Addr} {oe:Obj} {vs:Array Value} {head:Value} {hadNext:Bool} {Q:Unit->Shared->Prop}
  (hfr:A.frames=some (env :: outer)) (hl:s.heap.FunFrames base (env :: outer)) (hf:env.frame=some L)
  (he:s.heap.get? e=some oe) (hd:oe.data=.fields vs) (hsz:1 < vs.size)
  (h:∀ h',Passed ((env :: outer).filterMap (·.frame)) e s.heap h'->ExcAt h' e oe.cls oe.dict->Q () { s with heap:=h' }) :
  wpAny M A (do let a <- frameOf env;let pl <- entryPlaceOf L hadNext;let b <- EntryCells.newEntry head a .none (rawInt L) .none pl;setField (.ref e) 1 b) (fun _ s'=>wpAny M A (setFlight (.ref e) none) Q E s') E s:=by
 have hene:e∉(env :: outer).filterMap (·.frame):=fun hm=>by
  obtain ⟨_,o,ho,hnf⟩:=hl.mem hm
  rw [he] at ho;cases ho;exact hnf vs hd
 refine wpAny_bind (wpAny_frameOf_fun hfr hl hf fun h₁ hs₁=>wpAny_bind (wpAny_entryPlaceOf fun pl hpl=>?_))
 unfold EntryCells.newEntry newFields
 refine wpAny_bind (wpAny_newObj_type ?_ (hpl.sizeOk5 _ _ _ _ _))
 have he₁:h₁.get? e=some oe:=(hs₁.2.1 e hene).trans he
 generalize htb:({ cls:=.type "traceback",dict:=none,data:=.fields ([head,.ref L,.none,rawInt L,.none]++(if pl.isEmpty then List.replicate 6 Value.none else pl)).toArray }:Obj)=tb
 have htd:tb.data=.fields ([head,.ref L,.none,rawInt L,.none]++(if pl.isEmpty then List.replicate 6 Value.none else pl)).toArray:=by rw [<- htb]
 have he₂:=Heap.get?_push_of_some tb he₁
 refine wpAny_setField he₂ hd hsz ?_
 have hTe:h₁.objs.size≠e:=Nat.ne_of_gt (Heap.lt_size he₁)
 have hd₃:=Obj.data_mapFields hd (·.setIfInBounds 1 (Value.ref h₁.objs.size))
 have he₃:=Heap.get?_update_self (Obj.mapFields (·.setIfInBounds 1 (Value.ref h₁.objs.size))) he₂ (Obj.isFreed_of_fields hd₃)
 have hfr':tb.isFreed=false:=Obj.isFreed_of_fields htd
 have hT₃:=(Heap.get?_update_other (h₁.push tb) (Obj.mapFields (·.setIfInBounds 1 (Value.ref h₁.objs.size))) (Ne.symm hTe)).trans (Heap.get?_push_size h₁ hfr')
 unfold setFlight
 refine wpAny_bind (wpAny_field he₃ hd₃ (x:=.ref h₁.objs.size) (by simp [hsz]) ?_)
 rw [if_pos (show (Value.ref h₁.objs.size != Value.none)=true from by simp)]
 refine wpAny_setField hT₃ htd (by simp only [List.size_toArray,List.length_append,List.length_cons,List.length_nil]<;>omega) (h _ ?_ ?_)
 ·have keep:∀ b o,b≠e->h₁.get? b=some o->(((h₁.push tb).update e (Obj.mapFields (·.setIfInBounds 1 (Value.ref h₁.objs.size)))).update h₁.objs.size
    (Obj.mapFields (·.setIfInBounds 3 ((none:Option Addr).elim Value.none fun f=>rawInt f)))).get? b=some o:=fun b o hbe hb=>by
   rw [Heap.get?_update_other _ _ (Nat.ne_of_gt (Heap.lt_size hb)),Heap.get?_update_other _ _ (Ne.symm hbe)]
   exact Heap.get?_push_of_some _ hb
  refine ⟨fun b o hb hbe hbS=>keep b o hbe ((hs₁.2.1 b hbS).trans hb),fun b o hb hbe=>?_⟩
  obtain ⟨sl,hs⟩:=hs₁.2.2 b o hb
  exact ⟨sl,keep b _ hbe hs⟩
 ·refine ⟨_,_,?_,Obj.cls_mapFields _ _,?_,hd₃,by simp [hsz],.inr ⟨h₁.objs.size,_,_,by simp [hsz],hTe,Heap.get?_update_self _ hT₃ (Obj.isFreed_of_fields (Obj.data_mapFields htd _)),Obj.data_mapFields htd _,?_⟩⟩
  ·rw [Heap.get?_update_other _ _ hTe];exact he₃
  ·obtain ⟨c,d,dt,sl⟩:=oe
   simp only at hd
   subst hd
   rfl
  ·first | (simp;done) | (rcases hpl with rfl | ⟨_,_,_,_,_,_,_,rfl⟩<;>simp)
theorem note {base:Heap} {env:Env} {outer:List Env} {L e:Addr} {C:Value} {dd:Option Addr} {Q:Unit->Shared->Prop}
  (hfr:A.frames=some (env :: outer)) (hl:s.heap.FunFrames base (env :: outer)) (hf:env.frame=some L) (hx:ExcAt s.heap e C dd)
  (h:∀ h',Passed ((env :: outer).filterMap (·.frame)) e s.heap h'->ExcAt h' e C dd->Q () { s with heap:=h' }):wpAny M A (noteFrame (.ref e) env) (fun _ s₂=>wpAny M A (setFlight (.ref e) none) Q E s₂) E s:=by
 obtain ⟨oe,vs,he,rfl,rfl,hd,hsz,hv⟩:=hx
 unfold noteFrame
 simp only [hf]
 rcases hv with h1 | ⟨T,oT,ts,h1,hTe,hT,hdT,h3⟩
 ·refine wpAny_bind (wpAny_field he hd h1 ?_)
  rw [if_neg (by decide)]
  exact entry hfr hl hf he hd hsz h
 ·refine wpAny_bind (wpAny_field he hd h1 ?_)
  rw [if_pos (show (Value.ref T != Value.none)=true from by simp)]
  refine wpAny_bind (wpAny_field hT hdT h3 ?_)
  rw [if_neg (show ¬ ((Value.none == rawInt L)=true) from by simp [rawInt])]
  refine wpAny_bind (wpAny_setField hT hdT (Array.getElem?_eq_some_iff.mp h3).1 ?_)
  have same:=Heap.update_setField_same s.heap T oT ts 3 .none hT hdT h3
  rw [same]
  exact entry hfr hl hf he hd hsz h
theorem leave {base:Heap} {env:Env} {outer:List Env} {L e:Addr} {C:Value} {dd:Option Addr} {Q:Unit->Shared->Prop}
  (hfr:A.frames=some (env :: outer)) (hl:s.heap.FunFrames base (env :: outer)) (hf:env.frame=some L) (hx:ExcAt s.heap e C dd)
  (h:∀ h',Passed ((env :: outer).filterMap (·.frame)) e s.heap h'->ExcAt h' e C dd->Q () { s with heap:=h' }):wpAny M A (leaving env (.ref e)) Q E s:=by
 unfold leaving
 exact wpAny_bind (note hfr hl hf hx h)
theorem rest {e:Addr} {C:Value} {dd:Option Addr} {Q:Unit->Shared->Prop} (hx:ExcAt s.heap e C dd) (h:Q () s):wpAny M A (setFlight (.ref e) none) Q E s:=by
 obtain ⟨oe,vs,he,rfl,rfl,hd,hsz,hv⟩:=hx
 unfold setFlight
 rcases hv with h1 | ⟨T,oT,ts,h1,hTe,hT,hdT,h3⟩
 ·refine wpAny_bind (wpAny_field he hd h1 ?_)
  rw [if_neg (by decide)]
  exact wpAny_pure h
 ·refine wpAny_bind (wpAny_field he hd h1 ?_)
  rw [if_pos (show (Value.ref T != Value.none)=true from by simp)]
  refine wpAny_setField hT hdT (Array.getElem?_eq_some_iff.mp h3).1 ?_
  have same:=Heap.update_setField_same s.heap T oT ts 3 .none hT hdT h3
  show Q () { s with heap:=s.heap.update T (Obj.mapFields (·.setIfInBounds 3 Value.none)) }
  rw [same]
  exact h
end
end X1
namespace X1
open PySem PySem.W Builtin Builtin.ObjectAttr
section
variable {K:Frag} {M:Model} {A:Around} {E:Value->Shared->Prop} {h:Heap} {g:Array GenState} {d:Drawn} {t:Nat} {os:OsState} {C P:Addr}
end
section
variable {K:Frag} {prog:Program} {w:World} {A:Around} {E:Value->Shared->Prop} {h:Heap} {g:Array GenState} {d:Drawn} {t:Nat} {os:OsState} {C P x:Addr} {mA:Str->Option Value} {name:Str} {v:Value}
end
section
variable {M:Model} {A:Around} {E:Value->Shared->Prop} {env:Env}
variable {nm q:Str} {C N:Addr} {bs bm:List Value} {hdct:Bool} {sn:List Str} {sub:List Value} {ab:Bool} {col:Option Bool} {dd:Option Addr} {k0 k1 k2 k3 k5:Option Value} {newId:String}
end
section
variable {K:Frag} {prog:Program} {w:World} {A:Around} {E:Value->Shared->Prop} {h:Heap} {g:Array GenState} {d:Drawn} {t:Nat} {os:OsState} {C P x:Addr} {mA:Str->Option Value} {name:Str} {v:Value}
end
section
variable {K:Frag} {prog:Program} {w:World} {A:Around} {E:Value->Shared->Prop} {h:Heap} {g:Array GenState} {d:Drawn} {t:Nat} {os:OsState} {C P x:Addr} {mA:Str->Option Value} {name:Str} {v:Value}
end
section
variable {K:Frag} {M:Model} {A:Around} {E:Value->Shared->Prop} {h:Heap} {g:Array GenState} {d:Drawn} {t:Nat} {os:OsState} {C P e:Addr} {oe:Obj} {Q:Bool->Shared->Prop}
end
end X1
namespace D3
open PySem PySem.Spec PyProof.Rows L2 X1
abbrev XQ:=Addr->List (Str × D)->MH->Prop
section
variable {X:Cx} {G:Ga} {M:MH} {e:Expr} {es:List Expr} {pos:Pos} {Q:DK} {R:Ga->XQ}
end
section
variable {P:Program} {w:World} {K:PySem.W.Frag} {mg:Str->Option Value} {base:Heap}
end
end D3
namespace D3
open PySem PySem.Spec PyProof.Rows L2 X1
section
variable {X:Cx} {pins:List (Addr × Obj)} {σ:St} {H:Hp} {s:Shared} {h':Heap}
end
section
variable {X:Cx} {G:Ga} {M:MH} {o value:Expr} {pos pos':Pos} {E:EndsD} {Q:DK}
theorem mem_not {K:PySem.W.Frag} {H:Hp} {h:Heap} {dx:Addr} (m:MemOk K M H) (kin:K.In h) (h1:H dx=none) (h2:h.objs.size<=dx):M dx=none:=by
 cases e:M dx with
 | none=>rfl
 | some u =>
  rcases (m dx u e).there with ⟨v,q⟩ | ⟨v,q⟩
  ·rw [h1] at q;cases q
  ·exact absurd (Heap.lt_size (kin dx v q)) (Nat.not_lt.mpr h2)
end
end D3
namespace D3
open PySem PySem.Spec PyProof.Rows L2 X1
section
variable {X:Cx} {G:Ga} {M:MH} {e:Expr} {es:List Expr} {pos cpos:Pos} {E:EndsD} {Q:DK} {R:Ga->XQ}
end
end D3
namespace D3
open PySem PySem.Spec PyProof.Rows L2 X1
section
variable {X:Cx} {pins:List (Addr × Obj)} {σ:St} {H:Hp} {s:Shared}
end
section
variable {X:Cx} {G:Ga} {M:MH} {body:List Stmt} {b0:Stmt} {suite:List Stmt} {pos np hpos:Pos} {E:EndsD} {R:Ga->XQ}
end
section
variable {P:Program} {w:World} {K:PySem.W.Frag} {mg:Str->Option Value} {base:Heap}
end
end D3
namespace X1
open PySem PySem.W PySem.Calls Builtin Builtin.ObjectAttr
section
variable {K:Frag} {prog:Program} {w:World} {A:Around} {E:Value->Shared->Prop} {h:Heap} {g:Array GenState} {d:Drawn} {t:Nat} {os:OsState} {C P x:Addr} {ox:Obj} {od:Option Obj}
end
end X1
namespace D3
open PySem PySem.Spec PyProof.Rows L2 X1
section
variable {X:Cx} {G:Ga} {M:MH} {e e2:Expr} {es:List Expr} {pos:Pos} {Q:DK}
theorem obj_in {P:Program} {w:World} {H:Hp} {h:Heap} {a:Addr} {o:HO} (x:ObjOk P w H h a o):∃ u,h.get? a=some u:=by
 induction o generalizing a with
 | lst xs=>obtain ⟨_,_,_,_,e⟩:=x;exact ⟨_,e⟩
 | tup xs=>obtain ⟨_,_,_,o,e,_⟩:=x;exact ⟨_,e⟩
 | dK kvs=>obtain ⟨_,_,_,_,o,_,_,e,_⟩:=x;exact ⟨_,e⟩
 | dT kvs=>obtain ⟨_,_,_,_,o,_,_,e,_⟩:=x;exact ⟨_,e⟩
 | set S n=>obtain ⟨o,_,_,_,e,_⟩:=x;exact ⟨_,e⟩
 | ins C dx fs=>obtain ⟨_,_,_,e,_⟩:=x;exact ⟨_,e⟩
 | own _=>exact x
 | xd fs=>obtain ⟨_,⟨o,_,_,e,_⟩,_⟩:=x;exact ⟨_,e⟩
 | rng lo hi=>obtain ⟨_,_,_,e⟩:=x;exact ⟨_,e⟩
 | frz o u ih=>exact ⟨_,x.1⟩
 | tbl ps=>exact ⟨_,x⟩
 | met f y=>exact ⟨_,x⟩
 | ext φ=>exact x.2.1
end
end D3
namespace D3
open PySem PySem.Spec PyProof.Rows L2
section
variable {X:Cx} {G:Ga} {M:MH} {e:Expr} {pos:Pos} {Q:DK}
end
end D3
namespace D3
open PySem PySem.Spec PyProof.Rows L2
section
variable {X:Cx} {G:Ga} {M:MH} {Q:DK}
end
end D3
namespace D3
open PySem PySem.Spec PyProof.Rows L2
section
variable {P:Program} {w:World} {A:Around} {E:Value->Shared->Prop} {s:Shared}
end
section
variable {P:Program} {w:World} {B:Around} {R:Result->Shared->Prop} {I d:Addr} {fp wr:List Addr} {n:Nat} {Pi:Nat->Value->Prop} {St:Nat->Heap->Prop} {hp:Heap}
end
section
variable {P:Program} {w:World} {A:Around} {E:Value->Shared->Prop} {s:Shared}
end
section
variable {X:Cx} {G:Ga} {M:MH} {e:Expr} {pos:Pos} {Q:DK}
end
end D3
namespace D3
open PySem PySem.Spec PyProof.Rows L2
section
variable {X:Cx} {tg:Expr} {G:Ga} {M:MH} {iter elt:Expr} {ifs:List Expr} {Q:DK} {own N:List Str} {js:List Nat} {scope:Scope} {pos:Pos}
end
end D3
namespace HT
open PySem PySem.Spec PyProof.Rows
section
variable {prog:Program} {w:World} {A:Around} {E:Value->Shared->Prop} {s:Shared}
theorem getItem_tuple_all {t sl:Addr} {items:Array Value} {vl vu:Value} {lo hi:Option Int} {Q:Value->Shared->Prop} (ht:IsTup s.heap t items) (hs:s.heap.IsSliceOf sl vl vu .none) (pl:IsPart vl lo) (pu:IsPart vu hi)
  (hw:sIx items.size 0 lo=0/\sIx items.size items.size hi=items.size) (h:Q (.ref t) s):wpAny (model prog w) A (getItem (.ref t) (.ref sl)) Q E s:=by
 obtain ⟨os,hos,hcs,hds⟩:=id hs
 have hTs:s.TypeIs (.ref sl) "slice" := ⟨os,hos,hcs⟩
 unfold getItem
 try with_reducible refine wpAny_holding ?_
 first | refine wpAny_bind (wpAny_pure ?_) | skip
 refine wpAny_bind (wpAny_sequenceKey ht.typeIs (by decide) ?_)
 refine wpAny_bind (wpAny_callSpecial?_slot (name:=Str.ofString "__getitem__") ht.typeIs PyProof.Rows.slot_tuple_getitem
  (wpAny_call_entry PyProof.Rows.slot_tuple_getitem ht.typeIs entry_tuple_getitem ?_ (args_tuple_getitem _ _)))
 show wpAny _ _ (Builtin.Tuple.tupleItemsOf (.ref t) >>= _) _ _ s
 refine wpAny_bind (tupleItemsOf_ ht ?_)
 refine wpAny_bind (wpAny_typeOf hTs ?_)
 rw [if_pos (by decide)]
 refine wpAny_bind (sliceApplied_gen hs pl pu ?_)
 rw [hw.1,hw.2]
 show wpAny _ _ (if (((0:Nat):Int) == 0 && (1:Int) == 1 && (items.size - 0) == items.size)=true then _ else _) _ _ s
 rw [if_pos (by simp)]
 refine wpAny_bind (m:=Builtin.Tuple.tupleIsExact _) ?_
 obtain ⟨o,e1,e2,_⟩:=id ht
 unfold Builtin.Tuple.tupleIsExact
 refine wpAny_bind (wpAny_typeOf_ref e1 ?_)
 rw [e2]
 refine wpAny_pure ?_
 show wpAny _ _ (if ((Value.type "tuple" == Value.type "tuple")=true) then _ else _) _ _ s
 rw [if_pos (by decide)]
 refine wpAny_bind (wpAny_rule ?_)
 first
  | exact wpAny_pure ⟨_,rfl,wpAny_pure h⟩
  | exact wpAny_bind (wpAny_pure (wpAny_pure ⟨_,rfl,wpAny_pure h⟩))
end
end HT
namespace D3
open PySem PySem.Spec PyProof.Rows L2
def rSlA (K:PySem.W.Frag):V->Option Int->Option Int->Hp->VK->Prop:=fun x lo hi H Q=>∃ a xs,x=.ref a/\SqT K H a xs /\
 ((HT.sIx xs.length 0 lo=0/\HT.sIx xs.length xs.length hi=xs.length)->Q (.ref a) H)/\(¬ (HT.sIx xs.length 0 lo=0/\HT.sIx xs.length xs.length hi=xs.length)->∀ p,H p=none->Q (.ref p) (upd H p (.tup (cutV xs lo hi))))
section
variable {X:Cx} {G:Ga} {M:MH} {Q:DK} {a b:Expr} {pos:Pos}
theorem sl_all:SlR X (rSlA X.K):=by
 intro pins s σ H x v vl vu lo hi sl Q I rx hs pl pu h
 obtain ⟨a,xs,rfl,hx,q1,q2⟩:=h
 by_cases hw:HT.sIx xs.length 0 lo=0/\HT.sIx xs.length xs.length hi=xs.length
 ·cases rx
  obtain ⟨its,r,ht,hz⟩:=I.tuple hx
  have hlen:its.toArray.size=xs.length:=by rw [List.size_toArray];exact r.length.symm
  refine ⟨"tuple",_,PyProof.Rows.slot_tuple_getitem.lookup,ht.typeIs,?_⟩
  refine HT.getItem_tuple_all ht hs pl pu (by rw [hlen];exact hw) ?_
  exact ⟨.ref a,H,I,rfl,q1 hw⟩
 ·exact sl_tup pins s σ H (.ref a) v vl vu lo hi sl Q I rx hs pl pu ⟨a,xs,rfl,hx,hw,q2 hw⟩
theorem cutD_all {ds:List D} {lo hi:Option Int} (hw:HT.sIx ds.length 0 lo=0/\HT.sIx ds.length ds.length hi=ds.length):cutD ds lo hi=ds:=by
 unfold cutD
 rw [hw.1,hw.2]
 simp
theorem rs_tupA {da:D} {lo hi:Option Int} {ds:List D} (e:da=.tup ds) (h:Q (.tup (cutD ds lo hi)) M):RS X.K (rSlA X.K) da lo hi M Q:=by
 intro H x kf hx m
 subst e
 rw [is_tup] at hx
 obtain ⟨a,xs,rfl,h1,h2⟩:=hx
 have hc:=h2.cut lo hi
 have hl:=h2.len
 refine ⟨a,xs,rfl,SqT.of h1,fun hw _=>?_,fun hw p hp _=>⟨grow_new hp,.tup _,M,is_tup.mpr ⟨p,_,rfl,upd_same,hc.grow (grow_new hp)⟩,m.new hp,h⟩⟩
 rw [<- hl] at hw
 rw [cutD_all hw] at h
 exact ⟨Grow.refl _,.tup ds,M,is_tup.mpr ⟨a,xs,rfl,h1,h2⟩,m,h⟩
end
end D3
namespace D3
open PySem PySem.Spec PyProof.Rows L2
section
variable {X:Cx} {G:Ga} {M:MH} {elt tg iter e:Expr} {scope:Scope} {pos:Pos} {Q:DK} {own:List Str} {js:List Nat} {N:List Str} {cl:List (Str × Addr)}
theorem ev_compJ {wi:TI} (T:CompOk X own js N scope cl) (hxe:X.xe=fun _ _=>False) (hc:X.calm=true) (hi:PI X tg iter wi)
  (h:∀ σ H,KF X.K H->Rel X G M σ H->wi σ H fun J H1=>Grow H H1/\∃ (M1:MH) (ds:List D) (Iv:Addr->Nat->List D->MH->Prop),Rel X G M1 σ H1/\(∀ q i acc M' H',Grow H1 H'->MemOk X.K M' H'->Iv q i acc M'->(i=ds.length->J.stop i H')/\(i < ds.length->J.go i H'/\∀ x H2,J.yld i H' x H2->H2=H'/\∃ d,ds[i]?=some d/\Is H' d x))/\(∀ q,M1 q=none->Iv q 0 [] (mset M1 q (.lst []))) /\
   (∀ Y:Cx,(∃ C s H fp,Y=compCx X N scope cl C s H fp)->∀ q i acc M' d,ds[i]?=some d->Iv q i acc M'->M' q=some (.lst acc)->GV Y (compG own js G) M' tg d fun G3 M3=>M3=M'/\Sub (compG own js G) G3/\EV Y G3 M' elt fun o M4=>M4 q=some (.lst acc)/\acc.length < sizeLine/\Iv q (i+1) (acc++[o]) (mset M4 q (.lst (acc++[o])))) /\
   ∀ q acc M',Iv q ds.length acc M'->M' q=some (.lst acc)->Q (.ref q) M')
  (hs:∀ x,foldedSetIterable iter X.env x=pure x:=by intro _;rfl):EV X G M (.ListComp elt [⟨tg,iter,[],0⟩] scope pos) Q:=by
 intro pins s σ H I R
 rw [eval_ListComp]
 refine wpAny_comprehension_free (use:=none) rfl hs T.clos T.kind T.names (thn (hi pins s σ H _ I (h σ H (kf_of I) R)) fun v s1 h1=>thn h1 fun itv s2 h2=>?_)
 obtain ⟨it,fp,tn,J,H2,e,I2,TT,st2,f2,g2,M1,ds,Iv,R2,walks,iv0,block,fin⟩:=h2
 subst e
 refine wpAny_newObj_type ?_ (by show 0<=sizeLine;exact Nat.zero_le _)
 have hq:H2 s2.heap.objs.size=none:=I2.hok.fresh (Nat.le_refl _)
 have I3:Inv X pins σ (upd H2 s2.heap.objs.size (.lst [])) { s2 with heap:=s2.heap.push { cls:=.type "list",dict:=none,data:=.seq ([] : List Value).toArray } } :=
  I2.laid (t':=s2.toks) (fun b u e=>Heap.get?_push_of_some _ e) (Nat.le_refl _) ⟨Nat.zero_le _,[],0,.nil,Heap.get?_push_size _ rfl⟩
 have gq:Grow H2 (upd H2 s2.heap.objs.size (.lst [])):=grow_new hq
 have mq:M1 s2.heap.objs.size=none:=R2.mem.fresh hq (kf_of I3)
 have R3:Rel X G (mset M1 s2.heap.objs.size (.lst [])) σ (upd H2 s2.heap.objs.size (.lst [])):=R2.to gq (R2.mem.lay hq ⟨[],upd_same,isl_nil.mpr rfl⟩)
 have f3:∀ b∈fp,FpOk X pins (upd H2 s2.heap.objs.size (.lst [])) b:=fun b hb=>by
  refine ⟨?_,(f2 b hb).2⟩
  rw [upd_ne]
  ·exact (f2 b hb).1
  ·intro z
   obtain ⟨o,e,_⟩:=TT.obj _ _ st2 b hb
   rw [z] at e
   exact absurd (Heap.lt_size e) (Nat.lt_irrefl _)
 have ft:∀ b∈fp,∃ o,(s2.heap.push { cls:=.type "list",dict:=none,data:=.seq ([] : List Value).toArray }).get? b=some o:=fun b hb=>by
  obtain ⟨o,e,_⟩:=TT.obj _ _ st2 b hb
  exact ⟨o,Heap.get?_push_of_some _ e⟩
 have stq:tn 0 (s2.heap.push { cls:=.type "list",dict:=none,data:=.seq ([] : List Value).toArray }):=TT.keep _ _ _ st2 fun b hb o e=>Heap.get?_push_of_some _ e
 generalize s2.heap.objs.size=q at hq I3 gq mq R3 f3 ⊢
 refine wpAny_newFunctionEnv (T.nocell) (by intro y hy;simp at hy) (fun h1 hns1 hsb1=>?_) T.kind
 generalize hH3:upd H2 q (.lst [])=H3 at I3 R3 f3 gq
 generalize hs3:({ s2 with heap:=s2.heap.push { cls:=.type "list",dict:=none,data:=.seq ([] : List Value).toArray } }:Shared)=s3 at I3 hns1 hsb1 ⊢
 have es3:s3.heap=s2.heap.push { cls:=.type "list",dict:=none,data:=.seq ([] : List Value).toArray }:=by rw [<- hs3]
 rw [<- es3] at stq ft
 have hk1:∀ b o,s3.heap.get? b=some o->h1.get? b=some o:=fun b o e=>hsb1.extBut b o (Nat.ne_of_lt (Heap.lt_size e)) (Heap.get?_push_of_some _ e)
 obtain ⟨σc,Ic,Rc⟩:=comp_ok (tk:=s3.toks+([] : List (Str × Value)).length) T I3 f3 ft (by simpa using hns1) hk1 R3
 have stc:tn 0 h1:=TT.keep _ _ _ stq fun b hb o e=>hk1 b o e
 have hC:∃ C,C=s3.heap.objs.size:=⟨_,rfl⟩
 obtain ⟨C,hC⟩:=hC
 rw [<- hC] at Ic Rc
 generalize hY:compCx X N scope cl C s3 H3 fp=Y at Ic Rc
 have blockY:=block Y ⟨C,s3,H3,fp,hY.symm⟩
 have yA:Y.A=X.A:=by rw [<- hY];rfl
 have yp:Y.prog=X.prog:=by rw [<- hY];rfl
 have yw:Y.w=X.w:=by rw [<- hY];rfl
 have yK:Y.K=X.K:=by rw [<- hY];rfl
 have yc:Y.calm=true:=by rw [<- hY];exact hc
 have yx:Y.xe=fun _ _=>False:=by rw [<- hY];exact hxe
 have ye:Y.env=compEnvC scope cl C X.env:=by rw [<- hY];rfl
 have ypn:Y.pn=[]:=by rw [<- hY];rfl
 have yex:Y.ex=fp:=by rw [<- hY];rfl
 have fpY:∀ {H':Hp},(∀ b∈fp,H' b=none)->∀ b∈fp,FpOk Y [] H' b:=fun {H'} hn b hb=>by
  have o1:=Ic.ok.exf b (by rw [yex];exact hb)
  refine ⟨hn b hb,o1.1,Ic.ok.exfs b (by rw [yex];exact hb),.inl (by rw [yex];exact hb),o1.2,fun p hp=>?_⟩
  rw [ypn] at hp;exact absurd hp (by simp)
 have loop:∀ s4:Shared,s4={ s3 with heap:=h1,toks:=s3.toks+([] : List (Str × Value)).length } ->
   codeAny (model X.prog X.w) X.A (.compLoop (.ListComp elt [⟨tg,iter,[],0⟩] scope pos) 0 (.ref it) (.ref q) (compEnvC scope cl C X.env)) (compPost (model X.prog X.w) X.A X.xe none (EPD X pins σ G H Q) (.ref q) C) s4:=by
  rintro s4 rfl
  refine compLoop_own (fun m s'=>∃ i σ' H' acc M',Inv Y [] σ' H' s'/\Grow H3 H'/\Rel Y (compG own js G) M' σ' H'/\M' q=some (.lst acc)/\Iv q i acc M'/\tn i s'.heap/\(∀ b∈fp,H' b=none)/\i<=ds.length/\m=ds.length - i) ?_ ds.length
   ⟨0,σc,H3,[],mset M1 q (.lst []),Ic,Grow.refl _,Rc,mset_same,iv0 q mq,stc,fun b hb=>(f3 b hb).1,Nat.zero_le _,rfl⟩
  rintro m s5 ⟨i,σ5,H5,acc,M5,I5,g5,R5,m5,v5,st5,fr5,hin,rfl⟩
  obtain ⟨wstop,wgo⟩:=walks q i acc M5 H5 (gq.trans g5) (by rw [<- yK];exact R5.mem) v5
  by_cases hlt:i < ds.length
  ·obtain ⟨go,yld⟩:=wgo hlt
   have it5:=TT.item Y yp yw yK yc i [] s5 σ5 H5 (fun _ _=>False) I5 (fpY fr5) st5 go
   rw [yA] at it5
   refine thn it5 fun r s6 ⟨u,hr,h6⟩=>?_
   subst hr
   refine thn h6 fun _ s7 ⟨x,H7,I7,r7,y7,st7,fr7⟩=>?_
   obtain ⟨e7,d,ed,i7⟩:=yld x H7 y7
   subst e7
   have I7':=I7.pinned (fpY fr7) (TT.obj _ _ st7)
   have gv:=blockY q i acc M5 d ed v5 m5 _ s7 σ5 H7 x u I7' R5 r7 i7
   rw [yp,yw,yA,yx,ye] at gv
   refine thn gv fun _ s8 ⟨σ8,H8,G8,M8,I8,g8,R8,e8,sub8,elt8⟩=>?_
   subst e8
   refine wpAny_tests_nil ?_
   rw [if_pos rfl]
   have back:∀ {σ':St} {H':Hp} {s':Shared},Inv Y ([]++pinsAt fp s7.heap) σ' H' s'->tn (i+1) s'.heap/\∀ b∈fp,H' b=none:=fun {σ' H' s'} I'=>by
    refine ⟨TT.keep _ _ _ st7 fun b hb o e=>(I'.pin (b,o) (List.mem_append_right _ (List.mem_append_right _ (mem_pinsAt hb e)))).1,fun b hb=>?_⟩
    obtain ⟨o,e,_⟩:=TT.obj _ _ st7 b hb
    exact (I'.pin (b,o) (List.mem_append_right _ (List.mem_append_right _ (mem_pinsAt hb e)))).2.1
   have ev:=elt8 _ s8 σ8 H8 I8 R8
   rw [yp,yw,yA,yx,ye] at ev
   refine thn ev fun u9 s10 ⟨v10,H10,o10,M10,I10,r10,g10,i10,R10,e10,ez,eo⟩=>?_
   obtain ⟨xs,hx,hxi⟩:=R10.mem q _ e10
   have hlen:=hxi.len
   have ap:=mt_append (X:=Y) _ s10 σ8 H10 (.ref q) [v10] (.ref q) [u9] (fun _ H'=>H'=upd H10 q (.lst (xs++[v10]))) I10 rfl (.cons r10 .nil) ⟨q,xs,v10,rfl,rfl,hx,by omega,rfl⟩
   rw [yp,yw,yA,yx] at ap
   refine thn ap fun _ s11 ⟨_,H11,I11,_,e11⟩=>?_
   subst e11
   obtain ⟨t1,t2⟩:=back I11
   have nt:∀ ys,H10 q≠some (.tup ys):=fun ys z=>by rw [hx] at z;cases z
   have ga:Grow H10 (upd H10 q (.lst (xs++[v10]))):=grow_upd nt
   have mm:=R10.mem.put (p:=q) (o:=.lst (xs++[v10])) (u:=.lst (acc++[o10])) nt ⟨_,upd_same,(hxi.grow ga).app (isl_cons.mpr ⟨v10,[],rfl,Is.grow ga _ _ i10,isl_nil.mpr rfl⟩)⟩
   exact ⟨ds.length - (i+1),by omega,i+1,σ8,_,acc++[o10],_,I11.unpinned,((g5.trans g8).trans g10).trans ga,(R10.to ga mm).sub sub8,mset_same,eo,t1,t2,hlt,rfl⟩
  ·have ei:i=ds.length:=by omega
   subst ei
   have dn:=TT.done Y yp yw yK yc ds.length [] s5 σ5 H5 (fun _ _=>False) I5 (fpY fr5) st5 (wstop rfl)
   rw [yA] at dn
   refine thn dn fun r s6 ⟨hr,I6⟩=>?_
   subst hr
   obtain ⟨mm,hmm,_⟩:=I6.loc
   rw [ye] at hmm
   refine ⟨mm,hmm,fun h' hsb=>?_⟩
   have I6':Inv (compCx X N scope cl C s3 H3 fp) [] σ5 H5 s6:=by rw [hY];exact I6
   have IX:=Inv.unblock I3 f3 I6' hC hsb
   exact ⟨.ref q,H5,.ref q,_,IX,rfl,(g2.trans gq).trans g5,is_ref.mpr rfl,R3.to g5 (by rw [<- yK];exact R5.mem),fin q acc M5 v5 m5⟩
 have fin0:=codeAny_compStart_list (R:=compPost (model X.prog X.w) X.A X.xe none (EPD X pins σ G H Q) (.ref q) C) (loop _ rfl) (TT.self _ 0 _ _ _ stc (loop _ rfl))
 rw [hC] at fin0
 exact fin0
theorem ev_compLI (T:CompOk X own js N scope cl) (hxe:X.xe=fun _ _=>False) (hc:X.calm=true)
  (h:EV X G M iter fun d M1=>∃ (l:Addr) (ds:List D) (Iv:Addr->Nat->List D->MH->Prop),d=.ref l/\M1 l=some (.lst ds)/\(∀ q i acc M',Iv q i acc M'->M' l=some (.lst ds))/\(∀ q,M1 q=none->Iv q 0 [] (mset M1 q (.lst []))) /\
   (∀ Y:Cx,(∃ C s H fp,Y=compCx X N scope cl C s H fp)->∀ q i acc M' d,ds[i]?=some d->Iv q i acc M'->M' q=some (.lst acc)->GV Y (compG own js G) M' tg d fun G3 M3=>M3=M'/\Sub (compG own js G) G3/\EV Y G3 M' elt fun o M4=>M4 q=some (.lst acc)/\acc.length < sizeLine/\Iv q (i+1) (acc++[o]) (mset M4 q (.lst (acc++[o])))) /\
   ∀ q acc M',Iv q ds.length acc M'->M' q=some (.lst acc)->Q (.ref q) M')
  (hs:∀ x,foldedSetIterable iter X.env x=pure x):EV X G M (.ListComp elt [⟨tg,iter,[],0⟩] scope pos) Q:=by
 refine ev_compJ T hxe hc (pi_list (pe_D (G:=G))) (fun σ H kf R=>?_) hs
 refine ⟨M,_,R,h,fun v H' d M' kf' g i R' q=>?_⟩
 obtain ⟨l,ds,Iv,e,hl,keep,iv0,block,fin⟩:=q
 subst e
 rw [is_ref] at i;subst i
 obtain ⟨xs0,hx0,_⟩:=R'.mem l _ hl
 refine ⟨l,rfl,⟨xs0,SqL.of hx0⟩,g,M',ds,Iv,R',fun q i acc M2 H2 g2 m2 v2=>?_,iv0,block,fin⟩
 obtain ⟨xs,hx2,hxi⟩:=m2 l _ (keep q i acc M2 v2)
 have hlen:=hxi.len
 have sq:SqL X.K H2 l xs:=SqL.of hx2
 refine ⟨fun e=>⟨xs,sq,by omega⟩,fun hlt=>⟨⟨xs,xs[i]'(by omega),sq,by simp⟩,fun x H3 y=>?_⟩⟩
 obtain ⟨e,y⟩:=y
 subst e
 have e1:=y xs sq
 obtain ⟨d,e2,i2⟩:=hxi.get' e1
 exact ⟨rfl,d,e2,i2⟩
end
end D3
namespace D3
open PySem PySem.Spec PyProof.Rows L2
def BT (w:World):Bool:=w.params.followText "set-order"
theorem strs_perm:∀ {vs vs':List Value},vs'.Perm vs->∀ {ss:List Str},StrsAre vs ss->∃ ss',ss'.Perm ss/\StrsAre vs' ss':=by
 intro vs vs' p
 induction p with
 | nil=>intro ss h;cases h;exact ⟨[],.nil,.nil⟩
 | cons x p ih =>
  intro ss h
  cases h with
  | cons s t h =>
   obtain ⟨ss',h1,h2⟩:=ih h
   exact ⟨s :: ss',h1.cons s,.cons s t h2⟩
 | swap x y l =>
  intro ss h
  cases h with
  | cons s t h =>
   cases h with
   | cons s2 t2 h=>exact ⟨s2 :: s :: _,.swap ..,.cons s2 t2 (.cons s t h)⟩
 | trans p1 p2 ih1 ih2 =>
  intro ss h
  obtain ⟨s1,h1,h2⟩:=ih2 h
  obtain ⟨s2,h3,h4⟩:=ih1 h2
  exact ⟨s2,h3.trans h1,h4⟩
theorem strs_app:∀ {vs:List Value} {ss:List Str} (x:Str) (t:Tok),StrsAre vs ss->StrsAre (vs++[.str x t]) (ss++[x])
 | _,_,x,t,.nil=>.cons x t .nil
 | _,_,x,t,.cons s u h=>.cons s u (strs_app x t h)
theorem strs_mem:∀ {vs:List Value} {ss:List Str} {x:Str},StrsAre vs ss->(x∈ss ↔ ∃ v∈vs,keyIs (Sum.inr x) v=true)
 | _,_,x,.nil=>by simp
 | _,_,x,.cons s u h=>by
  have ih:=strs_mem (x:=x) h
  rw [List.mem_cons,ih]
  constructor
  ·rintro (rfl | ⟨v,h1,h2⟩)
   ·exact ⟨_,List.mem_cons_self ..,by simp [keyIs,Value.isStrOf]⟩
   ·exact ⟨v,List.mem_cons_of_mem _ h1,h2⟩
  ·rintro ⟨v,h1,h2⟩
   rcases List.mem_cons.mp h1 with rfl | h1
   ·left
    have:s=x:=by simpa [keyIs,Value.isStrOf] using h2
    exact this.symm
   ·exact .inr ⟨v,h1,h2⟩
theorem strs_len:∀ {vs:List Value} {ss:List Str},StrsAre vs ss->vs.length=ss.length
 | _,_,.nil=>rfl
 | _,_,.cons s u h=>by rw [List.length_cons,List.length_cons,strs_len h]
structure SetS (P:Program) (w:World) (h:Heap) (a:Addr) (ss:List Str) (o:Obj) (es:Array (Int × Value)) (ep:Nat) (t:SetTable):Prop where
 at_:h.get? a=some o
 ex:o.ExactSet
 dat:o.data=.set es ep t
 fit:t.fits es.size=true
 elems:ElemsOf (mixKind P w) es.toList
 str_:StrsAre (es.toList.map (·.2)) ss
 plain:t.plain=false\/es.size=0
 led:BT w=false->t.led=true
section
variable {P:Program} {w:World} {A:Around} {E:Value->Shared->Prop} {s:Shared}
theorem wp_byText {Q:Bool->Shared->Prop} (q:Q (BT w) s):wpAny (model P w) A setsByText Q E s:=by
 show wpAny _ A (ask >>= _) _ _ s
 exact wpAny_bind (wpAny_askSetting (wpAny_pure q))
theorem relay_plain (t:SetTable) (es:Array (Int × Value)) (n:Nat) (h:t.plain=false):(relayAll t es n).2.1.plain=false:=by
 unfold relayAll
 split
 ·rename_i t' order he
  have:t'.plain=false:=by
   unfold SetTable.relaid SetTable.laid at he
   cases hl:SetTable.layClean (SetTable.sizeAbove n - 1) (Array.map (fun x=>x.fst) es) with
   | none=>rw [hl] at he;cases he
   | some ow =>
    rw [hl] at he
    injection he with he
    injection he with h1 h2
    rw [<- h1];exact h
  dsimp only
  split
  ·exact this
  ·rfl
 ·rfl
theorem relay_led (t:SetTable) (es:Array (Int × Value)) (n:Nat):(relayAll t es n).2.1.led=t.led:=by
 unfold relayAll
 split
 ·rename_i t' order he
  have:t'.led=t.led:=by
   unfold SetTable.relaid SetTable.laid at he
   cases hl:SetTable.layClean (SetTable.sizeAbove n - 1) (Array.map (fun x=>x.fst) es) with
   | none=>rw [hl] at he;cases he
   | some ow =>
    rw [hl] at he
    injection he with he
    injection he with h1 h2
    rw [<- h1]
  dsimp only
  split
  ·exact this
  ·rfl
 ·rfl
theorem layNew_led (t:SetTable) (es:Array (Int × Value)) (h:Int) (x:Value):(layNew t es h x).2.1.led=t.led:=by
 unfold layNew
 split
 ·dsimp only
  unfold SetTable.orStandIn
  split
  ·rfl
  ·rfl
 ·rfl
theorem SetS.store {h:Heap} {a:Addr} {ss ss':List Str} {o:Obj} {es es':Array (Int × Value)} {ep:Nat} {t t':SetTable} (H:SetS P w h a ss o es ep t) (fit:t'.fits es'.size=true) (el:ElemsOf (mixKind P w) es'.toList) (st:StrsAre (es'.toList.map (·.2)) ss') (pl:t'.plain=false\/es'.size=0) (ld:BT w=false->t'.led=true) :
  SetS P w (h.update a (Obj.putSet es' t')) a ss' (Obj.putSet es' t' o) es' (ep+1) t':=by
 obtain ⟨oc,od,odt,osl⟩:=o
 have hd:=H.dat
 simp only at hd
 subst hd
 exact ⟨Heap.get?_update_self _ H.at_ rfl,H.ex,rfl,fit,el,st,pl,ld⟩
theorem set_add {a:Addr} {ss:List Str} {o:Obj} {es:Array (Int × Value)} {ep:Nat} {t:SetTable} {x:Str} {tok:Tok} {Q:Bool->Shared->Prop} (h:SetS P w s.heap a ss o es ep t) (hz:es.size < 200)
  (q:∀ b h' tk ss' o' es' ep' t',SetS P w h' a ss' o' es' ep' t'->(∀ b o,b≠a->s.heap.get? b=some o->h'.get? b=some o)->((x∈ss/\ss'=ss)\/(x∉ss/\ss'.Perm (ss++[x])))->Q b { s with heap:=h',toks:=tk }):wpAny (model P w) A (setAdd a (.str x tok)) Q E s:=by
 show wpAny _ A (holding [_] (pyHash _ >>= _)) _ _ s
 refine wpAny_holding (wpAny_bind ((mixKind P w).pyHash (k:=Sum.inr x) (mixKind_str P w x tok) ?_))
 show wpAny _ A (holding [_] (setAddHashedIn a _ _ 100000)) _ _ _
 refine wpAny_holding ?_
 rw [show (100000:Nat)=99999+1 from rfl,setAddHashedIn.eq_def]
 show wpAny _ A (setState a >>= _) _ _ _
 refine wpAny_bind (wpAny_setState_of h.at_ h.dat h.fit ?_)
 show wpAny _ A (if byScan _ es=true then _ else _) _ _ _
 rw [if_pos (byScan_of (knd:=mixKind P w) rfl (by unfold scanBound;omega) h.elems)]
 refine wpAny_bind ?_
 show wpAny _ A (rule _ >>= _) _ _ _
 refine wpAny_bind (wpAny_rule (wpAny_bind (wpAny_setScan_of (knd:=mixKind P w) (k:=Sum.inr x) (mixKind_str P w x tok) h.at_ h.dat h.fit h.elems ?_)))
 have hmem:x∈ss ↔ ∃ e∈es.toList,(mixKind P w).is (Sum.inr x) e.2=true:=by
  rw [strs_mem h.str_]
  constructor
  ·rintro ⟨v,h1,h2⟩
   obtain ⟨e,h3,rfl⟩:=List.mem_map.mp h1
   exact ⟨e,h3,h2⟩
  ·rintro ⟨e,h1,h2⟩
   exact ⟨e.2,List.mem_map.mpr ⟨e,h1,rfl⟩,h2⟩
 cases hf:List.findIdx? (fun e=>(mixKind P w).is (Sum.inr x) e.snd) es.toList with
 | some j =>
  refine wpAny_pure (wpAny_pure (q _ _ _ ss o es ep t h (fun b o _ e=>e) (.inl ⟨hmem.mpr ?_,rfl⟩)))
  obtain ⟨hj,hp,_⟩:=List.findIdx?_eq_some_iff_getElem.mp hf
  exact ⟨_,List.getElem_mem hj,hp⟩
 | none =>
  have hno:x∉ss:=fun z=>by
   obtain ⟨e,h1,h2⟩:=hmem.mp z
   have:=List.findIdx?_eq_none_iff.mp hf e h1
   rw [h2] at this;cases this
  dsimp only
  have hp:=layNew_perm t es ((mixKind P w).hash (Sum.inr x)) (.str x tok)
  have hfit:=layNew_fits t es ((mixKind P w).hash (Sum.inr x)) (.str x tok)
  have hld:=layNew_led t es ((mixKind P w).hash (Sum.inr x)) (.str x tok)
  generalize layNew t es ((mixKind P w).hash (Sum.inr x)) (.str x tok)=L at hp hfit hld ⊢
  obtain ⟨es1,t1,wd,gv⟩:=L
  dsimp only at hp hfit hld ⊢
  have hld1:BT w=false->t1.led=true:=fun z=>by rw [hld];exact h.led z
  have hel:ElemsOf (mixKind P w) es1.toList:=fun e he=>by
   have:=hp.mem_iff.mp he
   rw [Array.toList_push,List.mem_append] at this
   rcases this with this | this
   ·exact h.elems e this
   ·rw [List.mem_singleton.mp this]
    exact ⟨⟨Sum.inr x,mixKind_str P w x tok,rfl⟩,rfl⟩
  have hvs:(es1.toList.map (·.2)).Perm (es.toList.map (·.2)++[.str x tok]):=by
   have:=hp.map (·.2)
   rw [Array.toList_push,List.map_append] at this
   exact this
  obtain ⟨ss1,hs1,hst1⟩:=strs_perm hvs (strs_app x tok h.str_)
  have hsz1:es1.size=es.size+1:=by
   have:=hp.length_eq
   simpa using this
  have tail:∀ (t2:SetTable) (g:Bool->Sem Unit),t2.plain=false->t2.fits es1.size=true->(BT w=false->t2.led=true)->(∀ (b:Bool) (Q:Unit->Shared->Prop) (s':Shared),Q () s'->wpAny (model P w) A (g b) Q E s') ->
    wpAny (model P w) A (storeSet a es1 t2 >>= fun _=>if (!wd && t2.tooFull)=true then (g (relayAll t2 es1 (SetTable.grown es1.size)).2.2 >>= fun _=>storeSet a (relayAll t2 es1 (SetTable.grown es1.size)).1 (relayAll t2 es1 (SetTable.grown es1.size)).2.1 >>= fun _=>pure (some true)) else pure (some true))
     (fun a_2 s'=>wpAny (model P w) A (match a_2 with | some added=>pure added | none=>setAddHashedIn a (Value.str x tok) ((mixKind P w).hash (Sum.inr x)) 99999) Q E s') E { s with toks:=s.toks+1 }:=by
   intro t2 g hpl2 hfit2 hld2 hg
   have S1:SetS P w (s.heap.update a (Obj.putSet es1 t2)) a ss1 (Obj.putSet es1 t2 o) es1 (ep+1) t2:=h.store hfit2 hel hst1 (.inl hpl2) hld2
   have k1:∀ b o,b≠a->s.heap.get? b=some o->(s.heap.update a (Obj.putSet es1 t2)).get? b=some o:=fun b o hb e=>(Heap.get?_update_other _ _ (Ne.symm hb)).trans e
   refine wpAny_bind (wpAny_storeSet_of h.at_ h.dat ?_ (by rw [hsz1,sizeLine_eq];omega))
   by_cases hc:(!wd && t2.tooFull)=true
   ·rw [if_pos hc]
    have hp2:=relayAll_perm t2 es1 (SetTable.grown es1.size)
    have hf2:=relayAll_fits t2 es1 (SetTable.grown es1.size)
    have hq2:=relay_plain t2 es1 (SetTable.grown es1.size) hpl2
    have hq3:=relay_led t2 es1 (SetTable.grown es1.size)
    generalize relayAll t2 es1 (SetTable.grown es1.size)=L at hp2 hf2 hq2 hq3 ⊢
    obtain ⟨es3,t3,g3⟩:=L
    dsimp only at hp2 hf2 hq2 hq3 ⊢
    have hel3:ElemsOf (mixKind P w) es3.toList:=fun e he=>hel e (hp2.mem_iff.mp he)
    obtain ⟨ss3,hs3,hst3⟩:=strs_perm (hp2.map (·.2)) hst1
    have hsz3:es3.size=es1.size:=by have:=hp2.length_eq;simpa using this
    refine wpAny_bind (hg _ _ _ ?_)
    refine wpAny_bind (wpAny_storeSet_of S1.at_ S1.dat ?_ (by rw [hsz3,hsz1,sizeLine_eq];omega))
    refine wpAny_pure (wpAny_pure (q _ _ _ ss3 _ es3 _ t3 (S1.store hf2 hel3 hst3 (.inl hq2) fun z=>by rw [hq3];exact hld2 z) (fun b o hb e=>(Heap.get?_update_other _ _ (Ne.symm hb)).trans (k1 b o hb e)) (.inr ⟨hno,hs3.trans hs1⟩)))
   ·rw [if_neg hc]
    exact wpAny_pure (wpAny_pure (q _ _ _ ss1 _ es1 _ t2 S1 k1 (.inr ⟨hno,hs1⟩)))
  refine wpAny_bind ?_
  have gw:∀ (b:Bool) (Q:Unit->Shared->Prop) (s':Shared),Q () s'->wpAny (model P w) A (match b with | true=>rule "set.scan.the-table-gave-way" | false=>pure ()) Q E s':=fun b Q s' q=>by
   cases b
   ·exact wpAny_pure q
   ·exact wpAny_rule q
  refine gw gv _ _ ?_
  cases hpl:t1.plain with
  | true =>
   rw [if_pos rfl]
   refine wpAny_bind (wpAny_of_eq (hashByValue_scannable 8 rfl) ?_)
   exact tail { mask:=t1.mask,place:=t1.place,dummies:=t1.dummies,finger:=t1.finger,led:=t1.led,moves:=t1.moves,plain:=false } _ rfl hfit hld1 gw
  | false =>
   rw [if_neg (by decide)]
   refine wpAny_bind (wpAny_pure ?_)
   exact tail t1 _ hpl hfit hld1 gw
end
end D3
namespace D3
open PySem PySem.Spec PyProof.Rows L2
theorem SetS.keep {P:Program} {w:World} {h h':Heap} {a:Addr} {ss:List Str} {o:Obj} {es:Array (Int × Value)} {ep:Nat} {t:SetTable} (H:SetS P w h a ss o es ep t) (k:∀ o,h.get? a=some o->h'.get? a=some o):SetS P w h' a ss o es ep t :=
 ⟨k _ H.at_,H.ex,H.dat,H.fit,H.elems,H.str_,H.plain,H.led⟩
theorem code_set_newL {prog:Program} {w:World} {A:Around} {E:Value->Shared->Prop} {s:Shared} (a:Value) {Q₁:Value->Shared->Prop}
  (h:Q₁ (.ref s.heap.objs.size) { s with heap:=s.heap.push { cls:=.type "set",dict:=none,data:=.set #[] 0 (.fresh 0 0 (!BT w)) } }) :
  codeAny (model prog w) A (.call (.builtin "set.__new__") ⟨[.type "set",a],[]⟩) (wants Q₁ E) s:=by
 refine codeAny_of_tree ?_
 show wpAny _ A.in1 (do checkBuiltinCall "set.__new__" ⟨[.type "set",a],[]⟩;again (.builtin "set.__new__" ⟨[.type "set",a],[]⟩)) _ _ s
 refine wpAny_bind (wpAny_of_eq (PySem.F.newCall_set_1 a) (wpAny_pure ⟨plainId_quiet PySem.F.plain_set_new _,codeAny_builtin PySem.F.entry_set_new ?_⟩))
 rw [Around.under_plainId PySem.F.plain_set_new _]
 unfold Builtin.«set.__new__» Builtin.Frozenset.newClass
 have hsub:=PySem.sub_set_self
 obtain ⟨hp,g,d,tk,os⟩:=s
 dsimp only
 wp_walk
 refine wpAny_askSetting (wpAny_pure ?_)
 dsimp only
 simp only [newObj]
 refine wpAny_bind (wpAny_alloc (wpAny_pure ?_))
 exact wpAny_pure h
theorem SetS.size {P:Program} {w:World} {h:Heap} {a:Addr} {ss:List Str} {o:Obj} {es:Array (Int × Value)} {ep:Nat} {t:SetTable} (H:SetS P w h a ss o es ep t):es.size=ss.length:=by
 have:=strs_len H.str_
 simpa using this
theorem strs_at:∀ {vs:List Value} {ss:List Str},StrsAre vs ss->∀ (i:Nat) v,vs[i]?=some v->∃ x t,ss[i]?=some x/\v=.str x t
 | _,_,.nil,i,v,h=>by simp at h
 | _,_,.cons s u h,i,v,hv=>by
  cases i with
  | zero=>cases hv;exact ⟨s,u,rfl,rfl⟩
  | succ i=>exact strs_at h i v (by simpa using hv)
theorem plainSul:plainId "set.update.loop" = true:=by decide +kernel
section
variable {P:Program} {w:World} {B:Around} {R:Result->Shared->Prop} {I a:Addr} {fp wr:List Addr} {n:Nat} {Pi:Nat->Value->Prop} {St:Nat->Heap->Prop}
theorem set_loop (W:PySem.Walks P w B.in1 I fp wr n Pi St) (xs:List Str) (hv:∀ i v,Pi i v->∃ x t,xs[i]?=some x/\v=.str x t) (ha:a∉fp) (hn:n=xs.length) (hn100:n<=100) :
  ∀ (k j:Nat) (st:Shared) (ss:List Str) (o:Obj) (es:Array (Int × Value)) (ep:Nat) (t:SetTable),n - j=k->j<=n->St j st.heap->SetS P w st.heap a ss o es ep t->ss.length<=j->ss.Nodup->(∀ y,y∈ss ↔ y∈xs.take j) ->
  (∀ g tk ss' o' es' ep' t',SetS P w g a ss' o' es' ep' t'->ss'.Nodup->ss'.length<=n->(∀ y,y∈ss' ↔ y∈xs)->(∀ b o,b∉wr->b≠a->st.heap.get? b=some o->g.get? b=some o)->R (.ok (.ret .none)) { st with heap:=g,toks:=tk }) ->
  codeAny (model P w) B (.builtin "set.update.loop" ⟨[.ref a,.ref I],[]⟩) R st:=by
 have off:a∉wr:=fun h=>ha (W.sub _ h)
 intro k
 induction k with
 | zero =>
  intro j st ss o es ep t hk hj hst hS hl hnd hm q
  have e:j=n:=by omega
  subst e
  refine codeAny_builtin PyProof.Rows.F.entry_set_update_loop ?_
  rw [Around.under_plainId plainSul _]
  show wpAny _ B.in1 (pyNext (.ref I) >>= _) _ _ st
  refine wpAny_bind (W.done st _ _ hst fun g tk hg=>?_)
  refine wpAny_pure ?_
  refine q g tk ss o es ep t (hS.keep fun o e=>hg a o off e) hnd hl (fun y=>by rw [hm y,hn,List.take_length]) fun b o hb _ e=>hg b o hb e
 | succ k ih =>
  intro j st ss o es ep t hk hj hst hS hl hnd hm q
  have lt:j < n:=by omega
  refine codeAny_builtin PyProof.Rows.F.entry_set_update_loop ?_
  rw [Around.under_plainId plainSul _]
  show wpAny _ B.in1 (pyNext (.ref I) >>= _) _ _ st
  refine wpAny_bind (W.item j st _ _ lt hst fun v g tk hP hst' hg=>?_)
  obtain ⟨x,tok,hx,rfl⟩:=hv j v hP
  have hS':=hS.keep (h':=g) fun o e=>hg a o off e
  show wpAny _ B.in1 (holding [_] (setAdd a _) >>= _) _ _ _
  refine wpAny_bind (wpAny_holding (set_add hS' (by rw [hS.size];omega) fun b g2 tk2 ss2 o2 es2 ep2 t2 hS2 k2 hc=>?_))
  have htk:xs.take (j+1)=xs.take j++[x]:=by rw [List.take_add_one,hx];rfl
  have h1:ss2.length<=j+1/\ss2.Nodup/\∀ y,y∈ss2 ↔ y∈xs.take (j+1):=by
   rcases hc with ⟨hin,rfl⟩ | ⟨hno,hp⟩
   ·refine ⟨by omega,hnd,fun y=>?_⟩
    rw [hm y,htk,List.mem_append,List.mem_singleton]
    constructor
    ·exact .inl
    ·rintro (z | rfl)
     ·exact z
     ·exact (hm y).mp hin
   ·refine ⟨by rw [hp.length_eq,List.length_append];show _+1<=_;omega,hp.nodup_iff.mpr ?_,fun y=>?_⟩
    ·rw [List.nodup_append]
     exact ⟨hnd,by simp,fun a ha b hb=>by rw [List.mem_singleton.mp hb];exact fun z=>hno (by rw [<- z];exact ha)⟩
    ·rw [hp.mem_iff,htk,List.mem_append,List.mem_append,hm y]
  refine wpAny_pure ⟨plainId_quiet plainSul _,ih (j+1) _ ss2 o2 es2 ep2 t2 (by omega) lt (W.frame _ _ _ hst' fun b hb o y=>k2 b o (fun z=>ha (by rw [<- z];exact hb)) y) hS2 h1.1 h1.2.1 h1.2.2 fun g3 tk3 ss3 o3 es3 ep3 t3 hS3 a1 a2 a3 k3=>q g3 tk3 ss3 o3 es3 ep3 t3 hS3 a1 a2 a3 fun b o hb hba e=>k3 b o hb hba (k2 b o hba (hg b o hb e))⟩
end
section
variable {P:Program} {w:World} {A:Around} {E:Value->Shared->Prop} {s:Shared}
theorem call_setT {l:Addr} {its:List Value} {n:Nat} {xs:List Str} {Q:Value->Shared->Prop} (hh:A.handled=none) (e:∃ o,s.heap.get? l=some o/\o.cls=.type "tuple" /\ o.data=.seq its.toArray n) (hx:StrsAre its xs) (hz:xs.length<=100)
  (q:∀ g tk ss o es ep t,SetS P w g s.heap.objs.size ss o es ep t->ss.Nodup->ss.length<=100->(∀ y,y∈ss ↔ y∈xs)->(∀ b o,s.heap.get? b=some o->g.get? b=some o)->Q (.ref s.heap.objs.size) { s with heap:=g,toks:=tk }) :
  wpAny (model P w) A (call (.type "set") [.ref l]) Q E s:=by
 obtain ⟨ol,el,cl,dl⟩:=e
 refine wpAny_call (codeAny_of_tree (wpAny_pure ⟨Code.quiet_builtin _ (by decide +kernel),codeAny_builtin PySem.F.entry_type_call ?_⟩))
 rw [Around.under_plain (weight_type_call_type _ _ _) rfl]
 unfold Builtin.«type.__call__»
 dsimp only
 refine wpAny_ite_false (by rw [PySem.F.called_set.notType];rfl) ?_
 refine wpAny_ite_false (by rw [PySem.F.called_set.canCreate];rfl) ?_
 refine wpAny_bind (wpAny_of_eq (PySem.F.typeCall_set_1 _) ?_)
 obtain ⟨c,tl,hm⟩:=PySem.F.called_set.mro
 refine wpAny_bind (wpAny_of_eq hm ?_)
 refine wpAny_ite_false rfl ?_
 refine wpAny_bind (wpAny_of_eq PySem.F.called_set.made ?_)
 refine wpAny_bind (wpAny_pure ?_)
 refine wpAny_bind (wpAny_holding (wpAny_call (code_set_newL (Q₁:=_) (E:=_) _ ?_)))
 have ed:(s.heap.push { cls:=.type "set",data:=.set #[] 0 (SetTable.fresh 0 0 (!BT w)) }).get? s.heap.objs.size=some { cls:=.type "set",data:=.set #[] 0 (SetTable.fresh 0 0 (!BT w)) }:=Heap.get?_push_size _ rfl
 have el':(s.heap.push { cls:=.type "set",data:=.set #[] 0 (SetTable.fresh 0 0 (!BT w)) }).get? l=some ol:=Heap.get?_push_of_some _ el
 have S0:SetS P w (s.heap.push { cls:=.type "set",data:=.set #[] 0 (SetTable.fresh 0 0 (!BT w)) }) s.heap.objs.size [] { cls:=.type "set",data:=.set #[] 0 (SetTable.fresh 0 0 (!BT w)) } #[] 0 (SetTable.fresh 0 0 (!BT w)) :=
  ⟨ed,⟨rfl,rfl,rfl⟩,rfl,rfl,fun e he=>by simp at he,.nil,.inr rfl,fun z=>by show (!BT w)=true;rw [z];rfl⟩
 refine wpAny_bind (wpAny_isInstance (T := "set") ⟨_,ed,rfl⟩ PySem.F.called_set.sub ?_)
 refine wpAny_ite_false rfl ?_
 refine wpAny_bind (wpAny_holding (wpAny_callSpecial?_slot (T := "set") ⟨_,ed,rfl⟩ PySem.F.called_set.init ?_))
 refine wpAny_call (codeAny_call_builtin PySem.F.called_set.init.plain PySem.F.entry_set_init (check_set_init_1 ⟨_,ed,rfl⟩ ?_))
 show wpAny _ A.in1.in1 (noKeywords "set" _ >>= _) _ _ _
 refine wpAny_bind (wpAny_pure ?_)
 show wpAny _ A.in1.in1 (typeNameOfCut 200 (.ref s.heap.objs.size) >>= _) _ _ _
 refine wpAny_bind ?_
 show wpAny _ A.in1.in1 ((typeOf (.ref s.heap.objs.size) >>= _) >>= _) _ _ _
 refine wpAny_bind (wpAny_bind (wpAny_typeOf_ref ed ?_))
 refine wpAny_ite_false (show decide ((Value.type "set" == Value.type "builtin_function_or_method")=true)=false by decide) ?_
 refine wpAny_pure ?_
 show wpAny _ A.in1.in1 (typeName (.type "set")) _ _ _
 refine wpAny_of_eq (show typeName (.type "set")=pure "set" from by kernel_rfl) ?_
 show wpAny _ A.in1.in1 (checkCount "set" 0 1 1 >>= _) _ _ _
 refine wpAny_bind (wpAny_of_eq (show checkCount "set" 0 1 1=pure () from by kernel_rfl) ?_)
 refine wpAny_bind (wpAny_pure ?_)
 show wpAny _ A.in1.in1 ((setState s.heap.objs.size >>= _) >>= _) _ _ _
 refine wpAny_bind (wpAny_bind (wpAny_setState_of S0.at_ S0.dat S0.fit (wpAny_pure ?_)))
 refine wpAny_ite_false rfl ?_
 refine wpAny_bind ?_
 show wpAny _ A.in1.in1 (Builtin.Frozenset.isAnySet (.ref l) >>= _) _ _ _
 refine wpAny_bind ?_
 show wpAny _ A.in1.in1 (isInstance (.ref l) (.type "set") >>= _) _ _ _
 refine wpAny_bind (wpAny_isInstance (T := "tuple") ⟨ol,el',cl⟩ (show isSubtype (.type "tuple") (.type "set")=pure false from by kernel_rfl) ?_)
 show wpAny _ A.in1.in1 (isInstance (.ref l) (.type "frozenset")) _ _ _
 refine wpAny_isInstance (T := "tuple") ⟨ol,el',cl⟩ (show isSubtype (.type "tuple") (.type "frozenset")=pure false from by kernel_rfl) ?_
 refine wpAny_ite_false rfl ?_
 refine wpAny_bind (wpAny_typeOf_ref el' ?_)
 rw [cl]
 refine wpAny_ite_false (by decide) ?_
 refine wpAny_bind (wpAny_pyIter_tuple ⟨ol,el',cl,n,dl⟩ ?_)
 have ltA:l < (s.heap.push { cls:=.type "set",data:=.set #[] 0 (SetTable.fresh 0 0 (!BT w)) }).objs.size:=Heap.lt_size el'
 have ltD:s.heap.objs.size < (s.heap.push { cls:=.type "set",data:=.set #[] 0 (SetTable.fresh 0 0 (!BT w)) }).objs.size:=Heap.lt_size ed
 have W:=PySem.Walks.tuple (prog:=P) (w:=w) (A:=A.in1.in1.in1) hh (s.heap.push { cls:=.type "set",data:=.set #[] 0 (SetTable.fresh 0 0 (!BT w)) }).objs.size l (Nat.ne_of_lt ltA) its.toArray
 refine wpAny_bind (wpAny_runValue ?_)
 have hlen:its.toArray.size=xs.length:=by rw [List.size_toArray];exact strs_len hx
 refine set_loop W xs (fun i v hv=>?_) (fun z=>?_) hlen (by rw [hlen];exact hz) _ 0 _ [] _ #[] 0 _ rfl (Nat.zero_le _) ⟨⟨_,Heap.get?_push_size _ rfl,rfl,rfl⟩,⟨ol,Heap.get?_push_of_some _ el',cl,n,dl⟩⟩ (S0.keep fun o e=>Heap.get?_push_of_some _ e) (Nat.zero_le _) List.nodup_nil (fun y=>by simp) fun g tk ss o es ep t hS a1 a2 a3 kp=>?_
 ·obtain ⟨x,t,h1,h2⟩:=strs_at hx i v (by simpa using hv)
  exact ⟨x,t,h1,h2⟩
 ·rcases List.mem_cons.mp z with z | z
  ·exact absurd z (Nat.ne_of_lt ltD)
  ·exact absurd (List.mem_singleton.mp z) (Nat.ne_of_gt (Heap.lt_size el))
 ·refine wpAny_pure (wpAny_pure ?_)
  refine wpAny_ite_false rfl ?_
  refine wpAny_pure (q g tk ss o es ep t hS a1 (by rw [hlen] at a2;omega) a3 fun b o e=>kp b o (fun z=>?_) (Nat.ne_of_lt (Heap.lt_size e)) (Heap.get?_push_of_some _ (Heap.get?_push_of_some _ e)))
  have h1:=List.mem_singleton.mp z
  have h2:=Heap.lt_size e
  rw [h1] at h2
  exact absurd (Nat.lt_trans ltD h2) (Nat.lt_irrefl _)
end
end D3
namespace D3
open PySem PySem.Spec PyProof.Rows L2
theorem lkSI:typeLookup (.type "set_iterator") (Str.ofString "__next__")=pure (some (.builtin "set_iterator.__next__")):=by
 rw [typeLookup_type,builtinLookup_eq_fast]
 kernel_rfl
theorem subSI:isSubtype (.type "set_iterator") (.type "set_iterator")=pure true:=by
 rw [isSubtype_type]
 kernel_rfl
theorem slotSI:Slot "set_iterator" (Str.ofString "__next__") "set_iterator.__next__" := Slot.of (owner := "set_iterator") (n := "__next__") lkSI (by kernel_rfl) (by decide +kernel) (by decide +kernel) (.inl (by decide +kernel)) subSI (by decide +kernel)
theorem entrySI:entryFor table "set_iterator.__next__" = some Builtin.«set_iterator.__next__»:=entryFor_of_tree (by kernel_rfl)
theorem entrySet:entryFor table "set.__iter__" = some Builtin.«frozenset.__iter__»:=entryFor_alias (id' := "frozenset.__iter__") (by kernel_rfl) rfl (by decide +kernel) (by kernel_rfl)
theorem argsSI (a:Value):argsOk "set_iterator.__next__" ⟨[a],[]⟩:=by unfold argsOk;kernel_rfl
theorem lkSJ:typeLookup (.type "set_iterator") (Str.ofString "__iter__")=pure (some (.builtin "set_iterator.__iter__")):=by
 rw [typeLookup_type,builtinLookup_eq_fast]
 kernel_rfl
theorem slotSJ:Slot "set_iterator" (Str.ofString "__iter__") "set_iterator.__iter__" := Slot.of (owner := "set_iterator") (n := "__iter__") lkSJ (by kernel_rfl) (by decide +kernel) (by decide +kernel) (.inl (by decide +kernel)) subSI (by decide +kernel)
theorem entrySJ:entryFor table "set_iterator.__iter__" = some Builtin.«dict_keyiterator.__iter__»:=entryFor_alias (id' := "dict_keyiterator.__iter__") (by kernel_rfl) rfl (by decide +kernel) (by kernel_rfl)
theorem argsSJ (a:Value):argsOk "set_iterator.__iter__" ⟨[a],[]⟩:=by unfold argsOk;kernel_rfl
end D3
namespace D3
open PySem PySem.Spec PyProof.Rows L2
section
variable {P:Program} {w:World} {A:Around} {E:Value->Shared->Prop}
theorem erase_perm {α:Type} {l:List α} {i:Nat} {x:α} (h:l[i]?=some x):(x :: l.eraseIdx i).Perm l:=by
 obtain ⟨hk,he⟩:=List.getElem?_eq_some_iff.mp h
 have e:l=l.take i++x :: l.drop (i+1):=by
  conv=>lhs;rw [<- List.take_append_drop i l]
  congr 1
  rw [List.drop_eq_getElem_cons hk,he]
 rw [List.eraseIdx_eq_take_drop_succ]
 conv=>rhs;rw [e]
 exact (List.perm_middle).symm
theorem wp_choose {s:Shared} {src:Source} {n:Nat} {Q:Nat->Shared->Prop} (hn:n≠0) (q:∀ i dr,i < n->Q i { s with drawn:=dr }):wpAny (model P w) A (choose src n) Q E s:=by
 intro Γ p hΓ
 unfold choose
 rw [Sem.wp_choose]
 refine ⟨hn,?_⟩
 exact q _ _ (Nat.mod_lt _ (Nat.pos_of_ne_zero hn))
theorem wp_drawOrder:∀ (n:Nat) {s:Shared} {xs:List Nat} {Q:List Nat->Shared->Prop},xs.length=n->(∀ ys dr,ys.Perm xs->Q ys { s with drawn:=dr })->wpAny (model P w) A (drawOrder n xs) Q E s
 | 0,s,xs,Q,h,q=>by
  rw [drawOrder.eq_def]
  have:xs=[]:=List.length_eq_zero_iff.mp h
  subst this
  exact wpAny_pure (q [] s.drawn .nil)
 | n+1,s,[],Q,h,q=>by cases h
 | n+1,s,x :: xs,Q,h,q=>by
  rw [drawOrder.eq_def]
  refine wpAny_bind (wp_choose (by simp) fun i dr hi=>?_)
  have hg:(x :: xs)[i]?=some ((x :: xs)[i]):=List.getElem?_eq_getElem hi
  simp only [hg]
  refine wpAny_bind (wp_drawOrder n (by rw [List.length_eraseIdx,if_pos hi,h];rfl) fun ys dr2 hp=>wpAny_pure (q _ dr2 ?_))
  exact (hp.cons _).trans (erase_perm hg)
theorem pick_go {α:Type} (next:Nat->Nat):∀ (fuel k:Nat) (left:List α) (out:Array α),left.length=fuel->(pickOrder.go next fuel k left out).toList.Perm (out.toList++left)
 | 0,k,left,out,h=>by
  rw [pickOrder.go.eq_def]
  have:left=[]:=List.length_eq_zero_iff.mp h
  subst this
  simp
 | fuel+1,k,left,out,h=>by
  rw [pickOrder.go.eq_def]
  have hi:next k % left.length < left.length:=Nat.mod_lt _ (by omega)
  have hg:left[next k % left.length]?=some (left[next k % left.length]):=List.getElem?_eq_getElem hi
  simp only [hg]
  refine (pick_go next fuel (k+1) _ _ (by rw [List.length_eraseIdx,if_pos hi,h];rfl)).trans ?_
  rw [Array.toList_push,List.append_assoc]
  exact (erase_perm hg).append_left _
theorem pick_perm {α:Type} (next:Nat->Nat) (xs:Array α):(pickOrder next xs).toList.Perm xs.toList:=by
 unfold pickOrder
 exact (pick_go next xs.size 0 xs.toList #[] (by simp)).trans (by simp)
end
def siO (first:Value) (i:Nat) (a:Addr) (n ep:Nat):Obj:={ cls:=.type "set_iterator",data:=.fields #[first,.int i 0,.ref a,.int n 0,.int ep 0] }
section
variable {P:Program} {w:World} {A:Around} {E:Value->Shared->Prop} {s:Shared} {I a tp:Addr} {ss:List Str} {o:Obj} {es:Array (Int × Value)} {ep:Nat} {t:SetTable} {Q:Option Value->Shared->Prop}
theorem next_drawn {ord:List Nat} {i m p:Nat} {e:Int × Value} (hI:s.heap.get? I=some (siO (.ref tp) i a es.size ep)) (htp:s.heap.get? tp=some { cls:=.type "tuple",data:=.seq (ord.map fun k:Nat=>rawInt (k:Int)).toArray m }) (hS:SetS P w s.heap a ss o es ep t) (hp:ord[i]?=some p) (he:es[p]?=some e)
  (q:∀ h',h'.get? I=some (siO (.ref tp) (i+1) a es.size ep)->(∀ b o,b≠I->s.heap.get? b=some o->h'.get? b=some o)->Q (some e.2) { s with heap:=h' }):wpAny (model P w) A (pyNext (.ref I)) Q E s:=by
 have hT:s.TypeIs (.ref I) "set_iterator" := ⟨_,hI,rfl⟩
 unfold pyNext
 refine wpAny_bind (wpAny_attempt (wpAny_callSpecial?_slot (T := "set_iterator") (name:=Str.ofString "__next__") hT slotSI (wpAny_call_entry slotSI hT entrySI ?_ (argsSI _))))
 show wpAny _ _ (slotArgs "__next__" 0 _ >>= _) _ _ s
 refine wpAny_bind (wpAny_pure ?_)
 show wpAny _ _ (fieldsOf (.ref I) >>= _) _ _ s
 refine wpAny_bind (wpAny_fieldsOf hI rfl ?_)
 dsimp only
 refine wpAny_bind (wpAny_bind (wpAny_setState_of hS.at_ hS.dat hS.fit (wpAny_pure ?_)))
 refine wpAny_ite_false (by simp) ?_
 refine wpAny_bind (wpAny_seqItems htp rfl ?_)
 have hx:((ord.map fun k:Nat=>rawInt (k:Int)).toArray)[(i:Int).toNat]?=some (.int (p:Int) 0):=by
  rw [Int.toNat_natCast,List.getElem?_toArray,List.getElem?_map,hp];rfl
 simp only [hx]
 refine wpAny_bind ?_
 show wpAny _ _ (setState a >>= _) _ _ _
 refine wpAny_bind (wpAny_setState_of hS.at_ hS.dat hS.fit ?_)
 refine wpAny_ite_false (by simp) ?_
 simp only [Int.toNat_natCast,he]
 refine wpAny_pure ?_
 refine wpAny_bind (wpAny_setField hI rfl (by simp) (wpAny_pure ⟨e.2,rfl,wpAny_pure (q _ ?_ fun b o hb z=>(Heap.get?_update_other _ _ (Ne.symm hb)).trans z)⟩))
 refine (Heap.get?_update_self _ hI rfl).trans ?_
 rfl
theorem isStop {s:Shared} {e:Addr} {Q:Option Value->Shared->Prop} (h:∃ o,s.heap.get? e=some o/\o.cls=.type "StopIteration") (q:Q none s):wpAny (model P w) A (isInstance (.ref e) (.type "StopIteration") >>= fun b=>if b=true then pure none else throw (.ref e)) Q E s:=by
 obtain ⟨o,h1,h2⟩:=h
 exact wpAny_bind (wpAny_isInstance (T := "StopIteration") ⟨o,h1,h2⟩ (show isSubtype (.type "StopIteration") (.type "StopIteration")=pure true from by kernel_rfl) (wpAny_pure q))
theorem stop_end {R:PySem.Fin->Shared->Prop} {Z:Value->Shared->Prop} {j:Nat} {vs:Array Value} {oI:Obj} (hh:A.handled=none) (hI:s.heap.get? I=some oI) (hd:oI.data=.fields vs) (hj:j < vs.size) (q:∀ g e,(∀ b o,b≠I->s.heap.get? b=some o->g.get? b=some o)->(∃ o,g.get? e=some o/\o.cls=.type "StopIteration")->Z (.ref e) { s with heap:=g }) :
  wpAny (model P w) A (setField (.ref I) j .none >>= fun _=>newExc (.type "StopIteration") [] >>= fun e=>raiseNew e) R Z s:=by
 refine wpAny_bind (wpAny_setField hI hd hj ?_)
 refine wpAny_bind ?_
 simp only [newExc,newTuple]
 refine wpAny_bind (wpAny_newObj_type (wpAny_bind (m:=firstArgMember _ _) (wpAny_of_eq (a:=Value.none) (by first | rfl | (simp only [firstArgMember];rfl)) (wpAny_newObj_type ?_ (by size_fits)))) (by size_fits))
 simp only [raiseNew]
 refine wpAny_bind (wpAny_handled ?_)
 rw [hh]
 refine wpAny_bind (wpAny_pure (wpAny_throw (q _ _ (fun b o hb z=>?_) ⟨_,Heap.get?_push_size _ rfl,rfl⟩)))
 exact Heap.get?_push_of_some _ (Heap.get?_push_of_some _ ((Heap.get?_update_other _ _ (Ne.symm hb)).trans z))
theorem end_drawn {ord:List Nat} {i m:Nat} (hh:A.handled=none) (hI:s.heap.get? I=some (siO (.ref tp) i a es.size ep)) (htp:s.heap.get? tp=some { cls:=.type "tuple",data:=.seq (ord.map fun k:Nat=>rawInt (k:Int)).toArray m }) (hS:SetS P w s.heap a ss o es ep t) (hp:ord[i]?=none)
  (q:∀ h',(∀ b o,b≠I->s.heap.get? b=some o->h'.get? b=some o)->Q none { s with heap:=h' }):wpAny (model P w) A (pyNext (.ref I)) Q E s:=by
 have hT:s.TypeIs (.ref I) "set_iterator" := ⟨_,hI,rfl⟩
 unfold pyNext
 refine wpAny_bind (wpAny_attempt (wpAny_callSpecial?_slot (T := "set_iterator") (name:=Str.ofString "__next__") hT slotSI (wpAny_call_entry slotSI hT entrySI ?_ (argsSI _))))
 show wpAny _ _ (slotArgs "__next__" 0 _ >>= _) _ _ s
 refine wpAny_bind (wpAny_pure ?_)
 show wpAny _ _ (fieldsOf (.ref I) >>= _) _ _ s
 refine wpAny_bind (wpAny_fieldsOf hI rfl ?_)
 dsimp only
 refine wpAny_bind (wpAny_bind (wpAny_setState_of hS.at_ hS.dat hS.fit (wpAny_pure ?_)))
 refine wpAny_ite_false (by simp) ?_
 refine wpAny_bind (wpAny_seqItems htp rfl ?_)
 have hx:((ord.map fun k:Nat=>rawInt (k:Int)).toArray)[(i:Int).toNat]?=none:=by
  rw [Int.toNat_natCast,List.getElem?_toArray,List.getElem?_map,hp];rfl
 simp only [hx]
 refine wpAny_bind (wpAny_setField hI rfl (by simp) ?_)
 have hI2:=Heap.get?_update_self (h:=s.heap) (a:=I) (f:=Obj.mapFields fun x_1=>x_1.setIfInBounds 0 (rawInt 0)) hI rfl
 refine stop_end (s:={ s with heap:=s.heap.update I (Obj.mapFields fun x_1=>x_1.setIfInBounds 0 (rawInt 0)) }) hh hI2 rfl (by simp) fun g e k h=>?_
 refine isStop h (q g fun b o hb z=>k b o hb ((Heap.get?_update_other _ _ (Ne.symm hb)).trans z))
theorem next_text {i:Nat} {e:Int × Value} (hb:BT w=true) (hI:s.heap.get? I=some (siO (.int 0 0) i a es.size ep)) (hS:SetS P w s.heap a ss o es ep t) (he:(pickOrder (w.params.setOrder a ep) es)[i]?=some e)
  (q:∀ h',h'.get? I=some (siO (.int 0 0) (i+1) a es.size ep)->(∀ b o,b≠I->s.heap.get? b=some o->h'.get? b=some o)->Q (some e.2) { s with heap:=h' }):wpAny (model P w) A (pyNext (.ref I)) Q E s:=by
 have hT:s.TypeIs (.ref I) "set_iterator" := ⟨_,hI,rfl⟩
 unfold pyNext
 refine wpAny_bind (wpAny_attempt (wpAny_callSpecial?_slot (T := "set_iterator") (name:=Str.ofString "__next__") hT slotSI (wpAny_call_entry slotSI hT entrySI ?_ (argsSI _))))
 show wpAny _ _ (slotArgs "__next__" 0 _ >>= _) _ _ s
 refine wpAny_bind (wpAny_pure ?_)
 show wpAny _ _ (fieldsOf (.ref I) >>= _) _ _ s
 refine wpAny_bind (wpAny_fieldsOf hI rfl ?_)
 dsimp only
 refine wpAny_bind (wpAny_bind (wpAny_setState_of hS.at_ hS.dat hS.fit (wpAny_pure ?_)))
 refine wpAny_ite_false (by simp) ?_
 refine wpAny_bind ?_
 show wpAny _ _ (setState a >>= _) _ _ _
 refine wpAny_bind (wpAny_setState_of hS.at_ hS.dat hS.fit ?_)
 refine wpAny_bind (wp_byText ?_)
 rw [if_pos hb]
 refine wpAny_ite_false (by simp) ?_
 refine wpAny_bind ?_
 show wpAny _ _ (setState a >>= _) _ _ _
 refine wpAny_bind (wpAny_setState_of hS.at_ hS.dat hS.fit ?_)
 refine wpAny_bind (wp_byText ?_)
 rw [if_pos hb]
 refine wpAny_bind (wpAny_askSetting (wpAny_pure ?_))
 refine wpAny_pure ?_
 have he':(pickOrder ((model P w).w.params.setOrder a ep) es)[(i:Int).toNat]?=some e:=by rw [Int.toNat_natCast];exact he
 simp only [he',Option.map_some]
 refine wpAny_bind (wpAny_setField hI rfl (by simp) ?_)
 have hI2:=Heap.get?_update_self (h:=s.heap) (a:=I) (f:=Obj.mapFields fun x_1=>x_1.setIfInBounds 0 (rawInt ↑(Int.toNat 0))) hI rfl
 refine wpAny_bind (wpAny_setField hI2 rfl (by simp) (wpAny_pure ⟨e.2,rfl,wpAny_pure (q _ ?_ fun b o hb z=>(Heap.get?_update_other _ _ (Ne.symm hb)).trans ((Heap.get?_update_other _ _ (Ne.symm hb)).trans z))⟩))
 refine (Heap.get?_update_self _ hI2 rfl).trans ?_
 rfl
theorem end_text {i:Nat} (hh:A.handled=none) (hb:BT w=true) (hI:s.heap.get? I=some (siO (.int 0 0) i a es.size ep)) (hS:SetS P w s.heap a ss o es ep t) (he:(pickOrder (w.params.setOrder a ep) es)[i]?=none)
  (q:∀ h',(∀ b o,b≠I->s.heap.get? b=some o->h'.get? b=some o)->Q none { s with heap:=h' }):wpAny (model P w) A (pyNext (.ref I)) Q E s:=by
 have hT:s.TypeIs (.ref I) "set_iterator" := ⟨_,hI,rfl⟩
 unfold pyNext
 refine wpAny_bind (wpAny_attempt (wpAny_callSpecial?_slot (T := "set_iterator") (name:=Str.ofString "__next__") hT slotSI (wpAny_call_entry slotSI hT entrySI ?_ (argsSI _))))
 show wpAny _ _ (slotArgs "__next__" 0 _ >>= _) _ _ s
 refine wpAny_bind (wpAny_pure ?_)
 show wpAny _ _ (fieldsOf (.ref I) >>= _) _ _ s
 refine wpAny_bind (wpAny_fieldsOf hI rfl ?_)
 dsimp only
 refine wpAny_bind (wpAny_bind (wpAny_setState_of hS.at_ hS.dat hS.fit (wpAny_pure ?_)))
 refine wpAny_ite_false (by simp) ?_
 refine wpAny_bind ?_
 show wpAny _ _ (setState a >>= _) _ _ _
 refine wpAny_bind (wpAny_setState_of hS.at_ hS.dat hS.fit ?_)
 refine wpAny_bind (wp_byText ?_)
 rw [if_pos hb]
 refine wpAny_ite_false (by simp) ?_
 refine wpAny_bind ?_
 show wpAny _ _ (setState a >>= _) _ _ _
 refine wpAny_bind (wpAny_setState_of hS.at_ hS.dat hS.fit ?_)
 refine wpAny_bind (wp_byText ?_)
 rw [if_pos hb]
 refine wpAny_bind (wpAny_askSetting (wpAny_pure ?_))
 refine wpAny_pure ?_
 have he':(pickOrder ((model P w).w.params.setOrder a ep) es)[(i:Int).toNat]?=none:=by rw [Int.toNat_natCast];exact he
 simp only [he',Option.map_none]
 exact stop_end hh hI rfl (by simp) fun g e k h=>isStop h (q g k)
theorem next_one {i:Nat} {e:Int × Value} {j:Nat} {sl:Nat} (hb:BT w=false) (h1:es.size<=1) (hI:s.heap.get? I=some (siO (rawInt (sl:Nat)) i a es.size ep)) (hS:SetS P w s.heap a ss o es ep t) (hw:SetTable.below t.place sl=0) (he:es[0]?=some e) (hj:t.place[0]?=some j)
  (q:∀ h',h'.get? I=some (siO (rawInt ((j+1:Nat):Int)) (i+1) a es.size ep)->(∀ b o,b≠I->s.heap.get? b=some o->h'.get? b=some o)->Q (some e.2) { s with heap:=h' }):wpAny (model P w) A (pyNext (.ref I)) Q E s:=by
 have hT:s.TypeIs (.ref I) "set_iterator" := ⟨_,hI,rfl⟩
 have hled:=hS.led hb
 unfold pyNext
 refine wpAny_bind (wpAny_attempt (wpAny_callSpecial?_slot (T := "set_iterator") (name:=Str.ofString "__next__") hT slotSI (wpAny_call_entry slotSI hT entrySI ?_ (argsSI _))))
 show wpAny _ _ (slotArgs "__next__" 0 _ >>= _) _ _ s
 refine wpAny_bind (wpAny_pure ?_)
 show wpAny _ _ (fieldsOf (.ref I) >>= _) _ _ s
 refine wpAny_bind (wpAny_fieldsOf hI rfl ?_)
 dsimp only
 refine wpAny_bind (wpAny_bind (wpAny_setState_of hS.at_ hS.dat hS.fit (wpAny_pure ?_)))
 refine wpAny_ite_false (by simp) ?_
 refine wpAny_bind ?_
 show wpAny _ _ (setState a >>= _) _ _ _
 refine wpAny_bind (wpAny_setState_of hS.at_ hS.dat hS.fit ?_)
 refine wpAny_bind (wp_byText ?_)
 rw [if_neg (by rw [hb];decide)]
 show wpAny _ _ (if (!t.plain && decide (es.size > 1))=true then _ else _) _ _ _
 rw [if_neg (by rw [decide_eq_false (by omega)];simp)]
 refine wpAny_bind ?_
 show wpAny _ _ (if (!t.led && !es.isEmpty)=true then _ else _) _ _ _
 rw [if_neg (by rw [hled];simp)]
 refine wpAny_pure ?_
 refine wpAny_pure ?_
 rw [Int.toNat_natCast,hw]
 simp only [he,hj]
 refine wpAny_bind (wpAny_setField hI rfl (by simp) ?_)
 have hI2:=Heap.get?_update_self (h:=s.heap) (a:=I) (f:=Obj.mapFields fun x_1=>x_1.setIfInBounds 0 (rawInt ((j+1:Nat):Int))) hI rfl
 refine wpAny_bind (wpAny_setField hI2 rfl (by simp) (wpAny_pure ⟨e.2,rfl,wpAny_pure (q _ ?_ fun b o hb z=>(Heap.get?_update_other _ _ (Ne.symm hb)).trans ((Heap.get?_update_other _ _ (Ne.symm hb)).trans z))⟩))
 refine (Heap.get?_update_self _ hI2 rfl).trans ?_
 rfl
theorem end_one {i:Nat} {sl:Nat} (hh:A.handled=none) (hb:BT w=false) (h1:es.size<=1) (hI:s.heap.get? I=some (siO (rawInt (sl:Nat)) i a es.size ep)) (hS:SetS P w s.heap a ss o es ep t) (he:es[SetTable.below t.place sl]?=none)
  (q:∀ h',(∀ b o,b≠I->s.heap.get? b=some o->h'.get? b=some o)->Q none { s with heap:=h' }):wpAny (model P w) A (pyNext (.ref I)) Q E s:=by
 have hT:s.TypeIs (.ref I) "set_iterator" := ⟨_,hI,rfl⟩
 have hled:=hS.led hb
 unfold pyNext
 refine wpAny_bind (wpAny_attempt (wpAny_callSpecial?_slot (T := "set_iterator") (name:=Str.ofString "__next__") hT slotSI (wpAny_call_entry slotSI hT entrySI ?_ (argsSI _))))
 show wpAny _ _ (slotArgs "__next__" 0 _ >>= _) _ _ s
 refine wpAny_bind (wpAny_pure ?_)
 show wpAny _ _ (fieldsOf (.ref I) >>= _) _ _ s
 refine wpAny_bind (wpAny_fieldsOf hI rfl ?_)
 dsimp only
 refine wpAny_bind (wpAny_bind (wpAny_setState_of hS.at_ hS.dat hS.fit (wpAny_pure ?_)))
 refine wpAny_ite_false (by simp) ?_
 refine wpAny_bind ?_
 show wpAny _ _ (setState a >>= _) _ _ _
 refine wpAny_bind (wpAny_setState_of hS.at_ hS.dat hS.fit ?_)
 refine wpAny_bind (wp_byText ?_)
 rw [if_neg (by rw [hb];decide)]
 show wpAny _ _ (if (!t.plain && decide (es.size > 1))=true then _ else _) _ _ _
 rw [if_neg (by rw [decide_eq_false (by omega)];simp)]
 refine wpAny_bind ?_
 show wpAny _ _ (if (!t.led && !es.isEmpty)=true then _ else _) _ _ _
 rw [if_neg (by rw [hled];simp)]
 refine wpAny_pure ?_
 refine wpAny_pure ?_
 rw [Int.toNat_natCast]
 simp only [he]
 exact stop_end hh hI rfl (by simp) fun g e k h=>isStop h (q g k)
end
end D3
namespace D3
open PySem PySem.Spec PyProof.Rows L2
section
variable {P:Program} {w:World} {A:Around} {I a tp:Addr} {ss:List Str} {o:Obj} {es:Array (Int × Value)} {ep:Nat} {t:SetTable}
theorem iter_self {s:Shared} {Q E:Value->Shared->Prop} (hT:s.TypeIs (.ref I) "set_iterator") (q:Q (.ref I) s):wpAny (model P w) A (pyIter (.ref I)) Q E s :=
 wpAny_pyIter_slot hT slotSJ (wpAny_call_entry slotSJ hT entrySJ (wpAny_pure ⟨.ref I,rfl, "set_iterator",.builtin "set_iterator.__next__",hT,lkSI,q⟩) (argsSJ _))
theorem walks_drawn (hh:A.handled=none) {ord:List Nat} {m:Nat} (hia:a≠I) (hit:tp≠I) (hord:ord.Perm (List.range es.size)) :
  PySem.Walks P w A I [I,tp,a] [I] es.size (fun i v=>∃ p e,ord[i]?=some p/\es[p]?=some e/\v=e.2) (fun i h=>h.get? I=some (siO (.ref tp) i a es.size ep)/\h.get? tp=some { cls:=.type "tuple",data:=.seq (ord.map fun k:Nat=>rawInt (k:Int)).toArray m }/\SetS P w h a ss o es ep t) where
 sub:=by simp
 frame:=fun i h h' ⟨h1,h2,h3⟩ k=>⟨k _ (by simp) _ h1,k _ (by simp) _ h2,h3.keep fun o e=>k _ (by simp) o e⟩
 item:=fun i s Q E hi ⟨h1,h2,h3⟩ q=>by
  have hl:ord.length=es.size:=by rw [hord.length_eq,List.length_range]
  have hp:ord[i]?=some (ord[i]'(by omega)):=List.getElem?_eq_getElem _
  have hm:ord[i]'(by omega)∈List.range es.size:=hord.mem_iff.mp (List.getElem_mem _)
  have hlt:=List.mem_range.mp hm
  have he:es[ord[i]'(by omega)]?=some (es[ord[i]'(by omega)]):=Array.getElem?_eq_getElem hlt
  exact next_drawn h1 h2 h3 hp he fun h' g1 g2=>q _ h' s.toks ⟨_,_,hp,he,rfl⟩ ⟨g1,g2 _ _ hit h2,h3.keep fun o e=>g2 _ _ hia e⟩ fun b o hb e=>g2 b o (fun z=>hb (by simp [z])) e
 done:=fun s Q E ⟨h1,h2,h3⟩ q=>by
  have hl:ord.length=es.size:=by rw [hord.length_eq,List.length_range]
  exact end_drawn hh h1 h2 h3 (List.getElem?_eq_none (by omega)) fun h' k=>q h' s.toks fun b o hb e=>k b o (fun z=>hb (by simp [z])) e
 self:=fun i s Q E ⟨h1,h2,h3⟩ q=>iter_self ⟨_,h1,rfl⟩ q
theorem walks_text (hh:A.handled=none) (hb:BT w=true) (hia:a≠I) :
  PySem.Walks P w A I [I,a] [I] es.size (fun i v=>∃ e,(pickOrder (w.params.setOrder a ep) es)[i]?=some e/\v=e.2) (fun i h=>h.get? I=some (siO (.int 0 0) i a es.size ep)/\SetS P w h a ss o es ep t) where
 sub:=by simp
 frame:=fun i h h' ⟨h1,h3⟩ k=>⟨k _ (by simp) _ h1,h3.keep fun o e=>k _ (by simp) o e⟩
 item:=fun i s Q E hi ⟨h1,h3⟩ q=>by
  have hl:(pickOrder (w.params.setOrder a ep) es).size=es.size:=by have:=(pick_perm (w.params.setOrder a ep) es).length_eq;simpa using this
  have he:(pickOrder (w.params.setOrder a ep) es)[i]?=some ((pickOrder (w.params.setOrder a ep) es)[i]'(by omega)):=Array.getElem?_eq_getElem _
  exact next_text hb h1 h3 he fun h' g1 g2=>q _ h' s.toks ⟨_,he,rfl⟩ ⟨g1,h3.keep fun o e=>g2 _ _ hia e⟩ fun b o hb e=>g2 b o (fun z=>hb (by simp [z])) e
 done:=fun s Q E ⟨h1,h3⟩ q=>by
  have hl:(pickOrder (w.params.setOrder a ep) es).size=es.size:=by have:=(pick_perm (w.params.setOrder a ep) es).length_eq;simpa using this
  exact end_text hh hb h1 h3 (Array.getElem?_eq_none (by omega)) fun h' k=>q h' s.toks fun b o hb e=>k b o (fun z=>hb (by simp [z])) e
 self:=fun i s Q E ⟨h1,h3⟩ q=>iter_self ⟨_,h1,rfl⟩ q
theorem below_one {xs:Array Nat} {j:Nat} (h1:xs.size=1) (hj:xs[0]?=some j):SetTable.below xs 0=0/\SetTable.below xs (j+1)=1:=by
 obtain ⟨l⟩:=xs
 match l,h1 with
 | [x],_ =>
  have e:x=j:=by simpa using hj
  subst e
  constructor
  ·rfl
  ·show SetTable.below.go #[x] (x+1) 1 0 1=1
   simp [SetTable.below.go]
theorem walks_one (hh:A.handled=none) (hb:BT w=false) (hia:a≠I) (h1:es.size=1) {j:Nat} (hp:t.place.size=1) (hj:t.place[0]?=some j) :
  PySem.Walks P w A I [I,a] [I] es.size (fun i v=>∃ e,es[i]?=some e/\v=e.2) (fun i h=>h.get? I=some (siO (rawInt ((if i=0 then 0 else j+1:Nat):Int)) i a es.size ep)/\SetS P w h a ss o es ep t) where
 sub:=by simp
 frame:=fun i h h' ⟨h1,h3⟩ k=>⟨k _ (by simp) _ h1,h3.keep fun o e=>k _ (by simp) o e⟩
 item:=fun i s Q E hi ⟨g1,h3⟩ q=>by
  have hi0:i=0:=by omega
  subst hi0
  have he:es[0]?=some (es[0]'(by omega)):=Array.getElem?_eq_getElem _
  exact next_one hb (by omega) g1 h3 (below_one hp hj).1 he hj fun h' a1 a2=>q _ h' s.toks ⟨_,he,rfl⟩ ⟨a1,h3.keep fun o e=>a2 _ _ hia e⟩ fun b o hb e=>a2 b o (fun z=>hb (by simp [z])) e
 done:=fun s Q E ⟨g1,h3⟩ q=>by
  rw [if_neg (by omega)] at g1
  exact end_one hh hb (by omega) g1 h3 (by rw [(below_one hp hj).2];exact Array.getElem?_eq_none (by omega)) fun h' k=>q h' s.toks fun b o hb e=>k b o (fun z=>hb (by simp [z])) e
 self:=fun i s Q E ⟨h1,h3⟩ q=>iter_self ⟨_,h1,rfl⟩ q
theorem walks_zero (hh:A.handled=none) (hb:BT w=false) (hia:a≠I) (h0:es.size=0) :
  PySem.Walks P w A I [I,a] [I] es.size (fun i v=>∃ e,es[i]?=some e/\v=e.2) (fun i h=>h.get? I=some (siO (rawInt ((0:Nat):Int)) i a es.size ep)/\SetS P w h a ss o es ep t) where
 sub:=by simp
 frame:=fun i h h' ⟨h1,h3⟩ k=>⟨k _ (by simp) _ h1,h3.keep fun o e=>k _ (by simp) o e⟩
 item:=fun i s Q E hi ⟨g1,h3⟩ q=>absurd hi (by omega)
 done:=fun s Q E ⟨g1,h3⟩ q=>by
  exact end_one hh hb (by omega) g1 h3 (Array.getElem?_eq_none (by omega)) fun h' k=>q h' s.toks fun b o hb e=>k b o (fun z=>hb (by simp [z])) e
 self:=fun i s Q E ⟨h1,h3⟩ q=>iter_self ⟨_,h1,rfl⟩ q
end
end D3
namespace D3
open PySem PySem.Spec PyProof.Rows L2
section
variable {P:Program} {w:World} {A:Around} {E:Value->Shared->Prop} {s:Shared} {a:Addr} {ss:List Str} {o:Obj} {es:Array (Int × Value)} {ep:Nat} {t:SetTable}
theorem items_map {Pi:Nat->Value->Prop} {acc:Array Value} {n:Nat} {vs:List Value} (h:ItemsOf Pi acc n) (hn:vs.length=n) (hv:∀ i v,Pi i v->vs[i]?=some v):acc.toList=vs:=by
 refine List.ext_getElem? fun i=>?_
 by_cases hi:i < n
 ·have hi':i < acc.size:=by rw [h.1];exact hi
  rw [Array.getElem?_toList,Array.getElem?_eq_getElem hi',hv i _ (h.2 i _ (Array.getElem?_eq_getElem hi'))]
 ·rw [List.getElem?_eq_none (by rw [Array.length_toList,h.1];omega),List.getElem?_eq_none (by omega)]
theorem iter_set {Q:Value->Shared->Prop} (hS:SetS P w s.heap a ss o es ep t) (hz:ss.length<=1000)
  (q:∀ (I:Addr) (h':Heap) dr (fp:List Addr) (Pi:Nat->Value->Prop) (St:Nat->Heap->Prop),(∀ B:Around,B.handled=none->PySem.Walks P w B I fp [I] es.size Pi St)->St 0 h'->(∀ b∈fp,b=a\/s.heap.objs.size<=b)->I∈fp->s.heap.objs.size<=I->(∃ oI,h'.get? I=some oI/\oI.cls=.type "set_iterator") ->
   (∀ acc,ItemsOf Pi acc es.size->∃ ss',ss'.Perm ss/\StrsAre acc.toList ss')->(∀ b o,s.heap.get? b=some o->h'.get? b=some o)->Q (.ref I) { s with heap:=h',drawn:=dr }) :
  wpAny (model P w) A (pyIter (.ref a)) Q E s:=by
 have hT:s.TypeIs (.ref a) "set" := ⟨o,hS.at_,hS.ex.1⟩
 have hsz:=hS.size
 have hla:a < s.heap.objs.size:=Heap.lt_size hS.at_
 refine wpAny_pyIter_slot hT PySem.F.slot_set_iter (wpAny_call_entry PySem.F.slot_set_iter hT entrySet ?_ (PySem.F.args_set_iter_1 _))
 show wpAny _ _ (Builtin.Frozenset.slot0 "__iter__" _ >>= _) _ _ s
 refine wpAny_bind (wpAny_pure ?_)
 refine wpAny_bind ?_
 show wpAny _ _ ((setState a >>= _) >>= _) _ _ s
 refine wpAny_bind (wpAny_bind (wpAny_setState_of hS.at_ hS.dat hS.fit (wpAny_pure (wpAny_pure ?_))))
 refine wpAny_bind ?_
 show wpAny _ _ (setState a >>= _) _ _ s
 refine wpAny_bind (wpAny_setState_of hS.at_ hS.dat hS.fit ?_)
 refine wpAny_bind (wp_byText (wpAny_pure ?_))
 cases hb:BT w with
 | true =>
  refine wpAny_ite_false rfl ?_
  refine wpAny_bind (wpAny_pure ?_)
  refine wpAny_bind ?_
  show wpAny _ _ (setState a >>= _) _ _ s
  refine wpAny_bind (wpAny_setState_of hS.at_ hS.dat hS.fit (wpAny_pure ?_))
  refine wpAny_bind (wpAny_newObj_type ?_ (by size_fits))
  have hI:(s.heap.push (siO (.int 0 0) 0 a es.size ep)).get? s.heap.objs.size=some (siO (.int 0 0) 0 a es.size ep):=Heap.get?_push_size _ rfl
  refine wpAny_pure ⟨.ref s.heap.objs.size,rfl, "set_iterator",.builtin "set_iterator.__next__",⟨_,hI,rfl⟩,lkSI,?_⟩
  refine q s.heap.objs.size (s.heap.push (siO (.int 0 0) 0 a es.size ep)) s.drawn _ _ _ (fun B hB=>walks_text (ss:=ss) (o:=o) (t:=t) hB hb (Nat.ne_of_lt hla)) ⟨hI,hS.keep fun o e=>Heap.get?_push_of_some _ e⟩ (fun b hb=>?_) (by simp) (Nat.le_refl _) ⟨_,hI,rfl⟩ (fun acc hacc=>?_) fun b o e=>Heap.get?_push_of_some _ e
  ·simp only [List.mem_cons,List.not_mem_nil,or_false] at hb
   rcases hb with rfl | rfl
   ·exact .inr (Nat.le_refl _)
   ·exact .inl rfl
  ·have hpp:=pick_perm (w.params.setOrder a ep) es
   have e:acc.toList=(pickOrder (w.params.setOrder a ep) es).toList.map (·.2):=items_map hacc (by rw [List.length_map,hpp.length_eq];simp) fun i v ⟨x,h1,h2⟩=>by rw [List.getElem?_map,Array.getElem?_toList,h1,h2];rfl
   rw [e]
   exact strs_perm (hpp.map (·.2)) hS.str_
 | false =>
  split
  ·refine wpAny_bind (wp_drawOrder es.size (by simp) fun ord dr hord=>?_)
   refine wpAny_bind (wpAny_newObj_type ?_ (by show (ord.map _).toArray.size<=sizeLine;rw [List.size_toArray,List.length_map,hord.length_eq,List.length_range,sizeLine_eq];show es.size<=_;omega))
   refine wpAny_bind ?_
   show wpAny _ _ (setState a >>= _) _ _ _
   refine wpAny_bind (wpAny_setState_of (Heap.get?_push_of_some _ hS.at_) hS.dat hS.fit (wpAny_pure ?_))
   refine wpAny_bind (wpAny_newObj_type ?_ (by size_fits))
   have hord:ord.Perm (List.range es.size):=hord
   have htp:((s.heap.push { cls:=.type "tuple",data:=.seq (ord.map fun k:Nat=>rawInt (k:Int)).toArray }).push (siO (.ref s.heap.objs.size) 0 a es.size ep)).get? s.heap.objs.size=some { cls:=.type "tuple",data:=.seq (ord.map fun k:Nat=>rawInt (k:Int)).toArray }:=Heap.get?_push_of_some _ (Heap.get?_push_size _ rfl)
   have hI:((s.heap.push { cls:=.type "tuple",data:=.seq (ord.map fun k:Nat=>rawInt (k:Int)).toArray }).push (siO (.ref s.heap.objs.size) 0 a es.size ep)).get? (s.heap.push { cls:=.type "tuple",data:=.seq (ord.map fun k:Nat=>rawInt (k:Int)).toArray }).objs.size=some (siO (.ref s.heap.objs.size) 0 a es.size ep):=Heap.get?_push_size _ rfl
   have hsp:(s.heap.push { cls:=.type "tuple",data:=.seq (ord.map fun k:Nat=>rawInt (k:Int)).toArray }).objs.size=s.heap.objs.size+1:=Heap.size_push _ _
   refine wpAny_pure ⟨_,rfl, "set_iterator",.builtin "set_iterator.__next__",⟨_,hI,rfl⟩,lkSI,?_⟩
   refine q _ ((s.heap.push { cls:=.type "tuple",data:=.seq (ord.map fun k:Nat=>rawInt (k:Int)).toArray }).push (siO (.ref s.heap.objs.size) 0 a es.size ep)) dr _ _ _ (fun B hB=>walks_drawn (m:=0) (ss:=ss) (o:=o) (t:=t) (tp:=s.heap.objs.size) (ep:=ep) hB (by rw [hsp];exact Nat.ne_of_lt (Nat.lt_succ_of_lt hla)) (by rw [hsp];exact Nat.ne_of_lt (Nat.lt_succ_self _)) hord) ⟨hI,htp,hS.keep fun o e=>Heap.get?_push_of_some _ (Heap.get?_push_of_some _ e)⟩ (fun b hb=>?_) (by simp) (by rw [hsp];exact Nat.le_succ _) ⟨_,hI,rfl⟩ (fun acc hacc=>?_) fun b o e=>Heap.get?_push_of_some _ (Heap.get?_push_of_some _ e)
   ·simp only [List.mem_cons,List.not_mem_nil,or_false] at hb
    rcases hb with rfl | rfl | rfl
    ·rw [hsp];exact .inr (Nat.le_succ _)
    ·exact .inr (Nat.le_refl _)
    ·exact .inl rfl
   ·have hf:∀ (l:List Nat),(∀ p∈l,p < es.size)->True:=fun _ _=>trivial
    have e:acc.toList=ord.map (fun p=>((es[p]?).map (·.2)).getD .none):=items_map hacc (by rw [List.length_map,hord.length_eq,List.length_range]) fun i v ⟨p,x,h1,h2,h3⟩=>by rw [List.getElem?_map,h1,h3];simp [h2]
    have e2:(List.range es.size).map (fun p=>((es[p]?).map (·.2)).getD .none)=es.toList.map (·.2):=by
     refine List.ext_getElem? fun i=>?_
     rw [List.getElem?_map,List.getElem?_map]
     by_cases hi:i < es.size
     ·rw [List.getElem?_range hi];simp [hi]
     ·rw [List.getElem?_eq_none (l:=List.range es.size) (by rw [List.length_range];omega)];simp [hi]
    rw [e]
    exact strs_perm (by rw [<- e2];exact hord.map _) hS.str_
  ·rename_i hn
   by_cases h0:es.size=0
   ·refine wpAny_bind (wpAny_pure ?_)
    refine wpAny_bind ?_
    show wpAny _ _ (setState a >>= _) _ _ s
    refine wpAny_bind (wpAny_setState_of hS.at_ hS.dat hS.fit (wpAny_pure ?_))
    refine wpAny_bind (wpAny_newObj_type ?_ (by size_fits))
    have hI:(s.heap.push (siO (.int 0 0) 0 a es.size ep)).get? s.heap.objs.size=some (siO (.int 0 0) 0 a es.size ep):=Heap.get?_push_size _ rfl
    refine wpAny_pure ⟨.ref s.heap.objs.size,rfl, "set_iterator",.builtin "set_iterator.__next__",⟨_,hI,rfl⟩,lkSI,?_⟩
    refine q s.heap.objs.size (s.heap.push (siO (.int 0 0) 0 a es.size ep)) s.drawn _ _ _ (fun B hB=>walks_zero (ss:=ss) (o:=o) (t:=t) (ep:=ep) hB hb (Nat.ne_of_lt hla) h0) ⟨hI,hS.keep fun o e=>Heap.get?_push_of_some _ e⟩ (fun b hb=>?_) (by simp) (Nat.le_refl _) ⟨_,hI,rfl⟩ (fun acc hacc=>?_) fun b o e=>Heap.get?_push_of_some _ e
    ·simp only [List.mem_cons,List.not_mem_nil,or_false] at hb
     rcases hb with rfl | rfl
     ·exact .inr (Nat.le_refl _)
     ·exact .inl rfl
    ·have e:acc.toList=es.toList.map (·.2):=items_map hacc (by simp) fun i v ⟨x,h1,h2⟩=>by rw [List.getElem?_map,Array.getElem?_toList,h1,h2];rfl
     rw [e]
     exact ⟨ss,.refl _,hS.str_⟩
   ·have h1:es.size=1:=by
     have hn':¬ (!false && (!t.plain && decide (es.size > 1)))=true:=hn
     rw [show t.plain=false from by rcases hS.plain with h | h;exact h;omega] at hn'
     simp at hn'
     omega
    have hp:t.place.size=1:=by
     have:=hS.fit
     unfold SetTable.fits at this
     simp at this
     omega
    have hj:t.place[0]?=some (t.place[0]'(by omega)):=Array.getElem?_eq_getElem _
    refine wpAny_bind (wpAny_pure ?_)
    refine wpAny_bind ?_
    show wpAny _ _ (setState a >>= _) _ _ s
    refine wpAny_bind (wpAny_setState_of hS.at_ hS.dat hS.fit (wpAny_pure ?_))
    refine wpAny_bind (wpAny_newObj_type ?_ (by size_fits))
    have hI:(s.heap.push (siO (.int 0 0) 0 a es.size ep)).get? s.heap.objs.size=some (siO (.int 0 0) 0 a es.size ep):=Heap.get?_push_size _ rfl
    refine wpAny_pure ⟨.ref s.heap.objs.size,rfl, "set_iterator",.builtin "set_iterator.__next__",⟨_,hI,rfl⟩,lkSI,?_⟩
    refine q s.heap.objs.size (s.heap.push (siO (.int 0 0) 0 a es.size ep)) s.drawn _ _ _ (fun B hB=>walks_one (ss:=ss) (o:=o) (t:=t) (ep:=ep) hB hb (Nat.ne_of_lt hla) h1 hp hj) ⟨hI,hS.keep fun o e=>Heap.get?_push_of_some _ e⟩ (fun b hb=>?_) (by simp) (Nat.le_refl _) ⟨_,hI,rfl⟩ (fun acc hacc=>?_) fun b o e=>Heap.get?_push_of_some _ e
    ·simp only [List.mem_cons,List.not_mem_nil,or_false] at hb
     rcases hb with rfl | rfl
     ·exact .inr (Nat.le_refl _)
     ·exact .inl rfl
    ·have e:acc.toList=es.toList.map (·.2):=items_map hacc (by simp) fun i v ⟨x,h1,h2⟩=>by rw [List.getElem?_map,Array.getElem?_toList,h1,h2];rfl
     rw [e]
     exact ⟨ss,.refl _,hS.str_⟩
end
end D3
namespace D3
open PySem PySem.Spec PyProof.Rows L2
section
variable {P:Program} {w:World} {A:Around} {E:Value->Shared->Prop} {s:Shared} {a:Addr} {ss:List Str} {o:Obj} {es:Array (Int × Value)} {ep:Nat} {t:SetTable}
theorem wp_ite {α:Type} {c:Prop} [Decidable c] {x y:Sem α} {Q:α->Shared->Prop} (h:c) (q:wpAny (model P w) A x Q E s):wpAny (model P w) A (if c then x else y) Q E s:=by rw [if_pos h];exact q
theorem hint_set {Q:Bool->Shared->Prop} (hT:s.TypeIs (.ref a) "set") (q:Q false s):wpAny (model P w) A (Builtin.List.listLengthHint (.ref a)) Q E s:=by
 show wpAny _ A (specialOf (.ref a) "__len__" >>= _) _ _ s
 refine wpAny_bind (wpAny_specialOf hT PySem.F.slot_set_len.lookup ?_)
 have e:splitId "set.__len__" = some ("set", "__len__"):=by decide +kernel
 dsimp only
 generalize splitId "set.__len__" = r at e ⊢
 subst e
 dsimp only
 refine wpAny_bind (wpAny_isInstance (T := "set") hT PySem.F.called_set.sub ?_)
 refine wpAny_ite_false rfl ?_
 refine wp_ite (by decide) ?_
 refine wpAny_bind (wpAny_typeOf hT ?_)
 exact wpAny_pure q
theorem collect_set {Q:List Value->Shared->Prop} (hh:A.handled=none) (hS:SetS P w s.heap a ss o es ep t) (hz:ss.length<=1000)
  (q:∀ acc h' dr tk,(∃ ss',ss'.Perm ss/\StrsAre acc ss')->(∀ b o,s.heap.get? b=some o->h'.get? b=some o)->Q acc { s with heap:=h',drawn:=dr,toks:=tk }):wpAny (model P w) A (collect (.ref a)) Q E s:=by
 have hsz:=hS.size
 have hla:a < s.heap.objs.size:=Heap.lt_size hS.at_
 show wpAny _ A (runValue (.builtin "proto.collect" ⟨[.ref a],[]⟩) >>= _) _ _ s
 refine wpAny_bind (wpAny_runValue (codeAny_builtin PySem.F.entry_proto_collect ?_))
 rw [Around.under_plainId PySem.F.plain_proto_collect _]
 show wpAny _ A.in1 (newList [] >>= _) _ _ s
 refine wpAny_bind (wpAny_newList ?_ (by simp))
 refine wpAny_pure ⟨plainId_quiet PySem.F.plain_list_iadd _,codeAny_builtin PySem.F.entry_list_iadd ?_⟩
 rw [Around.under_plainId PySem.F.plain_list_iadd _]
 show wpAny _ A.in1 (slotArgs "__iadd__" 1 _ >>= _) _ _ _
 refine wpAny_bind (wpAny_pure ?_)
 have hL:(s.heap.push { cls:=.type "list",data:=.seq ([] : List Value).toArray }).get? s.heap.objs.size=some { cls:=.type "list",data:=.seq ([] : List Value).toArray }:=Heap.get?_push_size _ rfl
 have hS1:=hS.keep (h':=s.heap.push { cls:=.type "list",data:=.seq ([] : List Value).toArray }) fun o e=>Heap.get?_push_of_some _ e
 show wpAny _ A.in1 (typeOf (.ref a) >>= _) _ _ _
 refine wpAny_bind (wpAny_typeOf_ref hS1.at_ ?_)
 rw [hS.ex.1]
 have hne:Builtin.List.listSameRef (.ref s.heap.objs.size) (.ref a)=false:=by
  show (s.heap.objs.size == a)=false
  exact beq_eq_false_iff_ne.mpr (Nat.ne_of_gt hla)
 refine wpAny_ite_false (by rw [hne];decide) ?_
 refine wpAny_bind (iter_set hS1 hz fun I h' dr fp Pi St W st0 hlt hIf hIge hIt items kp=>?_)
 refine wpAny_bind (wpAny_holding (hint_set ⟨o,kp _ _ hS1.at_,hS.ex.1⟩ ?_))
 split
 case isFalse hx=>exact absurd (by decide) hx
 ·refine wpAny_bind (wpAny_rule (wpAny_bind ?_))
  have eL:=kp _ _ hL
  have eL1:(h'.update s.heap.objs.size (Obj.mapSeq fun x=>x.push Value.none)).get? s.heap.objs.size=some { cls:=.type "list",data:=.seq #[Value.none] 1 }:=Heap.get?_update_self _ eL rfl
  have eL2:((h'.update s.heap.objs.size (Obj.mapSeq fun x=>x.push Value.none)).update s.heap.objs.size (Obj.mapSeq fun x=>x.pop)).get? s.heap.objs.size=some { cls:=.type "list",data:=.seq #[] 2 }:=Heap.get?_update_self _ eL1 rfl
  show wpAny _ A.in1 (updateSeq s.heap.objs.size (fun x=>x.push Value.none) >>= fun _=>updateSeq s.heap.objs.size (fun x=>x.pop)) _ _ _
  refine wpAny_bind (wpAny_updateSeq eL rfl (wpAny_updateSeq eL1 rfl ?_ (by rw [sizeLine_eq];simp) (by rw [sizeLine_eq];simp)) (by rw [sizeLine_eq];simp) (by rw [sizeLine_eq];simp))
  have hL1:s.heap.objs.size < (s.heap.push { cls:=.type "list",data:=.seq ([] : List Value).toArray }).objs.size:=Heap.lt_size hL
  have hLI:s.heap.objs.size∉fp:=fun z=>by
   rcases hlt _ z with z | z
   ·exact absurd z (Nat.ne_of_gt hla)
   ·exact absurd (Nat.lt_of_lt_of_le hL1 z) (Nat.lt_irrefl _)
  have k2:∀ b o,b≠s.heap.objs.size->h'.get? b=some o->((h'.update s.heap.objs.size (Obj.mapSeq fun x=>x.push Value.none)).update s.heap.objs.size (Obj.mapSeq fun x=>x.pop)).get? b=some o:=fun b o hb e=>(Heap.get?_update_other _ _ (Ne.symm hb)).trans ((Heap.get?_update_other _ _ (Ne.symm hb)).trans e)
  refine wpAny_pure ⟨plainId_quiet PySem.F.plain_extend_loop _,?_⟩
  refine codeAny_extend_loopS (W A.in1 hh).toS (by rw [hsz,sizeLine_eq];omega) s.heap.objs.size hLI (.ref s.heap.objs.size) _ 0 _ #[] 2 rfl (Nat.zero_le _) ((W A.in1 hh).frame 0 _ _ st0 fun b hb o e=>k2 b o (fun z=>hLI (by rw [<- z];exact hb)) e) eL2 ⟨rfl,fun j v h=>by simp at h⟩ fun s' acc c' mv hS' it=>?_
  refine wpAny_bind (wpAny_load hS' ?_)
  obtain ⟨h1,gs,dr2,tk,os⟩:=s'
  obtain ⟨m1,m2,m3,m4,m5⟩:=mv
  have m3:dr2=dr:=m3
  have m4:os=s.os:=m4
  subst m3;subst m4
  refine wpAny_pure ?_
  have hgs:gs=s.gens:=m2
  subst hgs
  refine q acc.toList h1 dr2 tk (items acc it) fun b o e=>?_
  have hb:b < s.heap.objs.size:=Heap.lt_size e
  have hbI:b≠I:=fun z=>absurd (Nat.lt_of_lt_of_le hL1 hIge) (by rw [<- z];exact Nat.not_lt.mpr (Nat.le_of_lt hb))
  exact m1 b o (by simp [hbI,Nat.ne_of_lt hb]) (k2 b o (Nat.ne_of_lt hb) (kp b o (Heap.get?_push_of_some _ e)))
end
end D3
namespace D3
open PySem PySem.Spec PyProof.Rows L2
def SetW (P:Program) (w:World) (a:Addr) (ss:List Str) (h:Heap):Prop:=∃ o es ep t,SetS P w h a ss o es ep t
theorem SetW.ok {P:Program} {w:World} {H:Hp} {h:Heap} {a:Addr} {ss:List Str} (x:SetW P w a ss h):ObjOk P w H h a (.ext (SetW P w a ss)):=by
 refine ⟨x,?_,fun h1 h2 ⟨o,es,ep,t,y⟩ k=>⟨o,es,ep,t,y.keep k⟩⟩
 obtain ⟨o,es,ep,t,y⟩:=x
 exact ⟨o,y.at_⟩
theorem laid_nd {X:Cx} {pins:List (Addr × Obj)} {σ:St} {H:Hp} {s:Shared} {h':Heap} {a:Addr} {o:HO} {t':Nat} {dr:Drawn} (I:L2.Inv X pins σ H s) (k:∀ b u,s.heap.get? b=some u->h'.get? b=some u) (ha:s.heap.get? a=none) (new:ObjOk X.prog X.w (upd H a o) h' a o) :
  H a=none/\L2.Inv X pins σ (upd H a o) { s with heap:=h',drawn:=dr,toks:=t' }:=by
 have hn:H a=none:=by
  cases e:H a with
  | none=>rfl
  | some u=>obtain ⟨v,q⟩:=obj_in (I.hok a u e);rw [ha] at q;cases q
 have old:∀ b u,H b=some u->upd H a o b=some u:=fun b u e=>by rw [upd_ne (fun z=>by rw [z,hn] at e;cases e)];exact e
 refine ⟨hn,I.step (g':=s.gens) (d':=dr) (ch:=[]) (fun b hb=>absurd hb (by simp)) (fun b o _ _ _ e _=>k b o e) (fun b o _ _ _ e _=>⟨o.slots,k b o e⟩) (fun b o _ e n=>by rw [upd_ne (fun z=>by rw [z,ha] at e;cases e)];exact n) (fun b o _ e=>⟨o,k b o e⟩)
  (fun b xs e=>old b _ e) (fun b o u e=>old b _ e) (fun b p e=>⟨#[],by rw [old b _ e];simp⟩) (fun m ⟨o,es,ep,ho,r⟩=>⟨o,es,ep,k _ _ ho,r⟩) (fun b u e=>?_) I.bare⟩
 by_cases hb:b=a
 ·subst hb;rw [upd_same] at e;cases e;exact new
 ·rw [upd_ne hb] at e
  exact (I.hok b u e).stay (fun c v _ hv=>k c v hv) (fun c hc=>old c _ hc) (fun c xs hc=>old c _ hc)
theorem strs_vals:∀ {ss:List Str} {us:List Value},Vals (ss.map V.str) us->StrsAre us ss
 | [],us,h=>by cases h;exact .nil
 | s :: ss,us,h=>by
  cases h with
  | cons r t =>
   obtain ⟨tk,rfl⟩:=r
   exact .cons s tk (strs_vals t)
theorem bootSet:bootBuiltins "set" = some (.type "set"):=by decide +kernel
section
variable {X:Cx} {G:Ga} {M:MH} {e:Expr} {pos:Pos} {Q:DK}
theorem call_setD (hc:X.calm=true):CallR X (.type "set") (fun xs H Q=>∃ (a:Addr) (ys:List Str),xs=[.ref a]/\H a=some (.tup (ys.map V.str))/\ys.length<=100/\∀ p ss,H p=none->ss.Nodup->ss.length<=100->(∀ y,y∈ss ↔ y∈ys)->Q (.ref p) (upd H p (.ext (SetW X.prog X.w p ss)))):=by
 intro pins s σ H xs us Q I r h
 obtain ⟨a,ys,rfl,e,hz,q⟩:=h
 obtain ⟨u,rfl,ru⟩:=vals1 r
 cases ru
 obtain ⟨_,its,rv,o,e1,cl,n,dat⟩:=(show ObjOk X.prog X.w H s.heap a (.tup (ys.map V.str)) from I.hok a _ e)
 refine call_setT (xs:=ys) (I.ok.hd hc) ⟨o,e1,cl,dat⟩ (strs_vals rv) hz fun g tk ss o' es ep t hS a1 a2 a3 kp=>?_
 exact ⟨.ref s.heap.objs.size,_,I.laid (t':=tk) (o:=.ext (SetW X.prog X.w s.heap.objs.size ss)) kp (Nat.le_refl _) (SetW.ok ⟨o',es,ep,t,hS⟩),rfl,q _ ss (I.hok.fresh (Nat.le_refl _)) a1 a2 a3⟩
theorem isl_str5 {H:Hp}:∀ {ss:List Str} {vs:List V},IsL H (ss.map D.str) vs->vs=ss.map V.str
 | [],vs,h=>by rw [List.map_nil,isl_nil] at h;subst h;rfl
 | s :: ss,vs,h=>by
  rw [List.map_cons,isl_cons] at h
  obtain ⟨x,r,rfl,h1,h2⟩:=h
  rw [is_str] at h1
  rw [h1,isl_str5 h2];rfl
theorem ev_setT {p:Pos} (hc:X.calm=true) (hm:X.mg "set" = none) (h:AV X G M [e] fun ds M1=>∃ ys:List Str,ds=[.tup (ys.map D.str)]/\ys.length<=100/\∀ r ss,M1 r=none->ss.Nodup->ss.length<=100->(∀ y,y∈ss ↔ y∈ys)->Q (.ref r) (mset M1 r (.raw (SetW X.prog X.w r ss)))) (hg:Gl X "set") (he:starEach [e] X.env=(false,eval e X.env) :: starEach [] X.env) (hpl:(backTo pos (starEach ([] : List Expr) X.env)).any (·.1)=false) :
  EV X G M (.Call (.Name "set" p) [e] [] pos) Q :=
 ev_callTy (call_setD hc) hm bootSet (h.mono fun ds M1 ⟨ys,e1,hz,q⟩=>fun H xs kf hx m=>by
  subst e1
  obtain ⟨v,rfl,hv⟩:=isl1 hx
  rw [is_tup] at hv
  obtain ⟨a,vs,rfl,ha,hvs⟩:=hv
  have:=isl_str5 hvs;subst this
  exact ⟨a,ys,rfl,ha,hz,fun r ss hr a1 a2 a3 kf'=>⟨grow_new hr,.ref r,mset M1 r (.raw (SetW X.prog X.w r ss)),is_ref.mpr rfl,m.lay (u:=.raw (SetW X.prog X.w r ss)) hr upd_same,q r ss (m.fresh hr kf') a1 a2 a3⟩⟩) hg (by decide) (by decide) he hpl
theorem call_sortedSet (hc:X.calm=true):CallR X (.builtin "sorted") (fun xs H Q=>∃ (a:Addr) (ss:List Str),xs=[.ref a]/\H a=some (.ext (SetW X.prog X.w a ss))/\ss.length < 64/\∀ p ss',H p=none->ss'.Perm ss->PyProof.Rows.sortedS ss'=true->Q (.ref p) (upd H p (.lst (ss'.map V.str)))):=by
 intro pins s σ H xs us Q I r h
 obtain ⟨a,ss,rfl,e,h64,q⟩:=h
 obtain ⟨u,rfl,ru⟩:=vals1 r
 cases ru
 obtain ⟨⟨o,es,ep,t,hS⟩,_,_⟩:=(show ObjOk X.prog X.w H s.heap a (.ext (SetW X.prog X.w a ss)) from I.hok a _ e)
 have hh:X.A.in1.handled=none:=I.ok.hd hc
 refine Calls.call_function_entry kind_sorted plain_sorted entry_sorted (args_sorted1 _) ?_
 unfold Builtin.«sorted»
 refine wpAny_bind (m:=checkCount "sorted" 1 1 _) (wpAny_pure ?_)
 refine wpAny_bind (collect_set (A:=X.A.in1) hh hS (by omega) fun acc h' dr tk ⟨ss1,hp1,hS1⟩ hkp=>?_)
 have hal:acc.length=ss.length:=by rw [strs_len hS1,hp1.length_eq]
 refine wpAny_bind (wpAny_newList ?_ (by rw [hal,sizeLine_eq];omega))
 have hoL:(h'.push (seqObj "list" acc.toArray 0)).get? h'.objs.size=some (seqObj "list" acc.toArray 0):=Heap.get?_push_size _ rfl
 refine (show wpAny _ _ _ _ _ ({ s with heap:=h'.push (seqObj "list" acc.toArray 0),drawn:=dr,toks:=tk }:Shared) from ?_)
 refine wpAny_bind (wpAny_holding (wpAny_call_entry slot_list_sort ⟨_,hoL,rfl⟩ entry_list_sort (list_sort_treeK strKind_oneLt hoL hS1.keysOf (fun v1 v2 rest e=>keyKind_strs (by rw [<- e];exact hS1)) (by rw [hal];exact h64) fun st' a1 a2=>⟨_,rfl,?_⟩) (args_list_sort _)))
 obtain ⟨ss',b1,b2,b3⟩:=sorted_out_str hS1 a1 a2
 obtain ⟨en,he⟩:=sortedHeap_at (out:=(arrOf st').map (·.2)) (vs:=acc) hoL
 have ha:s.heap.get? h'.objs.size=none:=by
  cases x:s.heap.get? h'.objs.size with
  | none=>rfl
  | some o=>exact absurd (Heap.lt_size (hkp _ _ x)) (Nat.lt_irrefl _)
 have hkeep:∀ b ob,s.heap.get? b=some ob->(sortedHeap (h'.push (seqObj "list" acc.toArray 0)) h'.objs.size acc ((arrOf st').map (·.2))).get? b=some ob:=fun b ob hb=>by
  have hb':=hkp b ob hb
  have hlt:=Heap.lt_size hb'
  rw [sortedHeap_old (Nat.ne_of_lt hlt) (by rw [size_push'];exact Nat.lt_succ_of_lt hlt)]
  exact Heap.get?_push_of_some _ hb'
 obtain ⟨hn,I2⟩:=laid_nd (t':=tk) (dr:=dr) (o:=.lst (ss'.map V.str)) I hkeep ha ⟨by rw [List.length_map,b2.length_eq,hp1.length_eq,sizeLine_eq];omega,((arrOf st').map (·.2)).toList,en,vals_of_strs b1,by rw [he]⟩
 exact wpAny_pure ⟨_,rfl,.ref h'.objs.size,_,I2,rfl,q _ ss' hn (b2.trans hp1) b3⟩
theorem ev_sortedSet0 {p:Pos} (hc:X.calm=true) (hm:X.mg "sorted" = none) (h:AV X G M [e] fun ds M1=>∃ (q:Addr) (ss:List Str),ds=[.ref q]/\M1 q=some (.raw (SetW X.prog X.w q ss))/\ss.length < 64/\∀ r ss',M1 r=none->ss'.Perm ss->PyProof.Rows.sortedS ss'=true->Q (.ref r) (mset M1 r (.lst (ss'.map D.str)))) (hg:Gl X "sorted") (he:starEach [e] X.env=(false,eval e X.env) :: starEach [] X.env) (hpl:(backTo pos (starEach ([] : List Expr) X.env)).any (·.1)=false) :
  EV X G M (.Call (.Name "sorted" p) [e] [] pos) Q :=
 ev_callB (call_sortedSet hc) hm bootSorted (h.mono fun ds M1 ⟨a,ss,e1,ha,h64,q⟩=>fun H xs kf hx m=>by
  subst e1
  obtain ⟨v,rfl,hv⟩:=isl1 hx
  rw [is_ref] at hv;subst hv
  have e1:H a=some (.ext (SetW X.prog X.w a ss)):=m a _ ha
  refine ⟨a,ss,rfl,e1,h64,fun p ss' hp h1 h2 kf'=>⟨grow_new hp,.ref p,mset M1 p (.lst (ss'.map D.str)),is_ref.mpr rfl,m.lay (u:=.lst (ss'.map D.str)) hp ⟨_,upd_same,?_⟩,q p ss' (m.fresh hp kf') h1 h2⟩⟩
  exact IsL.strs) hg (by decide) (by decide) he hpl
theorem ev_sortedSet {p:Pos} (hc:X.calm=true) (hm:X.mg "sorted" = none) (h:AV X G M [e] fun ds M1=>∃ (q:Addr) (ss:List Str),ds=[.ref q]/\M1 q=some (.raw (SetW X.prog X.w q ss))/\1<=ss.length/\ss.length < 64/\∀ r ss',M1 r=none->ss'.Perm ss->PyProof.Rows.sortedS ss'=true->Q (.ref r) (mset M1 r (.lst (ss'.map D.str)))) (hg:Gl X "sorted") (he:starEach [e] X.env=(false,eval e X.env) :: starEach [] X.env) (hpl:(backTo pos (starEach ([] : List Expr) X.env)).any (·.1)=false) :
  EV X G M (.Call (.Name "sorted" p) [e] [] pos) Q :=
 ev_callB (call_sortedSet hc) hm bootSorted (h.mono fun ds M1 ⟨a,ss,e1,ha,h2,h64,q⟩=>fun H xs kf hx m=>by
  subst e1
  obtain ⟨v,rfl,hv⟩:=isl1 hx
  rw [is_ref] at hv;subst hv
  have e1:H a=some (.ext (SetW X.prog X.w a ss)):=m a _ ha
  refine ⟨a,ss,rfl,e1,h64,fun p ss' hp h1 h2 kf'=>⟨grow_new hp,.ref p,mset M1 p (.lst (ss'.map D.str)),is_ref.mpr rfl,m.lay (u:=.lst (ss'.map D.str)) hp ⟨_,upd_same,?_⟩,q p ss' (m.fresh hp kf') h1 h2⟩⟩
  exact IsL.strs) hg (by decide) (by decide) he hpl
end
end D3
namespace KA
open PySem PySem.Spec PyProof.Rows L2 D3 K01
theorem s_ext {a b:Str} (h:a.cps=b.cps):a=b:=by cases a;cases b;cases h;rfl
theorem sapp (a b c:Str):a++b++c=a++(b++c):=s_ext (Array.append_assoc ..)
theorem slen (a b:Str):(a++b).length=a.length+b.length:=Array.size_append ..
theorem s_nil (a:Str):a++Str.ofString "" = a:=s_ext (by show a.cps++#[]=a.cps;simp)
def nT (i:Int):Str:=Str.ofString (toString i)
theorem log_of {i:Int} {n:Nat} (h:B n i) (hn:n<=1900):i.natAbs.log2 < 1920:=by
 by_cases z:i.natAbs=0
 ·rw [z];decide +kernel
 ·have h2:i.natAbs < 2 ^ n:=h
  have:=(Nat.log2_lt z).mpr h2
  omega
theorem nT_len {i:Int} {n:Nat} (h:B n i) (hn:n<=1900):(nT i).length<=1921:=int_text_len_1921 (log_of h hn)
abbrev Pt:=Int × Str
def ptD (p:Pt):D:=.tup [.int p.1,.str p.2]
def sgT (k:Int):Str:=if 0 < k then " + " else " - "
def onT (t:Str):List Pt->Str
 | []=>t
 | p :: r=>onT (t++sgT p.1++nT (p.1.natAbs:Nat)++p.2) r
theorem onT_snoc (p:Pt):∀ (l:List Pt) (t:Str),onT t (l++[p])=onT t l++sgT p.1++nT (p.1.natAbs:Nat)++p.2
 | [],t=>rfl
 | q :: l,t=>onT_snoc p l _
def ptsT (ts:List (Str × Int)) (w:Int):List Pt:=(ts.map fun t=>(t.2,Str.ofString " " ++ t.1))++(if w≠0\/ts=[] then [(w,Str.ofString "")] else [])
def addP:List Pt->Str
 | []=>Str.ofString ""
 | p :: r=>onT (nT p.1++p.2) r
def addT (ts:List (Str × Int)) (w:Int):Str:=addP (ptsT ts w)
structure TOk (ts:List (Str × Int)) (w:Int):Prop where
 len:ts.length<=5
 wt:∀ t∈ts,t.2≠0/\B 64 t.2/\t.1.length=1/\Letter t.1
 w:B 64 w
structure PtsOk (l:List Pt):Prop where
 len:l.length<=6
 ne:l≠[]
 ok:∀ p∈l,B 64 p.1/\p.2.length<=2
 nz:∀ p∈l.drop 1,p.1≠0
theorem TOk.pts {ts:List (Str × Int)} {w:Int} (h:TOk ts w):PtsOk (ptsT ts w):=by
 have hl:=h.len
 refine ⟨?_,?_,?_,?_⟩
 ·unfold ptsT
  rw [List.length_append,List.length_map]
  split<;>simp<;>omega
 ·unfold ptsT
  by_cases z:ts=[]
  ·rw [if_pos (.inr z)];simp
  ·intro e
   simp at e
   exact z e.1
 ·intro p hp
  unfold ptsT at hp
  rcases List.mem_append.mp hp with hp | hp
  ·obtain ⟨t,ht,rfl⟩:=List.mem_map.mp hp
   obtain ⟨_,h2,h3,_⟩:=h.wt t ht
   refine ⟨h2,?_⟩
   show (Str.ofString " " ++ t.1).length<=2
   rw [slen,h3]
   decide +kernel
  ·split at hp
   ·rw [List.mem_singleton.mp hp]
    exact ⟨h.w,by show (Str.ofString "").length<=2;decide +kernel⟩
   ·cases hp
 ·intro p hp
  unfold ptsT at hp
  cases hts:ts with
  | nil =>
   rw [hts] at hp
   simp at hp
  | cons t r =>
   rw [hts] at hp
   simp only [List.map_cons,List.cons_append,List.drop_succ_cons,List.drop_zero] at hp
   rcases List.mem_append.mp hp with hp | hp
   ·obtain ⟨t',ht',rfl⟩:=List.mem_map.mp hp
    exact (h.wt t' (by rw [hts];exact List.mem_cons_of_mem _ ht')).1
   ·split at hp
    ·rename_i z
     rw [List.mem_singleton.mp hp]
     exact z.resolve_right (by simp)
    ·cases hp
theorem onT_len:∀ (l:List Pt) (t:Str),(∀ p∈l,B 64 p.1/\p.2.length<=2)->(onT t l).length<=t.length+l.length * 1926
 | [],t,_=>by simp [onT]
 | p :: l,t,h=>by
  have h1:=h p (List.mem_cons_self ..)
  have h2:=onT_len l (t++sgT p.1++nT (p.1.natAbs:Nat)++p.2) fun q hq=>h q (List.mem_cons_of_mem _ hq)
  have h3:(nT (p.1.natAbs:Nat)).length<=1921:=nT_len (n:=64) (by show ((p.1.natAbs:Nat):Int).natAbs < 2 ^ 64;rw [Int.natAbs_natCast];exact h1.1) (by decide)
  have h4:(sgT p.1).length=3:=by unfold sgT;split<;>decide +kernel
  rw [slen,slen,slen] at h2
  show (onT _ l).length<=_
  rw [List.length_cons,Nat.succ_mul]
  omega
theorem PtsOk.add {l:List Pt} (h:PtsOk l):(addP l).length<=12000:=by
 cases l with
 | nil=>exact absurd rfl h.ne
 | cons p r =>
  have h1:=h.ok p (List.mem_cons_self ..)
  have h2:=onT_len r (nT p.1++p.2) fun q hq=>h.ok q (List.mem_cons_of_mem _ hq)
  have h3:=nT_len h1.1 (by decide)
  have h4:=h.len
  rw [List.length_cons] at h4
  rw [slen] at h2
  show (onT _ r).length<=_
  have:r.length * 1926<=5 * 1926:=Nat.mul_le_mul_right _ (by omega)
  omega
theorem TOk.al {ts:List (Str × Int)} {w:Int} (h:TOk ts w):(addT ts w).length<=12000:=h.pts.add
def sigT (k:Bool):Str:=if k then ">=" else ">"
def rowT (r:Rw):Str:=addT r.2.1 0++Str.ofString " " ++ sigT r.1++Str.ofString " " ++ nT r.2.2
def ROk (r:Rw):Prop:=TOk r.2.1 0/\B 64 r.2.2
theorem ROk.al {r:Rw} (h:ROk r):(rowT r).length<=14000:=by
 have h1:=h.1.al
 have h2:=nT_len h.2 (by decide)
 have h3:(sigT r.1).length<=2:=by unfold sigT;split<;>decide +kernel
 have h4:(Str.ofString " ").length=1:=by decide +kernel
 unfold rowT
 rw [slen,slen,slen,slen]
 omega
def rowsT (rs:List Rw):Str:=Txt.join " and " (rs.map rowT)
def sumT (s:Sm):Str:=if s.2.2 > 1 then addT s.1 s.2.1++Str.ofString " over " ++ nT s.2.2 else addT s.1 s.2.1
def SOk (s:Sm):Prop:=TOk s.1 s.2.1/\0 < s.2.2/\B 64 s.2.2
theorem SOk.al {s:Sm} (h:SOk s):(sumT s).length<=14000:=by
 have h1:=h.1.al
 have h2:=nT_len h.2.2 (by decide)
 have h4:(Str.ofString " over ").length=6:=by decide +kernel
 unfold sumT
 split
 ·rw [slen,slen];omega
 ·omega
def onJ (z:Str):Str->List Str->Str
 | t,[]=>t
 | t,y :: r=>onJ z (t++z++y) r
theorem join_onJ (z:Str):∀ (r:List Str) (t:Str),Txt.join z (t :: r)=onJ z t r:=by
 have key:∀ (r:List Str) (t:Str),(⟨r.foldl (fun acc p=>acc++z.cps++p.cps) t.cps⟩:Str)=onJ z t r:=by
  intro r
  induction r with
  | nil=>intro t;rfl
  | cons y r ih=>intro t;exact ih (t++z++y)
 exact fun r t=>key r t
theorem join_one (z t:Str):Txt.join z [t]=t:=join_onJ z [] t
theorem onJ_len (z:Str) {B:Nat}:∀ (r:List Str) (t:Str),(∀ y∈r,y.length<=B)->(onJ z t r).length<=t.length+r.length * (z.length+B)
 | [],t,_=>by simp [onJ]
 | y :: r,t,h=>by
  have h1:=h y (List.mem_cons_self ..)
  have h2:=onJ_len z r (t++z++y) fun x hx=>h x (List.mem_cons_of_mem _ hx)
  rw [slen,slen] at h2
  show (onJ z _ r).length<=_
  rw [List.length_cons,Nat.succ_mul]
  omega
theorem join_len (z:Str) {B:Nat} (l:List Str) (h:∀ y∈l,y.length<=B):(Txt.join z l).length<=l.length * (z.length+B):=by
 cases l with
 | nil=>exact Nat.zero_le _
 | cons t r =>
  rw [join_onJ]
  have h1:=h t (List.mem_cons_self ..)
  have h2:=onJ_len z r t fun x hx=>h x (List.mem_cons_of_mem _ hx)
  rw [List.length_cons,Nat.succ_mul]
  omega
theorem sum_len {B:Nat} (l:List Str) (h:∀ y∈l,y.length<=B):(l.map (·.length)).sum<=l.length * B:=StrLaws.sumLen_le l h
def RsOk5 (rs:List Rw):Prop:=(∀ r∈rs,ROk r)/\rs.length<=3
theorem RsOk5.mem {rs:List Rw} (h:RsOk5 rs):∀ y∈rs.map rowT,y.length<=14000:=fun y hy=>by
 obtain ⟨r,hr,rfl⟩:=List.mem_map.mp hy
 exact (h.1 r hr).al
theorem RsOk5.al {rs:List Rw} (h:RsOk5 rs):(rowsT rs).length<=45000:=by
 have h1:=join_len " and " (rs.map rowT) h.mem
 have h2:(Str.ofString " and ").length=5:=by decide +kernel
 have h3:=h.2
 rw [List.length_map,h2] at h1
 have h4:rs.length * (5+14000)<=3 * (5+14000):=Nat.mul_le_mul_right _ h3
 exact Nat.le_trans (Nat.le_trans h1 h4) (by decide)
def lineT:Stm->Str
 | .set x s=>Str.ofString "set " ++ x++Str.ofString " = " ++ sumT s
 | .any x=>Str.ofString "any " ++ x
 | .note rs=>Str.ofString "note " ++ rowsT rs
 | _=>Str.ofString ""
def LOk:Stm->Prop
 | .set x s=>x.length=1/\SOk s
 | .any x=>x.length=1
 | .note rs=>RsOk5 rs
 | _=>False
theorem add_ss {x y:Str} {M:MH} {Q:DK} (h:x.length+y.length<=10000000) (q:Q (.str (x++y)) M):AddD (.str x) (.str y) M Q:=⟨Nat.le_trans h (by unfold sizeLine;decide),q⟩
def keepT (rs:List Rw):List Str:=if rs=[] then [] else [Str.ofString "keep " ++ rowsT rs]
def fallT:Option (Sm × Int)->List Str
 | none=>[]
 | some m=>[Str.ofString "fall " ++ sumT m.1++Str.ofString " by " ++ nT m.2]
def hdT (rs:List Rw) (m:Option (Sm × Int)):List Str:=keepT rs++fallT m
theorem keepT_len (rs:List Rw):(keepT rs).length<=1:=by unfold keepT;split<;>simp
theorem fallT_len (m:Option (Sm × Int)):(fallT m).length<=1:=by cases m<;>simp [fallT]
def HOk:Stm->Prop
 | .choose a b=>a.length<=100/\b.length<=100
 | .ite r a b=>ROk r/\a.length<=100/\b.length<=100
 | .whl r rs m b=>ROk r/\RsOk5 rs/\(∀ x,m=some x->SOk x.1/\B 65 x.2)/\b.length<=100
 | s=>LOk s
theorem hdT_len (rs:List Rw) (m:Option (Sm × Int)):(hdT rs m).length<=2:=by
 have h1:=keepT_len rs
 have h2:=fallT_len m
 unfold hdT
 rw [List.length_append]
 omega
theorem fresh_of {M M1:MH} {p:Addr} (e:Ext M M1) (h:M1 p=none):M p=none:=by
 cases hz:M p with
 | none=>rfl
 | some u=>rw [e _ _ hz] at h;cases h
theorem Ext.own {M M1:MH} {p:Addr} {o:MO} (e:Ext M M1) (h:M p=none):Ext M (mset M1 p o):=fun b u hb=>by
 rw [mset_ne (fun z=>by rw [z,h] at hb;cases hb)]
 exact e _ _ hb
end KA
namespace KA
open PySem PySem.Spec PyProof.Rows L2 D3 K01
def ind (d:Nat):Str:=repS (Str.ofString "  ") d
theorem ind_len (d:Nat):(ind d).length=d * 2:=by unfold ind;rw [len_repS];rfl
mutual
def lnS:Nat->Stm->List Str
 | d,.set x s=>[ind d++lineT (.set x s)]
 | d,.any x=>[ind d++lineT (.any x)]
 | d,.note rs=>[ind d++lineT (.note rs)]
 | d,.choose a b=>(ind d++Str.ofString "choose") :: (lnB (d+1) a++((ind d++Str.ofString "or") :: (lnB (d+1) b++[ind d++Str.ofString "end"])))
 | d,.ite r a b=>(ind d++(Str.ofString "if " ++ rowT r)) :: (lnB (d+1) a++((ind d++Str.ofString "else") :: (lnB (d+1) b++[ind d++Str.ofString "end"])))
 | d,.whl r rs m b=>(ind d++(Str.ofString "while " ++ rowT r)) :: ((hdT rs m).map (fun t=>ind (d+1)++t)++(lnB (d+1) b++[ind d++Str.ofString "end"]))
def lnB:Nat->List Stm->List Str
 | _,[]=>[]
 | d,s :: r=>lnS d s++lnB d r
end
mutual
def wS:Stm->Nat
 | .set _ _=>2
 | .any _=>2
 | .note _=>2
 | .choose a b=>4+wB a+wB b
 | .ite _ a b=>4+wB a+wB b
 | .whl _ _ _ b=>5+wB b
def wB:List Stm->Nat
 | []=>0
 | s :: r=>wS s+wB r
end
mutual
theorem wS_le:∀ s:Stm,wS s<=5 * (tt s).s
 | .set _ _=>by simp [wS,tt]
 | .any _=>by simp [wS,tt]
 | .note _=>by simp [wS,tt]
 | .choose a b=>by have h1:=wB_le a;have h2:=wB_le b;simp only [wS,tt];show _<=5 * ((tts a).s+(tts b).s+1);omega
 | .ite _ a b=>by have h1:=wB_le a;have h2:=wB_le b;simp only [wS,tt];show _<=5 * ((tts a).s+(tts b).s+1);omega
 | .whl _ _ _ b=>by have h1:=wB_le b;simp only [wS,tt];show _<=5 * ((tts b).s+1);omega
theorem wB_le:∀ b:List Stm,wB b<=5 * (tts b).s
 | []=>by simp [wB]
 | s :: r=>by have h1:=wS_le s;have h2:=wB_le r;simp only [wB,tts];show _<=5 * ((tt s).s+(tts r).s);omega
end
mutual
def gdS:Stm->Prop
 | .choose a b=>HOk (.choose a b)/\gdB a/\gdB b
 | .ite r a b=>HOk (.ite r a b)/\gdB a/\gdB b
 | .whl r rs m b=>HOk (.whl r rs m b)/\gdB b
 | .set x s=>HOk (.set x s)
 | .any x=>HOk (.any x)
 | .note rs=>HOk (.note rs)
def gdB:List Stm->Prop
 | []=>True
 | s :: r=>gdS s/\gdB r
end
theorem gdS.h {s:Stm} (h:gdS s):HOk s:=by
 cases s<;>simp only [gdS] at h<;>first | exact h.1 | exact h
theorem gdB_mem:∀ {b:List Stm},gdB b->∀ s∈b,gdS s
 | [],_,s,h=>by cases h
 | t :: r,hb,s,h=>by
  simp only [gdB] at hb
  rcases List.mem_cons.mp h with rfl | h
  ·exact hb.1
  ·exact gdB_mem hb.2 s h
theorem dps_mem:∀ {b:List Stm},∀ s∈b,dp s<=dps b
 | t :: r,s,h=>by
  simp only [dps]
  rcases List.mem_cons.mp h with rfl | h
  ·omega
  ·have:=dps_mem s h;omega
theorem line_len {s:Stm} (h:LOk s):(lineT s).length<=60000:=by
 have e1:(Str.ofString "set ").length=4:=by decide +kernel
 have e2:(Str.ofString " = ").length=3:=by decide +kernel
 have e3:(Str.ofString "any ").length=4:=by decide +kernel
 have e4:(Str.ofString "note ").length=5:=by decide +kernel
 cases s with
 | set x s=>have h1:=h.1;have h2:=h.2.al;simp only [lineT,slen];omega
 | any x=>have h1:x.length=1:=h;simp only [lineT,slen];omega
 | note rs=>have h1:=RsOk5.al h;simp only [lineT,slen];omega
 | choose a b=>exact h.elim
 | ite r a b=>exact h.elim
 | whl r rs m b=>exact h.elim
theorem hd_len {rs:List Rw} {m:Option (Sm × Int)} (h1:RsOk5 rs) (h2:∀ x,m=some x->SOk x.1/\B 65 x.2):∀ t∈hdT rs m,t.length<=60000:=by
 intro t ht
 have e1:(Str.ofString "keep ").length=5:=by decide +kernel
 have e2:(Str.ofString "fall ").length=5:=by decide +kernel
 have e3:(Str.ofString " by ").length=4:=by decide +kernel
 unfold hdT at ht
 rcases List.mem_append.mp ht with ht | ht
 ·unfold keepT at ht
  split at ht
  ·cases ht
  ·rw [List.mem_singleton.mp ht]
   have:=h1.al
   rw [slen];omega
 ·cases m with
  | none=>cases ht
  | some x =>
   obtain ⟨a1,a2⟩:=h2 x rfl
   have a3:=a1.al
   have a4:=nT_len a2 (by decide)
   rw [List.mem_singleton.mp ht]
   rw [slen,slen,slen];omega
end KA
namespace KA
open PySem PySem.Spec PyProof.Rows L2 D3 K01
structure ShOk (ss:List Str) (rs:List Rw) (b:List Stm):Prop where
 len:ss.length<=6
 one:∀ x∈ss,x.length=1
 rs:RsOk5 rs
 gd:gdB b
 dp:dps b<=4
 s:(tts b).s<=24
 bl:b.length<=24
def hdP (ss:List Str) (rs:List Rw):List Str:=Txt.join " " (Str.ofString "plan" :: ss) :: (if rs=[] then [] else [Str.ofString "given " ++ rowsT rs])
def planT (ss:List Str) (rs:List Rw) (b:List Stm):Str:=Txt.join "\n" (hdP ss rs++lnB 0 b)
theorem ShOk.hd {ss:List Str} {rs:List Rw} {b:List Stm} (h:ShOk ss rs b):∀ t∈hdP ss rs,t.length<=60100:=by
 intro t ht
 unfold hdP at ht
 have e1:(Str.ofString "given ").length=6:=by decide +kernel
 have e2:(Str.ofString " ").length=1:=by decide +kernel
 have e3:(Str.ofString "plan").length=4:=by decide +kernel
 rcases List.mem_cons.mp ht with rfl | ht
 ·have h1:=join_len (Str.ofString " ") (B:=4) (Str.ofString "plan" :: ss) (fun y hy=>by
   rcases List.mem_cons.mp hy with rfl | hy
   ·exact Nat.le_of_eq e3
   ·rw [h.one y hy];decide)
  have h2:=h.len
  rw [e2,List.length_cons] at h1
  refine Nat.le_trans h1 ?_
  have:(ss.length+1) * (1+4)<=7 * 5:=Nat.mul_le_mul (by omega) (by decide)
  omega
 ·split at ht
  ·cases ht
  ·rw [List.mem_singleton.mp ht,slen]
   have:=h.rs.al
   omega
theorem hdP_len (ss:List Str) (rs:List Rw):(hdP ss rs).length<=2:=by
 unfold hdP
 rw [List.length_cons]
 split<;>simp
theorem eqv_nilT (ds:List D):PyData.eqv (pd (.tup ds)) (pd (.tup []))=decide (ds=[]):=by
 cases ds with
 | nil=>simp [pd,pdL,PyData.eqv,PyData.eqvAll]
 | cons d r=>simp [pd,pdL,PyData.eqv,PyData.eqvAll]
theorem eq_nil {xs:List D} {M:MH} {Qb:Bool->MH->Prop} (hi:imm (.tup xs)=true) (hd:(pd (.tup xs)).depth<=60) (q:Qb (decide (xs=[])) M):EqL (.tup xs) (.tup []) M Qb:=by
 refine eq_tt (by unfold imm at hi;exact hi) rfl hd ?_
 rw [eqv_nilT]
 exact q
theorem TOk.imm {ts:List (Str × Int)} {w:Int} (h:TOk ts w):imm (trm ts)=true:=imm_trm fun t ht=>(h.wt t ht).2.2.2
theorem ROk.imm {r:Rw} (h:ROk r):imm (rwD r)=true:=imm_row fun t ht=>(h.1.wt t ht).2.2.2
theorem RsOk5.imm {rs:List Rw} (h:RsOk5 rs):imm (.tup (rs.map rwD))=true:=imm_tup fun d hd=>by
 obtain ⟨r,hr,rfl⟩:=List.mem_map.mp hd
 exact (h.1 r hr).imm
theorem dep_rs (rs:List Rw):(pd (.tup (rs.map rwD))).depth<=60:=Nat.le_trans (depth_le (n:=3) fun d hd=>by
 obtain ⟨r,hr,rfl⟩:=List.mem_map.mp hd
 exact depth_row r.1 r.2.1 r.2.2) (by decide)
theorem addTo {M:MH} {l k:Addr} {xs ys zs:List D} {Q:DK} (h:M l=some (.lst xs)) (h':M k=some (.lst ys)) (e:xs++ys=zs) (z:zs.length<=1000) (q:∀ p M',M p=none->M' p=some (.lst zs)->Ext M M'->Q (.ref p) M'):AddD (.ref l) (.ref k) M Q :=
 add_ll h h' (by rw [<- List.length_append,e];exact small z) fun p hp=>q p _ hp (by rw [e];exact mset_same) (ext_new hp)
mutual
theorem lnS_len:∀ (d:Nat) (s:Stm),(lnS d s).length<=wS s
 | d,.set _ _=>by simp [lnS,wS]
 | d,.any _=>by simp [lnS,wS]
 | d,.note _=>by simp [lnS,wS]
 | d,.choose a b=>by
  have h1:=lnB_len (d+1) a;have h2:=lnB_len (d+1) b
  simp only [lnS,wS,List.length_cons,List.length_append,List.length_nil];omega
 | d,.ite _ a b=>by
  have h1:=lnB_len (d+1) a;have h2:=lnB_len (d+1) b
  simp only [lnS,wS,List.length_cons,List.length_append,List.length_nil];omega
 | d,.whl _ rs m b=>by
  have h1:=lnB_len (d+1) b;have h2:=hdT_len rs m
  simp only [lnS,wS,List.length_cons,List.length_append,List.length_nil,List.length_map];omega
theorem lnB_len:∀ (d:Nat) (b:List Stm),(lnB d b).length<=wB b
 | d,[]=>by simp [lnB]
 | d,s :: r=>by
  have h1:=lnS_len d s;have h2:=lnB_len d r
  simp only [lnB,wB,List.length_append];omega
end
theorem ind_succ (d:Nat):ind d++Str.ofString "  " = ind (d+1):=by
 unfold ind repS
 rw [List.replicate_succ',List.foldl_append]
 rfl
theorem lnB_snoc (d:Nat) (s:Stm):∀ b:List Stm,lnB d (b++[s])=lnB d b++lnS d s
 | []=>by simp [lnB]
 | t :: r=>by simp only [List.cons_append,lnB,lnB_snoc d s r,List.append_assoc]
theorem wB_take (b:List Stm):∀ i,wB (b.take i)<=wB b:=by
 induction b with
 | nil=>intro i;simp [wB]
 | cons s r ih =>
  intro i
  cases i with
  | zero=>simp [wB]
  | succ i=>rw [List.take_succ_cons];simp only [wB];have:=ih i;omega
def spLnB (n:Nat):SpD:=fun ds M Q=>∃ (b:List Stm) (d:Nat),ds=[.tup (stDs b),.str (ind d)]/\gdB b/\dps b<=n/\d+n<=10/\wB b<=150/\∀ q M',M q=none->M' q=some (.lst ((lnB d b).map D.str))->Ext M M'->Q (.ref q) M'
def spLnS (n:Nat):SpD:=fun ds M Q=>∃ (s:Stm) (d:Nat),ds=[stD s,.str (ind d)]/\gdS s/\dp s<=n/\d+n<=10/\wS s<=150/\∀ q M',M q=none->M' q=some (.lst ((lnS d s).map D.str))->Ext M M'->Q (.ref q) M'
theorem onJ_snoc (z y:Str):∀ (l:List Str) (t:Str),onJ z t (l++[y])=onJ z t l++z++y
 | [],t=>rfl
 | x :: l,t=>onJ_snoc z y l _
def spAll:SpD:=fun ds M Q=>∃ (ss:List Str) (rs:List Rw) (b:List Stm),ds=[.tup [nms ss,.tup (rs.map rwD),.tup (stDs b)]]/\ShOk ss rs b/\∀ q M',M q=none->M' q=some (.lst ((hdP ss rs++lnB 0 b).map D.str))->Ext M M'->Q (.ref q) M'
theorem ind_zero:ind 0=Str.ofString "" := rfl
theorem ln_all_len {ss:List Str} {rs:List Rw} {b:List Stm} (h:ShOk ss rs b):(hdP ss rs++lnB 0 b).length<=130:=by
 have h1:=hdP_len ss rs
 have h2:=lnB_len 0 b
 have h3:=wB_le b
 have h4:=h.s
 rw [List.length_append];omega
mutual
theorem lnS_each:∀ (s:Stm) (d:Nat),gdS s->d+dp s<=6->∀ t∈lnS d s,t.length<=60100
 | .set x s,d,h,hd=>fun t ht=>by
  simp only [lnS,List.mem_cons,List.not_mem_nil,or_false] at ht
  have h1:=line_len (s:=.set x s) h.h
  have h2:=ind_len d
  rw [ht,slen];omega
 | .any x,d,h,hd=>fun t ht=>by
  simp only [lnS,List.mem_cons,List.not_mem_nil,or_false] at ht
  have h1:=line_len (s:=.any x) h.h
  have h2:=ind_len d
  rw [ht,slen];omega
 | .note x,d,h,hd=>fun t ht=>by
  simp only [lnS,List.mem_cons,List.not_mem_nil,or_false] at ht
  have h1:=line_len (s:=.note x) h.h
  have h2:=ind_len d
  rw [ht,slen];omega
 | .choose a b,d,h,hd=>fun t ht=>by
  simp only [gdS] at h
  simp only [dp] at hd
  have h2:=ind_len d
  have e1:(Str.ofString "choose").length<=60000:=by decide +kernel
  have e2:(Str.ofString "or").length<=60000:=by decide +kernel
  have e4:(Str.ofString "end").length<=60000:=by decide +kernel
  simp only [lnS,List.mem_cons,List.mem_append,List.not_mem_nil,or_false] at ht
  rcases ht with rfl | ht | rfl | ht | rfl
  ·rw [slen];omega
  ·exact lnB_each a (d+1) h.2.1 (by omega) t ht
  ·rw [slen];omega
  ·exact lnB_each b (d+1) h.2.2 (by omega) t ht
  ·rw [slen];omega
 | .ite r a b,d,h,hd=>fun t ht=>by
  simp only [gdS] at h
  simp only [dp] at hd
  have h2:=ind_len d
  have hr:=h.1.1.al
  have e1:(Str.ofString "if ").length=3:=by decide +kernel
  have e2:(Str.ofString "else").length<=60000:=by decide +kernel
  have e4:(Str.ofString "end").length<=60000:=by decide +kernel
  simp only [lnS,List.mem_cons,List.mem_append,List.not_mem_nil,or_false] at ht
  rcases ht with rfl | ht | rfl | ht | rfl
  ·rw [slen,slen];omega
  ·exact lnB_each a (d+1) h.2.1 (by omega) t ht
  ·rw [slen];omega
  ·exact lnB_each b (d+1) h.2.2 (by omega) t ht
  ·rw [slen];omega
 | .whl r rs m b,d,h,hd=>fun t ht=>by
  simp only [gdS] at h
  simp only [dp] at hd
  have h2:=ind_len d
  have h3:=ind_len (d+1)
  obtain ⟨hr1,hrs,hm,hb⟩:=(show ROk r/\RsOk5 rs/\(∀ x,m=some x->SOk x.1/\B 65 x.2)/\b.length<=100 from h.1)
  have hr:=hr1.al
  have e1:(Str.ofString "while ").length=6:=by decide +kernel
  have e4:(Str.ofString "end").length<=60000:=by decide +kernel
  simp only [lnS,List.mem_cons,List.mem_append,List.mem_map,List.not_mem_nil,or_false] at ht
  rcases ht with rfl | ⟨x,hx,rfl⟩ | ht | rfl
  ·rw [slen,slen];omega
  ·have:=hd_len hrs hm x hx
   rw [slen];omega
  ·exact lnB_each b (d+1) h.2 (by omega) t ht
  ·rw [slen];omega
theorem lnB_each:∀ (b:List Stm) (d:Nat),gdB b->d+dps b<=6->∀ t∈lnB d b,t.length<=60100
 | [],d,_,_=>fun t ht=>by simp [lnB] at ht
 | s :: r,d,h,hd=>fun t ht=>by
  simp only [gdB] at h
  simp only [dps] at hd
  simp only [lnB,List.mem_append] at ht
  rcases ht with ht | ht
  ·exact lnS_each s d h.1 (by omega) t ht
  ·exact lnB_each r d h.2 (by omega) t ht
end
theorem ShOk.each {ss:List Str} {rs:List Rw} {b:List Stm} (h:ShOk ss rs b):∀ t∈hdP ss rs++lnB 0 b,t.length<=60100:=fun t ht=>by
 rcases List.mem_append.mp ht with ht | ht
 ·exact h.hd t ht
 ·exact lnB_each b 0 h.gd (by have:=h.dp;omega) t ht
end KA
namespace KA
open PySem PySem.Spec PyProof.Rows L2 D3 K01
theorem Letter.len {s:Str} (h:Letter s):s.length=1:=by
 obtain ⟨c,_,_,rfl⟩:=h
 rfl
theorem B_zero:B 64 (0:Int):=by unfold B;decide
theorem tok_of {ss:List Str} {ts:List (Str × Int)} {w:Int} (hn:Names ss) (h:Terms ss ts) (hw:B 64 w):TOk ts w :=
 ⟨Nat.le_trans h.len hn.le,fun t ht=>⟨(h.wt t ht).1,(h.wt t ht).2,(hn.lett _ (h.mem ht)).len,hn.lett _ (h.mem ht)⟩,hw⟩
theorem rok_of {ss:List Str} {r:Rw} (hn:Names ss) (h:WfR ss r):ROk r:=⟨tok_of hn h.ts B_zero,h.b⟩
theorem sok_of {ss:List Str} {s:Sm} (hn:Names ss) (h:WfS ss s):SOk s:=⟨tok_of hn h.ts h.w,h.pos,h.b⟩
mutual
theorem tt_pos:∀ s:Stm,1<=(tt s).s
 | .set _ _=>by simp [tt]
 | .any _=>by simp [tt]
 | .note _=>by simp [tt]
 | .choose a b=>by simp only [tt];show 1<=(tts a).s+(tts b).s+1;omega
 | .ite _ a b=>by simp only [tt];show 1<=(tts a).s+(tts b).s+1;omega
 | .whl _ _ _ b=>by simp only [tt];show 1<=(tts b).s+1;omega
end
theorem len_tts:∀ b:List Stm,b.length<=(tts b).s
 | []=>Nat.zero_le _
 | s :: r=>by
  have h1:=tt_pos s
  have h2:=len_tts r
  simp only [tts]
  show r.length+1<=(tt s).s+(tts r).s
  omega
mutual
theorem gd_of {ss:List Str} (hn:Names ss):∀ s:Stm,wf ss s->(tt s).s<=100->gdS s
 | .set x s,h,_=>by simp only [wf] at h;simp only [gdS];exact ⟨(hn.lett _ h.1).len,sok_of hn h.2⟩
 | .any x,h,_=>by simp only [wf] at h;simp only [gdS];exact (hn.lett _ h).len
 | .note rs,h,_=>by simp only [wf] at h;simp only [gdS];exact ⟨fun r hr=>rok_of hn (h.1 r hr),by have:=h.2.2;omega⟩
 | .choose a b,h,hs=>by
  simp only [wf] at h
  have hs:(tts a).s+(tts b).s+1<=100:=by simp only [tt] at hs;exact hs
  have h1:=len_tts a
  have h2:=len_tts b
  simp only [gdS]
  exact ⟨⟨by omega,by omega⟩,gdb_of hn a h.1 (by omega),gdb_of hn b h.2 (by omega)⟩
 | .ite r a b,h,hs=>by
  simp only [wf] at h
  have hs:(tts a).s+(tts b).s+1<=100:=by simp only [tt] at hs;exact hs
  have h1:=len_tts a
  have h2:=len_tts b
  simp only [gdS]
  exact ⟨⟨rok_of hn h.1,by omega,by omega⟩,gdb_of hn a h.2.1 (by omega),gdb_of hn b h.2.2 (by omega)⟩
 | .whl r rs m b,h,hs=>by
  simp only [wf] at h
  have hs:(tts b).s+1<=100:=by simp only [tt] at hs;exact hs
  have h2:=len_tts b
  simp only [gdS]
  refine ⟨⟨rok_of hn h.1,⟨fun r hr=>rok_of hn (h.2.1 r hr),by have:=h.2.2.1;omega⟩,fun x hx=>?_,by omega⟩,gdb_of hn b h.2.2.2.2 (by omega)⟩
  have hm:=h.2.2.2.1
  rw [hx] at hm
  exact ⟨sok_of hn hm.1,hm.2.2.1⟩
theorem gdb_of {ss:List Str} (hn:Names ss):∀ b:List Stm,wfs ss b->(tts b).s<=100->gdB b
 | [],_,_=>by simp only [gdB]
 | s :: r,h,hs=>by
  simp only [wfs] at h
  have hs:(tt s).s+(tts r).s<=100:=by simp only [tts] at hs;exact hs
  simp only [gdB]
  exact ⟨gd_of hn s h.1 (by omega),gdb_of hn r h.2 (by omega)⟩
end
theorem sh_of {p:Plan} (h:WfP p) {ss:List Str} (hl:ss.length<=6) (ho:∀ x∈ss,x.length=1):ShOk ss p.rs p.bl:=by
 have h1:=h.cs
 have h2:=len_tts p.bl
 exact ⟨hl,ho,⟨fun r hr=>rok_of h.names (h.rs r hr),by have:=h.rl;omega⟩,gdb_of h.names p.bl h.bl (by omega),dps_le h.dp,h1,by omega⟩
theorem gdB_take:∀ (b:List Stm) (k:Nat),gdB b->gdB (b.take k)
 | [],k,h=>by simp [gdB]
 | s :: r,0,h=>by simp [gdB]
 | s :: r,k+1,h=>by simp only [gdB] at h;rw [List.take_succ_cons];simp only [gdB];exact ⟨h.1,gdB_take r k h.2⟩
theorem dps_take:∀ (b:List Stm) (k:Nat),dps (b.take k)<=dps b
 | [],k=>by simp
 | s :: r,0=>by simp [dps]
 | s :: r,k+1=>by rw [List.take_succ_cons];simp only [dps];have:=dps_take r k;omega
theorem tts_take:∀ (b:List Stm) (k:Nat),(tts (b.take k)).s<=(tts b).s
 | [],k=>by simp
 | s :: r,0=>by simp [tts]
 | s :: r,k+1=>by
  have:=tts_take r k
  rw [List.take_succ_cons]
  simp only [tts]
  show (tt s).s+_<=(tt s).s+_
  omega
theorem ShOk.take {ss:List Str} {rs:List Rw} {b:List Stm} (h:ShOk ss rs b) (i k:Nat):ShOk ss (rs.take i) (b.take k):=by
 have h1:=dps_take b k
 have h2:=tts_take b k
 have h3:=h.dp
 have h4:=h.s
 have h5:=h.bl
 have h6:=h.rs.2
 exact ⟨h.len,h.one,⟨fun r hr=>h.rs.1 r (List.mem_of_mem_take hr),by rw [List.length_take];omega⟩,gdB_take b k h.gd,by omega,by omega,by rw [List.length_take];omega⟩
theorem len_sub:∀ {l m:List Str},l.Nodup->(∀ x∈l,x∈m)->l.length<=m.length
 | [],m,_,_=>Nat.zero_le _
 | a :: l,m,h,hs=>by
  have ha:=hs a (List.mem_cons_self ..)
  rw [List.nodup_cons] at h
  have ih:=len_sub (m:=m.erase a) h.2 fun x hx=>(List.mem_erase_of_ne (fun z=>h.1 (by rw [<- z];exact hx))).mpr (hs x (List.mem_cons_of_mem _ hx))
  rw [List.length_erase_of_mem ha] at ih
  have:=List.length_pos_of_mem ha
  rw [List.length_cons]
  omega
theorem set_names {ss0 ext s2 ss':List Str} (h0:Names ss0) (h3:ss0.length<=3) (he:∀ x∈ext,Letter x) (hm:∀ y,y∈s2 ↔ y∈ss0++ext) (hnd:s2.Nodup) (hp:ss'.Perm s2):1<=s2.length/\s2.length<=3+ext.length/\ss'.Nodup/\(∀ x∈ss',Letter x)/\1<=ss'.length/\ss'.length<=3+ext.length:=by
 have hle:s2.length<=3+ext.length:=by
  have:=len_sub hnd fun x hx=>(hm x).mp hx
  rw [List.length_append] at this
  omega
 have hpos:1<=s2.length:=by
  have h1:=h0.pos
  have hx:ss0[0]'(by omega)∈s2:=(hm _).mpr (List.mem_append_left _ (List.getElem_mem _))
  exact List.length_pos_of_mem hx
 refine ⟨hpos,hle,hp.nodup_iff.mpr hnd,fun x hx=>?_,by rw [hp.length_eq];exact hpos,by rw [hp.length_eq];exact hle⟩
 rcases List.mem_append.mp ((hm x).mp (hp.mem_iff.mp hx)) with h | h
 ·exact h0.lett x h
 ·exact he x h
theorem cutK (xs:List D) (k:Nat):D3.cutD xs none (some (k:Int))=xs.take k:=by
 unfold D3.cutD
 rw [HT.sIx_none,HT.sIx_nat,List.drop_zero,Nat.sub_zero]
 by_cases h:k<=xs.length
 ·rw [Nat.min_eq_left h]
 ·rw [Nat.min_eq_right (by omega),List.take_of_length_le (Nat.le_refl _),List.take_of_length_le (by omega)]
end KA
namespace D3
open PySem PySem.Spec PyProof.Rows L2
def putD9 (f:Str) (v:D):List (Str × D)->List (Str × D)
 | []=>[(f,v)]
 | (g,x) :: r=>if g=f then (g,v) :: r else (g,x) :: putD9 f v r
theorem FsIs.len {H:Hp}:∀ {fs:List (Str × D)} {ys:List (Str × V)},FsIs H fs ys->fs.length=ys.length
 | [],ys,h=>by rw [show ys=[] from h];rfl
 | (k,d) :: r,ys,h=>by
  obtain ⟨v,ys',rfl,_,h2⟩:=h
  rw [List.length_cons,List.length_cons,FsIs.len h2]
theorem FsIs.put9 {H:Hp} {f:Str} {d:D} {v:V} (i:Is H d v):∀ {fs:List (Str × D)} {ys:List (Str × V)},FsIs H fs ys->FsIs H (putD9 f d fs) (putF f v ys)
 | [],ys,h=>by rw [show ys=[] from h];exact ⟨v,[],rfl,i,rfl⟩
 | (k,e) :: r,ys,h=>by
  obtain ⟨u,ys',rfl,h1,h2⟩:=h
  unfold putD9 putF
  by_cases z:k=f
  ·rw [if_pos z,if_pos z];exact ⟨v,ys',rfl,i,h2⟩
  ·rw [if_neg z,if_neg z];exact ⟨u,_,rfl,h1,h2.put9 i⟩
theorem FsIs.look {H:Hp} {f:Str}:∀ {fs:List (Str × D)} {ys:List (Str × V)},FsIs H fs ys->match fs.lookup f with
  | some d=>∃ v,ys.lookup f=some v/\Is H d v
  | none=>ys.lookup f=none
 | [],ys,h=>by rw [show ys=[] from h];rfl
 | (k,e) :: r,ys,h=>by
  obtain ⟨u,ys',rfl,h1,h2⟩:=h
  have ih:=h2.look (f:=f)
  rw [List.lookup_cons,List.lookup_cons]
  cases hb:f == k with
  | true=>exact ⟨u,rfl,h1⟩
  | false=>exact ih
section
variable {X:Cx} {G:Ga} {M:MH} {o e value:Expr} {es:List Expr} {pos apos pos':Pos} {Q:DK} {E:EndsD}
theorem ev_fld {f:Str} (h:EV X G M o fun d M1=>∃ a C fs v,d=.ref a/\M1 a=some (.ins C fs)/\Cls X.K C/\NoAttr X.K C f/\fs.lookup f=some v/\Q v M1) (hb:attributeBase o f X.env (eval o X.env)=eval o X.env):EV X G M (.Attribute o f pos) Q:=by
 refine EV.of (pe_fld (pe_D (G:=G)) hb) fun σ H kf R=>?_
 refine ⟨M,_,R,h,fun v H' d M' kf' g i R' q=>?_⟩
 obtain ⟨a,C,fs,v',rfl,ha,c,n,hl,q⟩:=q
 rw [is_ref] at i;subst i
 obtain ⟨dx,ys,e1,hy⟩:=R'.mem a _ ha
 have:=hy.look (f:=f)
 rw [hl] at this
 obtain ⟨u,hu,iu⟩:=this
 exact ⟨a,C,dx,ys,u,rfl,e1,c,n,hu,fun _=>⟨g,v',M',iu,R'.mem,q⟩⟩
theorem ex_fld {f:Str} (h:EV X G M value fun dv M1=>EV X G M1 o fun d M2=>∃ a C fs,d=.ref a/\M2 a=some (.ins C fs)/\Cls X.K C/\NoAttr X.K C f/\fs.length < 1000/\E.nx G (mset M2 a (.ins C (putD9 f dv fs))))
  (hs:swapsWith value (some (.Attribute o f pos')) pos.line X.env=pure false):EX X G M (.Assign [.Attribute o f pos'] value pos) E:=by
 intro pins s σ H I R
 refine plainObj_wpAny_Assign_Attribute (thn (h pins s σ H I R) fun u s1 ⟨y,H1,dv,M1,I1,ry,g1,i1,R1,q1⟩=>thn (q1 pins s1 σ H1 I1 R1) fun ov s2 ⟨x,H2,dO,M2,I2,rx,g2,i2,R2,a,C,fs,e,ha,c,n,hl,q⟩=>?_) hs
 subst e
 rw [is_ref] at i2;subst i2
 obtain rfl:ov=Value.ref a:=rx
 obtain ⟨dx,ys,e1,hy⟩:=R2.mem a _ ha
 have nt:∀ zs,H2 a≠some (.tup zs):=fun zs z=>by rw [e1] at z;cases z
 have gu:Grow H2 (upd H2 a (.ins C dx (putF f y ys))):=grow_upd nt
 refine setattr_ok I2 e1 c n (by rw [<- hy.len];exact hl) ry fun s3 I3=>⟨σ,_,G,_,I3,(g1.trans g2).trans gu,R2.to gu (R2.mem.put (u:=.ins C (putD9 f dv fs)) nt ⟨dx,_,upd_same,?_⟩),q⟩
 exact (hy.grow gu).put9 (Is.grow (g2.trans gu) _ _ i1)
structure CalM (P:Program) (w:World) (K:PySem.W.Frag) (mg:Str->Option Value) (base:Heap) (k:Nat) (C:Addr) (m:Str) (sp:SpD):Prop where
 cls:Cls K C
 ex:∃ (f:Addr) (fd:FuncData) (ps:List Str),FnOk P w K mg base CX0 k f fd ps (liftSp K sp)/\Meth K C m f/\Binds K fd ps []
theorem ev_meth0 {j k:Nat} {C:Addr} {m:Str} {sp:SpD} {pl:Sem Bool} (c:CalM X.prog X.w X.K X.mg X.base j C m sp) (hr:Room k X.A) (hk:j<=k)
  (h:EV X G M o fun d M1=>∃ a fs,d=.ref a/\M1 a=some (.ins C fs)/\fs.lookup m=none/\sp [.ref a] M1 Q)
  (ht:eval (.Call (.Attribute o m apos) [] [] pos) X.env=(do
   let ov <- eval o X.env
   standAt apos.atName
   let (f,first) <- holding [ov] (getMethod ov m pl)
   callWith pos f first (backTo pos (starEach [] X.env)) (backToKw pos (keywordEach [] X.env)))):EV X G M (.Call (.Attribute o m apos) [] [] pos) Q:=by
 intro pins s σ H I R
 obtain ⟨f,fd,ps,F,hm,hb⟩:=c.ex
 refine PySem.W.methodCall_KW (pl:=pl) (thn (h pins s σ H I R) fun u s1 ⟨x,H1,d,M1,I1,rx,g1,i1,R1,a,fs,e1,ha,hl,q⟩=>?_) ht
 subst e1
 rw [is_ref] at i1;subst i1
 obtain rfl:u=Value.ref a:=rx
 obtain ⟨dx,ys,e2,hy⟩:=R1.mem a _ ha
 have:=hy.look (f:=m)
 rw [hl] at this
 refine getmeth_ok I1 e2 c.cls hm this ?_
 exact PySem.W.callWith_K0 (first:=[.ref a]) I1.kIn hm.kp (run_fnD (us:=[.ref a]) (vs:=[.ref a]) (ds:=[.ref a]) (F.mono hk) hr hb I1 R1 g1 (.cons rfl .nil) (isl_cons.mpr ⟨_,_,rfl,is_ref.mpr rfl,isl_nil.mpr rfl⟩) q)
structure Kls (P:Program) (w:World) (K:PySem.W.Frag) (mg:Str->Option Value) (base:Heap) (k:Nat) (x:Str) (C:Addr) (sp:SpD):Prop where
 ex:∃ (f:Addr) (fd:FuncData) (ps:List Str),FnOk P w K mg base CX0 k f fd ps (liftSp K sp)/\Mk K C f/\Binds K fd ps []
 mg:mg x=some (.ref C)
theorem made_run {k:Nat} {x:Str} {C:Addr} {sp:SpD} {pins:List (Addr × Obj)} {σ:St} {H0 H:Hp} {s:Shared} {us:List Value} {vs:List V} {ds:List D} (m:Kls X.prog X.w X.K X.mg X.base k x C sp) (hr:Room (k+1) X.A)
  (I:L2.Inv X pins σ H s) (R:Rel X G M σ H) (g0:Grow H0 H) (r:Vals vs us) (i:IsL H ds vs) (h:∀ a,M a=none->sp (.ref a :: ds) (mset M a (.ins C [])) fun d M2=>d=.non/\Q (.ref a) M2) :
  wpAny (model X.prog X.w) X.A (call (.ref C) us) (EPD X pins σ G H0 Q) X.xe s:=by
 obtain ⟨f,fd,ps,F,mk,hb⟩:=m.ex
 have hx:H (s.heap.objs.size+1)=none:=I.hok.fresh (Nat.le_succ _)
 have hd:H s.heap.objs.size=none:=I.hok.fresh (Nat.le_refl _)
 have hM:M (s.heap.objs.size+1)=none:=mem_not R.mem I.kIn hx (Nat.le_succ _)
 have hMd:M s.heap.objs.size=none:=mem_not R.mem I.kIn hd (Nat.le_refl _)
 have hne:s.heap.objs.size≠s.heap.objs.size+1:=Nat.ne_of_lt (Nat.lt_succ_self _)
 have I2:=Inv.made (C:=C) I
 generalize hH2:upd (upd H s.heap.objs.size (.own (s.heap.objs.size+1))) (s.heap.objs.size+1) (.ins C s.heap.objs.size [])=H2 at I2
 have gr:Grow H H2:=by
  rw [<- hH2]
  refine (grow_new hd).trans (grow_new ?_)
  rw [upd_ne hne.symm];exact hx
 have mem2:MemOk X.K (mset M (s.heap.objs.size+1) (.ins C [])) H2:=by
  rw [<- hH2]
  exact (R.mem.new hd).lay (by rw [upd_ne hne.symm];exact hx) ⟨_,[],upd_same,rfl⟩
 have hq:liftSp X.K sp (V.ref (s.heap.objs.size+1) :: vs) H2 (fun v H'=>v=.non/\∃ M',Grow H2 H'/\MemOk X.K M' H'/\Q (.ref (s.heap.objs.size+1)) M') E0 :=
  ⟨.ref (s.heap.objs.size+1) :: ds,_,_,isl_cons.mpr ⟨_,_,rfl,is_ref.mpr rfl,i.grow gr⟩,mem2,h _ hM,fun v H' d M' g iv mm q=>⟨by rw [q.1,is_non] at iv;exact iv,M',g,mm,q.2⟩⟩
 have r2:Vals (V.ref (s.heap.objs.size+1) :: vs) (Value.ref (s.heap.objs.size+1) :: us):=.cons rfl r
 have hl:(Value.ref (s.heap.objs.size+1) :: us++[]).length=ps.length:=by
  have e:=r2.length
  rw [F.len _ _ _ _ hq] at e
  rw [List.append_nil]
  exact e.symm
 have hbs:=hb _ (Value.ref (s.heap.objs.size+1) :: us) I2.kIn hl
 rw [List.append_nil] at hbs
 refine wpAny_call (make_map (f:=f) I.kIn mk.makes mk.init (beq_iff_eq.mp mk.fn) (codeAny_mono (F.run _ X.stack _ _ ⟨Value.ref (s.heap.objs.size+1) :: us,[]⟩ (Value.ref (s.heap.objs.size+1) :: us) _ _ E0 (hr.make C us []) (I2.env0.make C us []) hbs r2 hq) fun r s' hq'=>?_))
 cases r with
 | error e=>exact pass0 pins σ _ _ e s' I2 hq'
 | ok fl =>
  cases fl with
  | ret u =>
   obtain ⟨v,H',I3,rv,ev,M',g3,m3,q3⟩:=I2.after hq'
   subst ev
   exact ⟨rv,⟨V.ref (s.heap.objs.size+1),H',.ref (s.heap.objs.size+1),M',I3,rfl,g0.trans (gr.trans g3),is_ref.mpr rfl,R.to (gr.trans g3) m3,q3⟩⟩
  | next=>exact False.elim hq'
  | brk=>exact False.elim hq'
  | cont=>exact False.elim hq'
theorem ev_new {j k:Nat} {x:Str} {p:Pos} {C:Addr} {sp:SpD} (m:Kls X.prog X.w X.K X.mg X.base k x C sp) (hr:Room j X.A) (hj:k+1<=j)
  (h:AV X G M (e :: es) fun ds M1=>∀ a,M1 a=none->sp (.ref a :: ds) (mset M1 a (.ins C [])) fun d M2=>d=.non/\Q (.ref a) M2) (hg:Gl X x) (hdb:(x == ("__debug__" : Str))=false)
  (he:starEach (e :: es) X.env=(false,eval e X.env) :: starEach es X.env) (hpl:(backTo pos (starEach es X.env)).any (·.1)=false):EV X G M (.Call (.Name x p) (e :: es) [] pos) Q:=by
 intro pins s σ H I R
 obtain ⟨f,fd,ps,F,mk,hb⟩:=m.ex
 refine wpAny_Call_Name_kw (ld_glob I hg m.mg ?_ hdb)
 refine PySem.W.callWith_K (h₀:=X.base) I.ok.mod.kin mk.kp (thn (h pos pins s σ H I R) fun us s1 ⟨vs,H1,ds,M1,I1,r1,g1,i1,R1,q1⟩=>⟨I1.kIn,?_⟩) he hpl
 exact made_run m (hr.mono hj) I1 R1 g1 r1 i1 q1
end
end D3
namespace D3
open PySem PySem.Spec PyProof.Rows L2
theorem vals_strV:∀ l:List (Str × Tok),Vals ((l.map (·.1)).map V.str) (strValues l)
 | []=>.nil
 | (x,t) :: l=>.cons ⟨t,rfl⟩ (vals_strV l)
section
variable {X:Cx} {G:Ga} {M:MH} {o e:Expr} {pos apos cpos:Pos} {Q:DK}
theorem av_one {Q1:D->MH->Prop} (h:EV X G M e Q1) (hs:starEach [e] X.env=(false,eval e X.env) :: starEach [] X.env):AV X G M [e] (fun ds M2=>∃ d,ds=[d]/\Q1 d M2):=av_cons (h.mono fun d2 M2 q2=>av_nil ⟨d2,rfl,q2⟩) hs
theorem lay_strs {pins:List (Addr × Obj)} {σ:St} {H:Hp} {s:Shared} {k:Nat} {l:List (Str × Tok)} {Q:VK} (I:L2.Inv X pins σ H s) (hz:l.length<=sizeLine) (q:∀ p,H p=none->Q (.ref p) (upd H p (.lst ((l.map (·.1)).map V.str)))) :
  EP X pins σ Q (.ref s.heap.objs.size) { s with heap:=s.heap.push { cls:=.type "list",data:=.seq (strValues l).toArray },toks:=k }:=by
 refine ⟨.ref s.heap.objs.size,_,I.laid (a:=s.heap.objs.size) (o:=.lst ((l.map (·.1)).map V.str)) (t':=k) (fun _ _ q=>Heap.get?_push_of_some _ q) (Nat.le_refl _) ?_,rfl,q _ (I.hok.fresh (Nat.le_refl _))⟩
 exact ⟨by rw [List.length_map,List.length_map];exact hz,strValues l,0,vals_strV l,Heap.get?_push_size _ rfl⟩
def rSplit:V->List V->Hp->VK->Prop:=fun x vs H Q=>∃ z y,x=.str z/\vs=[.str y]/\(y.length == 0)=false/\z.length<=sizeLine/\(Builtin.Str.partsBetween z (Builtin.Str.occurrences z y 0 z.length (z.length+1)) y.length).length<=sizeLine/\∀ p,H p=none->Q (.ref p) (upd H p (.lst ((Txt.split z y).map V.str)))
theorem mt_split:MtR X "str.split" rSplit:=by
 intro pins s σ H x vs v us Q I rx rv h
 obtain ⟨z,y,rfl,rfl,hy,hz,hz2,q⟩:=h
 obtain ⟨t,rfl⟩:=(show ∃ t,v=Value.str z t from rx)
 obtain ⟨u',rfl,ru⟩:=rv.one
 obtain ⟨u,rfl⟩:=(show ∃ u,u'=Value.str y u from ru)
 have q':∀ l:List (Str × Tok),l.map (·.1)=Txt.split z y->∀ p,H p=none->Q (.ref p) (upd H p (.lst ((l.map (·.1)).map V.str))):=fun l e=>by rw [e];exact q
 cases h1:(decide (z.length < y.length) || decide (Builtin.Str.strKind z < Builtin.Str.strKind y))
 ·cases hf:(Builtin.Str.occurrences z y 0 z.length (z.length+1)).isEmpty
  ·refine call_meets F.slot_str_split (typeIs_str _ _ _) F.entry_str_split (F.args_str_split_2 _ _) (meets_str_split_sep z y t u h1 hy hf hz hz2) ?_
   show wants _ _ _ { s with toks:=_,heap:=s.heap.push { cls:=.type "list",data:=.seq (strsFrom s.toks (Builtin.Str.partsBetween z (Builtin.Str.occurrences z y 0 z.length (z.length+1)) y.length)).toArray } }
   rw [strsFrom_eq]
   have e0:Txt.split z y=Builtin.Str.partsBetween z (Builtin.Str.occurrences z y 0 z.length (z.length+1)) y.length:=(if_neg (ne_true_of_eq_false h1)).trans (if_neg (ne_true_of_eq_false hf))
   have e:=(numbered_texts s.toks (Builtin.Str.partsBetween z (Builtin.Str.occurrences z y 0 z.length (z.length+1)) y.length)).trans e0.symm
   refine lay_strs I ?_ (q' _ e)
   have:=congrArg List.length (numbered_texts s.toks (Builtin.Str.partsBetween z (Builtin.Str.occurrences z y 0 z.length (z.length+1)) y.length))
   rw [List.length_map] at this
   rw [this];exact hz2
  ·exact call_meets F.slot_str_split (typeIs_str _ _ _) F.entry_str_split (F.args_str_split_2 _ _) (meets_str_split_not_found z y t u h1 hy hf)
    (lay_strs (k:=s.toks) (l:=[(z,t)]) I (by rw [sizeLine_eq];exact Nat.le_of_ble_eq_true rfl) (q' _ ((if_neg (ne_true_of_eq_false h1)).trans (if_pos hf)).symm))
 ·exact call_meets F.slot_str_split (typeIs_str _ _ _) F.entry_str_split (F.args_str_split_2 _ _) (meets_str_split_cannot_occur z y t u h1)
   (lay_strs (k:=s.toks) (l:=[(z,t)]) I (by rw [sizeLine_eq];exact Nat.le_of_ble_eq_true rfl) (q' _ (if_pos h1).symm))
theorem ev_split (h:EV X G M o fun d M1=>∃ z,d=.str z/\EV X G M1 e fun d2 M2=>∃ y,d2=.str y/\(y.length == 0)=false/\z.length<=sizeLine/\(Builtin.Str.partsBetween z (Builtin.Str.occurrences z y 0 z.length (z.length+1)) y.length).length<=sizeLine/\∀ p,M2 p=none->Q (.ref p) (mset M2 p (.lst ((Txt.split z y).map D.str))))
  (hbase:attributeBase o "split" X.env (eval o X.env)=eval o X.env)
  (hfew:((backTo cpos (starEach [e] X.env)).all (fun x=>!x.1) && (backToKw cpos (keywordEach [] X.env)).all (fun x=>x.1.isSome) && decide (([e] : List Expr).length+([] : List Keyword).length+(if ([] : List Keyword).isEmpty then 0 else 1) < 30))=true)
  (hline:(apos.endLine == cpos.line)=true) (hs:starEach [e] X.env=(false,eval e X.env) :: starEach [] X.env) (hplain:(backTo cpos (starEach ([] : List Expr) X.env)).any (·.1)=false) :
  EV X G M (.Call (.Attribute o "split" apos) [e] [] cpos) Q:=by
 refine EV.of (pe_bm PySem.F.plainAttrs_str PySem.F.slot_str_split PySem.F.type_str_split mt_split (pe_D (G:=G)) (pa_D (G:=G) (es:=[e])) hbase hfew hline hs hplain) fun σ H kf R=>?_
 refine ⟨M,_,R,h,fun v H' d M' kf' g i R' q=>?_⟩
 obtain ⟨z,rfl,q⟩:=q
 rw [is_str] at i;subst i
 refine ⟨rfl,M',_,R',av_one q hs,fun vs H2 ds2 M2 kf2 g2 i2 R2 q2=>?_⟩
 obtain ⟨d2,rfl,y,rfl,hy,hz,hz2,q2⟩:=q2
 obtain ⟨v2,rfl,hv2⟩:=isl1 i2
 rw [is_str] at hv2;subst hv2
 exact ⟨z,y,rfl,rfl,hy,hz,hz2,fun p hp kf3=>⟨(g.trans g2).trans (grow_new hp),.ref p,_,is_ref.mpr rfl,R2.mem.lay (u:=.lst ((Txt.split z y).map D.str)) hp ⟨_,upd_same,IsL.strs⟩,q2 p (R2.mem.fresh hp kf3)⟩⟩
def rLstrip:V->List V->Hp->VK->Prop:=fun x vs H Q=>∃ z y,x=.str z/\vs=[.str y]/\z.length<=sizeLine/\Q (.str (Txt.lstripChars z y)) H
theorem mt_lstrip:MtR X "str.lstrip" rLstrip:=by
 intro pins s σ H x vs v us Q I rx rv h
 obtain ⟨z,y,rfl,rfl,hz,q⟩:=h
 obtain ⟨t,rfl⟩:=(show ∃ t,v=Value.str z t from rx)
 obtain ⟨u',rfl,ru⟩:=rv.one
 obtain ⟨u,rfl⟩:=(show ∃ u,u'=Value.str y u from ru)
 exact SC.lstripChars (fun t' k=>⟨.str _,H,I.tok _,⟨_,rfl⟩,q⟩) hz
theorem ev_lstrip (h:EV X G M o fun d M1=>∃ z,d=.str z/\EV X G M1 e fun d2 M2=>∃ y,d2=.str y/\z.length<=sizeLine/\Q (.str (Txt.lstripChars z y)) M2)
  (hbase:attributeBase o "lstrip" X.env (eval o X.env)=eval o X.env)
  (hfew:((backTo cpos (starEach [e] X.env)).all (fun x=>!x.1) && (backToKw cpos (keywordEach [] X.env)).all (fun x=>x.1.isSome) && decide (([e] : List Expr).length+([] : List Keyword).length+(if ([] : List Keyword).isEmpty then 0 else 1) < 30))=true)
  (hline:(apos.endLine == cpos.line)=true) (hs:starEach [e] X.env=(false,eval e X.env) :: starEach [] X.env) (hplain:(backTo cpos (starEach ([] : List Expr) X.env)).any (·.1)=false) :
  EV X G M (.Call (.Attribute o "lstrip" apos) [e] [] cpos) Q:=by
 refine EV.of (pe_bm PySem.F.plainAttrs_str PySem.F.slot_str_lstrip PySem.F.type_str_lstrip mt_lstrip (pe_D (G:=G)) (pa_D (G:=G) (es:=[e])) hbase hfew hline hs hplain) fun σ H kf R=>?_
 refine ⟨M,_,R,h,fun v H' d M' kf' g i R' q=>?_⟩
 obtain ⟨z,rfl,q⟩:=q
 rw [is_str] at i;subst i
 refine ⟨rfl,M',_,R',av_one q hs,fun vs H2 ds2 M2 kf2 g2 i2 R2 q2=>?_⟩
 obtain ⟨d2,rfl,y,rfl,hz,q2⟩:=q2
 obtain ⟨v2,rfl,hv2⟩:=isl1 i2
 rw [is_str] at hv2;subst hv2
 exact ⟨z,y,rfl,rfl,hz,fun _=>⟨g.trans g2,_,M2,is_str.mpr rfl,R2.mem,q2⟩⟩
def rStarts:V->List V->Hp->VK->Prop:=fun x vs H Q=>∃ z y,x=.str z/\vs=[.str y]/\Q (.bl (Txt.startswith z y)) H
theorem mt_starts:MtR X "str.startswith" rStarts:=by
 intro pins s σ H x vs v us Q I rx rv h
 obtain ⟨z,y,rfl,rfl,q⟩:=h
 obtain ⟨t,rfl⟩:=(show ∃ t,v=Value.str z t from rx)
 obtain ⟨u',rfl,ru⟩:=rv.one
 obtain ⟨u,rfl⟩:=(show ∃ u,u'=Value.str y u from ru)
 exact SC.startswith ⟨.bl _,H,I,rfl,q⟩
theorem ev_starts (h:EV X G M o fun d M1=>∃ z,d=.str z/\EV X G M1 e fun d2 M2=>∃ y,d2=.str y/\Q (.bl (Txt.startswith z y)) M2)
  (hbase:attributeBase o "startswith" X.env (eval o X.env)=eval o X.env)
  (hfew:((backTo cpos (starEach [e] X.env)).all (fun x=>!x.1) && (backToKw cpos (keywordEach [] X.env)).all (fun x=>x.1.isSome) && decide (([e] : List Expr).length+([] : List Keyword).length+(if ([] : List Keyword).isEmpty then 0 else 1) < 30))=true)
  (hline:(apos.endLine == cpos.line)=true) (hs:starEach [e] X.env=(false,eval e X.env) :: starEach [] X.env) (hplain:(backTo cpos (starEach ([] : List Expr) X.env)).any (·.1)=false) :
  EV X G M (.Call (.Attribute o "startswith" apos) [e] [] cpos) Q:=by
 refine EV.of (pe_bm PySem.F.plainAttrs_str PySem.F.slot_str_startswith PySem.F.type_str_startswith mt_starts (pe_D (G:=G)) (pa_D (G:=G) (es:=[e])) hbase hfew hline hs hplain) fun σ H kf R=>?_
 refine ⟨M,_,R,h,fun v H' d M' kf' g i R' q=>?_⟩
 obtain ⟨z,rfl,q⟩:=q
 rw [is_str] at i;subst i
 refine ⟨rfl,M',_,R',av_one q hs,fun vs H2 ds2 M2 kf2 g2 i2 R2 q2=>?_⟩
 obtain ⟨d2,rfl,y,rfl,q2⟩:=q2
 obtain ⟨v2,rfl,hv2⟩:=isl1 i2
 rw [is_str] at hv2;subst hv2
 exact ⟨z,y,rfl,rfl,fun _=>⟨g.trans g2,_,M2,is_bl.mpr rfl,R2.mem,q2⟩⟩
theorem call_intS:CallR X (.type "int") (fun xs H Q=>∃ z n,xs=[.str z]/\PySem.intText? z=some n/\z.length<=640/\Q (.int n) H):=by
 intro pins s σ H xs us Q I r h
 obtain ⟨z,n,rfl,hn,hz,q⟩:=h
 obtain ⟨u,rfl,ru⟩:=vals1 r
 obtain ⟨t,rfl⟩:=(show ∃ t,u=Value.str z t from ru)
 exact PySem.W.KIN.call_text hn hz ⟨.int n,H,I.tok _,⟨_,rfl⟩,q⟩
theorem ev_intS {p:Pos} (hm:X.mg "int" = none) (h:AV X G M [e] fun ds M1=>∃ z n,ds=[.str z]/\PySem.intText? z=some n/\z.length<=640/\Q (.int n) M1) (hg:Gl X "int")
  (he:starEach [e] X.env=(false,eval e X.env) :: starEach [] X.env) (hpl:(backTo pos (starEach ([] : List Expr) X.env)).any (·.1)=false):EV X G M (.Call (.Name "int" p) [e] [] pos) Q :=
 ev_callTy call_intS hm bootInt (h.mono fun ds M1 ⟨z,n,e1,hn,hz,q⟩=>fun H xs kf hx m=>by
  subst e1
  obtain ⟨v,rfl,hv⟩:=isl1 hx
  rw [is_str] at hv;subst hv
  exact ⟨z,n,rfl,hn,hz,fun _=>⟨Grow.refl _,_,M1,is_int.mpr rfl,m,q⟩⟩) hg (by decide) (by decide) he hpl
theorem op_inS:OpR X (compareOp .In) (fun x y H Q=>∃ a b,x=.str a/\y=.str b/\Q (.bl (Txt.contains b a)) H):=by
 intro pins s σ H x y v u Q I rx ry h
 obtain ⟨a,b,rfl,rfl,q⟩:=h
 obtain ⟨t,rfl⟩:=(show ∃ t,v=Value.str a t from rx)
 obtain ⟨t',rfl⟩:=(show ∃ t',u=Value.str b t' from ry)
 exact PyProof.Rows.in_str ⟨.bl _,H,I,rfl,q⟩
theorem ev_inS {a b:Expr} (h:EV X G M a fun da Ma=>EV X G Ma b fun db Mb=>∃ x y,da=.str x/\db=.str y/\Q (.bl (Txt.contains y x)) Mb) (hm:behindInMarks .In b=false):EV X G M (.Compare a [.In] [b] pos) Q :=
 ev_cmp op_inS hm (h.mono fun _ _ h1=>h1.mono fun _ Mb ⟨x,y,e1,e2,q⟩=>fun H x' y' kf hx hy m=>by
  subst e1;subst e2
  rw [is_str] at hx hy;subst hx;subst hy
  exact ⟨x,y,rfl,rfl,fun _=>⟨Grow.refl _,_,Mb,is_bl.mpr rfl,m,q⟩⟩)
end
end D3
namespace D3
open PySem PySem.Spec PyProof.Rows L2
def ItThr (lo:Int) (n:Nat):It:=⟨fun i _=>i < n,fun i H x H'=>H'=H/\x=.int (lo+i * 3),fun i _=>n<=i⟩
theorem turn_thr {P:Program} {w:World} {K:PySem.W.Frag} {tg:Expr} (it:Addr) (lo:Int) (n:Nat):Turn P w K tg (ItThr lo n) [it] it (fun i h=>IsRangeIter h it (lo+(i:Nat) * 3) ((n:Int) - (i:Nat)) 3):=by
 refine ⟨by simp,?_,fun i h h' st k=>k it (by simp) _ st,?_,?_,fun _ _ _ _ _ st h=>wpAny_pyIter_rangeiter st h⟩
 ·intro i h st b hb
  have e:b=it:=by simpa using hb
  subst e
  refine ⟨_,st,fun v z=>?_⟩
  have z':Data.fields _=Data.cell v:=z
  cases z'
 ·intro X hP hw hK hc i pins s σ H E I hf st hg
  subst hP hw hK
  obtain ⟨f0,f1,f2,f3,f4,f5⟩:=hf it (by simp)
  refine (Walks.range (prog:=X.prog) (w:=X.w) (I.ok.hd hc) it lo 3 n).item i s _ _ hg st fun v h' tk hv st' kk=>?_
  obtain ⟨t,rfl⟩:=hv
  have I1:Inv X pins σ H { s with heap:=h',toks:=tk }:=I.turned (fun b o hb e=>kk b o (by simpa using hb) e) f0 f1 f3 f4 f5
  exact ⟨_,rfl,go_of (s:={ s with heap:=h',toks:=tk }) (n := "range_iterator") st' rfl rfl (by decide) ⟨.int (lo+i * 3),H,I1,⟨t,rfl⟩,⟨rfl,rfl⟩,st',fun b hb=>(hf b hb).1⟩⟩
 ·intro X hP hw hK hc i pins s σ H E I hf st hg
  subst hP hw hK
  obtain ⟨f0,f1,f2,f3,f4,f5⟩:=hf it (by simp)
  exact wpAny_pyNext_range_end (I.ok.hd hc) st (by have:n<=i:=hg;omega) fun h' eb=>⟨rfl,I.turned (t':=s.toks) (fun b o hb e=>eb b o hb e) f0 f1 f3 f4 f5⟩
theorem size_thr {a b:Int}:Builtin.Range.rangeSize a b 3=if a < b then (b - a - 1) / 3+1 else 0:=by
 unfold Builtin.Range.rangeSize;rw [if_pos (by decide)]
theorem small_thr {a b:Int} (ha:-(2 ^ 62)<=a) (ha':a < 2 ^ 62) (hb:-(2 ^ 62)<=b) (hb':b < 2 ^ 62):Builtin.Range.small a b 3=true:=by
 unfold Builtin.Range.small
 rw [size_thr]
 simp only [Builtin.Range.rangeFitsLong,Bool.and_eq_true,Bool.or_eq_true,decide_eq_true_eq,beq_iff_eq,show (3:Int) > 0 by decide,if_true]
 split<;>omega
def many3 (lo hi:Int):Nat:=((hi - lo+2) / 3).toNat
section
variable {X:Cx} {tg:Expr}
theorem thr_it {pins:List (Addr × Obj)} {σ:St} {H:Hp} {s:Shared} {R:It->Hp->Prop} {E:Value->Shared->Prop} {lo hi:Int} {t u v:Tok} {tk:Nat} (I:Inv X pins σ H s) (h1:-(2 ^ 62)<=lo) (h2:lo < 2 ^ 62) (h3:-(2 ^ 62)<=hi) (h4:hi < 2 ^ 62)
  (q:R (ItThr lo (many3 lo hi)) H):wpAny (model X.prog X.w) X.A (pyIter (.ref s.heap.objs.size)) (PIE X pins σ tg R) E { s with heap:=s.heap.push { cls:=.type "range",data:=.fields #[.int lo t,.int hi u,.int 3 v] },toks:=tk }:=by
 refine wpAny_pyIter_range (IsRange.new ..) (small_thr h1 h2 h3 h4) ?_
 generalize hob:({ cls:=.type "range",data:=.fields #[.int lo t,.int hi u,.int 3 v] }:Obj)=ob
 have I1:Inv X pins σ H { s with heap:=s.heap.push ob,toks:=tk }:=I.kept fun b o e=>Heap.get?_push_of_some _ e
 refine ⟨(s.heap.push ob).objs.size,[(s.heap.push ob).objs.size],_,_,H,rfl,I1.kept (t':=tk) fun b o e=>Heap.get?_push_of_some _ e,turn_thr _ lo (many3 lo hi),?_,fun b hb=>?_,q⟩
 ·have e1:lo+((0:Nat):Int) * 3=lo:=by simp
  have e2:((many3 lo hi:Nat):Int) - ((0:Nat):Int)=Builtin.Range.rangeSize lo hi 3:=by rw [size_thr];unfold many3;split<;>omega
  show IsRangeIter _ _ (lo+((0:Nat):Int) * 3) (((many3 lo hi:Nat):Int) - ((0:Nat):Int)) 3
  rw [e1,e2]
  exact Heap.get?_push_size _ rfl
 ·have e:b=(s.heap.push ob).objs.size:=by simpa using hb
  subst e
  exact I1.fpOk (Nat.le_refl _) (I1.hok.fresh (Nat.le_refl _))
def iThr (ta:TA):TI:=fun σ H R=>ta σ H fun vs H1=>∃ i j:Int,vs=[.int i,.int j,.int 3]/\(-(2 ^ 62)<=i/\i < 2 ^ 62/\-(2 ^ 62)<=j/\j < 2 ^ 62)/\R (ItThr i (many3 i j)) H1
theorem pi_thr {a b c:Expr} {ta:TA} {p pos:Pos} (hg:Gl X "range") (hm:X.mg "range" = none) (ha:PA X [a,b,c] ta) (hs:starEach [a,b,c] X.env=[(false,eval a X.env),(false,eval b X.env),(false,eval c X.env)]:=by rfl) (hs2:starEach [b,c] X.env=[(false,eval b X.env),(false,eval c X.env)]:=by rfl) :
  PI X tg (.Call (.Name "range" p) [a,b,c] [] pos) (iThr ta):=by
 intro pins s σ H R I h
 refine Call_ (ld_blt I hg hm boot_range (PyProof.Rows.callWith_type1 (thn (ha pos pins s σ H _ I h) fun us s1 ⟨vs,H1,I1,r1,q1⟩=>?_) (by rw [hs,hs2]) (by rw [hs2];rfl)))
 obtain ⟨i,j,e,⟨q1,q2,q3,q4⟩,q⟩:=q1
 subst e
 cases r1 with
 | cons r rr =>
  cases rr with
  | cons r' rr =>
   cases rr with
   | cons r'' rr =>
    cases rr
    obtain ⟨t,rfl⟩:=r
    obtain ⟨t',rfl⟩:=r'
    obtain ⟨t'',rfl⟩:=r''
    exact PySem.call_range_3 (by decide) (thr_it I1 q1 q2 q3 q4 q) (Or.inl (PyProof.noPylong_small (by decide)))
end
section
variable {X:Cx} {G:Ga} {M:MH} {own:List Str} {js:List Nat} {N:List Str} {scope:Scope} {cl:List (Str × Addr)} {e1 e2 e3 elt tg:Expr} {pos:Pos}
theorem ex_compR3 {E:EndsD} {y:Str} {py spos p p2:Pos} (jj:Nat) (T:CompOk X own js N scope cl) (hxe:X.xe=fun _ _=>False) (hc:X.calm=true) (hm:X.mg "range" = none) (hN:X.N.Nodup) (hj:X.N[jj]?=some y) (hy:Loc X.env.scope y) (hyf:X.fn y=true\/X.env.scope.names.lookup y=some .local)
  (hsw:swapsWith (.ListComp elt [⟨tg,.Call (.Name "range" p) [e1,e2,e3] [] p2,[],0⟩] scope pos) (some (.Name y py)) spos.line X.env=pure true)
  (h:AV X G M [e1,e2,e3] fun as M1=>∃ (hi:Int) (Iv:Addr->Nat->List D->MH->Prop),as=[.int 0,.int hi,.int 3]/\0<=hi/\hi < 1000/\(∀ q,M1 q=none->Iv q 0 [] (mset M1 q (.lst []))) /\
   (∀ Y:Cx,(∃ C s H fp,Y=compCx X N scope cl C s H fp)->∀ q i acc M',i < many3 0 hi->Iv q i acc M'->M' q=some (.lst acc)->GV Y (compG own js G) M' tg (.int (((3 * i:Nat):Int))) fun G3 M3=>M3=M'/\Sub (compG own js G) G3/\EV Y G3 M' elt fun o M4=>M4 q=some (.lst acc)/\acc.length < sizeLine/\Iv q (i+1) (acc++[o]) (mset M4 q (.lst (acc++[o])))) /\
   ∀ q acc M',Iv q (many3 0 hi) acc M'->M' q=some (.lst acc)->E.nx (G.set jj (some (.ref q))) M')
  (hg:Gl X "range") (hse:starEach [e1,e2,e3] X.env=[(false,eval e1 X.env),(false,eval e2 X.env),(false,eval e3 X.env)]) (hse2:starEach [e2,e3] X.env=[(false,eval e2 X.env),(false,eval e3 X.env)]) (hs:∀ x,foldedSetIterable (.Call (.Name "range" p) [e1,e2,e3] [] p2) X.env x=pure x):EX X G M (.Assign [.Name y py] (.ListComp elt [⟨tg,.Call (.Name "range" p) [e1,e2,e3] [] p2,[],0⟩] scope pos) spos) E:=by
 refine ex_compI jj T hxe hc (pi_thr hg hm (pa_D (G:=G)) hse hse2) hN hj hy hyf hsw (fun σ H kf R=>?_) hs
 refine ⟨M,_,R,h,fun vs H' ds M' kf' g i R' q=>?_⟩
 obtain ⟨n,Iv,e,h1,h2,iv0,block,fin⟩:=q
 subst e
 obtain ⟨u,v,w,rfl,i1,i2,i3⟩:=isl3 i
 rw [is_int] at i1 i2 i3;subst i1;subst i2;subst i3
 refine ⟨0,n,rfl,⟨by omega,by omega,by omega,by omega⟩,g,M',(List.range (many3 0 n)).map fun i:Nat=>D.int (((3 * i:Nat):Int)),Iv,R',fun q i acc M2 H2 g2 m2 v2=>⟨fun e=>?_,fun hlt=>⟨?_,fun x H3 y=>?_⟩⟩,iv0,fun Y hY q i acc M2 d hd v2 m2=>?_,fun q acc M2 v2 m2=>fin q acc M2 (by rw [List.length_map,List.length_range] at v2;exact v2) m2⟩
 ·show many3 0 n<=i
  rw [e,List.length_map,List.length_range];exact Nat.le_refl _
 ·show i < many3 0 n
  simpa using hlt
 ·obtain ⟨e,y⟩:=y
  subst e;subst y
  have hlt':i < many3 0 n:=by simpa using hlt
  exact ⟨Grow.refl _,fun _ _ z=>z,.int (((3 * i:Nat):Int)),by rw [List.getElem?_map,List.getElem?_range hlt'];rfl,is_int.mpr (by congr 1;omega)⟩
 ·rw [List.getElem?_map] at hd
  have hi:i < many3 0 n:=by
   refine Nat.lt_of_not_le fun z=>?_
   rw [List.getElem?_eq_none (by rw [List.length_range];exact z)] at hd;cases hd
  rw [List.getElem?_range hi] at hd
  have hd:D.int (((3 * i:Nat):Int))=d:=by simpa using hd
  subst hd
  have:=block Y hY q i acc M2 hi v2 m2
  intro pins s σ H v u I R r i1
  refine thn (this pins s σ H v u I R r i1) fun _ s2 h2=>?_
  obtain ⟨σ2,H2,G2,M3,I2,g2,R2,e1,e2,e3⟩:=h2
  exact ⟨σ2,H2,G2,M3,I2,g2,R2,e1,e2,⟨rfl,by rw [if_pos rfl];exact e3⟩⟩
end
section
variable {X:Cx} {G:Ga} {M:MH} {a e:Expr} {pos:Pos} {Q:DK}
theorem two_dict {P:Program} {K:PySem.W.Frag} {w:World} {d:Addr} {k1 v1 k2 v2:Str} {h:Heap} (hd:Two K w d k1 v1 k2 v2) (hne:k1≠k2) (hk:K.In h):∃ u1 u2,h.DictOf (mixKind P w) d [(.inr k1,.str v1 u1),(.inr k2,.str v2 u2)]:=by
 obtain ⟨t1,u1,t2,u2,n,hd⟩:=hd
 refine ⟨u1,u2,_,_,n,hk _ _ hd,⟨rfl,rfl,rfl⟩,rfl,?_,?_,?_⟩
 ·intro e he
  simp at he
  rcases he with rfl | rfl
  ·exact ⟨.inr k1,mixKind_str _ _ _ _,rfl⟩
  ·exact ⟨.inr k2,mixKind_str _ _ _ _,rfl⟩
 ·exact .cons (mixKind_str _ _ _ _) rfl (.cons (mixKind_str _ _ _ _) rfl .nil)
 ·simp [hne]
theorem op_inTwo {d:Addr} {k1 v1 k2 v2:Str} (hd:Two X.K X.w d k1 v1 k2 v2) (hne:k1≠k2) (hs:(d == sysModules)=false):OpR X (compareOp .In) (fun x y H Q=>∃ k,x=.str k/\y=.ref d/\Q (.bl (decide (k=k1) || decide (k=k2))) H):=by
 intro pins s σ H x y v u Q I rx ry h
 obtain ⟨k,rfl,rfl,q⟩:=h
 obtain ⟨t,rfl⟩:=(show ∃ t,v=Value.str k t from rx)
 cases ry
 obtain ⟨u1,u2,dd⟩:=two_dict (P:=X.prog) hd hne I.kIn
 refine wpAny_in_of (mixKind_str _ _ k t) hs dd.mapOf ?_
 refine ⟨.bl _,H,I.tok _,?_,q⟩
 show Value.bool _=Value.bool _
 congr 1
 by_cases e1:k=k1
 ·subst e1;simp [valueAt]
 ·by_cases e2:k=k2
  ·subst e2;simp [valueAt,hne]
  ·have h1:¬ k1=k:=fun z=>e1 z.symm
   have h2:¬ k2=k:=fun z=>e2 z.symm
   simp [valueAt,e1,e2,h1,h2]
theorem ev_inTwo {x:Str} {p:Pos} {d:Addr} {k1 v1 k2 v2:Str} (hd:Two X.K X.w d k1 v1 k2 v2) (hne:k1≠k2) (hs:(d == sysModules)=false) (hm:X.mg x=some (.ref d)) (h:EV X G M e fun dk M1=>∃ k,dk=.str k/\Q (.bl (decide (k=k1) || decide (k=k2))) M1)
  (hg:Gl X x) (hdb:(x == ("__debug__" : Str))=false) (hb:behindInMarks .In (.Name x p)=false):EV X G M (.Compare e [.In] [.Name x p] pos) Q:=by
 refine ev_cmp (op_inTwo hd hne hs) hb (h.mono fun dk M1 ⟨k,e1,q⟩=>?_)
 subst e1
 refine EV.of (pe_glob (v:=.ref d) hg hm rfl hdb) fun σ H kf R=>show _ from fun _=>⟨Grow.refl _,.ref d,M1,is_ref.mpr rfl,R.mem,?_⟩
 intro H x y kf hx hy m
 rw [is_str] at hx;rw [is_ref] at hy;subst hx;subst hy
 exact ⟨k,rfl,rfl,fun _=>⟨Grow.refl _,_,M1,is_bl.mpr rfl,m,q⟩⟩
def rSlS:V->Option Int->Option Int->Hp->VK->Prop:=fun x lo hi H Q=>∃ (z:Str) (i:Int),x=.str z/\lo=some i/\hi=none/\z.length<=sizeLine/\Q (.str (Txt.slice z (some i) none)) H
theorem sl_str:SlR X rSlS:=by
 intro pins s σ H x v vl vu lo hi sl Q I rx hs pl pu h
 obtain ⟨z,i,rfl,rfl,rfl,hz,q⟩:=h
 obtain ⟨t,rfl⟩:=(show ∃ t,v=Value.str z t from rx)
 cases pl
 cases pu
 exact ⟨"str",_,F.slot_str_getitem.lookup,typeIs_str _ _ _,wpAny_getItem_str_slice (l:=some (i,_)) (u:=none) (st:=none) hs rfl (post_val_or_str ⟨Nat.le_trans (Txt.slice_le z _ _) hz,fun t' k=>⟨.str _,H,I.tok _,⟨_,rfl⟩,q⟩⟩)⟩
theorem rs_str {da:D} {i:Int} {z:Str} (e:da=.str z) (hz:z.length<=sizeLine) (h:Q (.str (Txt.slice z (some i) none)) M):RS X.K rSlS da (some i) none M Q:=by
 intro H x kf hx m
 subst e
 rw [is_str] at hx;subst hx
 exact ⟨z,i,rfl,rfl,rfl,hz,fun _=>⟨Grow.refl _,_,M,is_str.mpr rfl,m,h⟩⟩
end
end D3
namespace D3
open PySem PySem.Spec PyProof.Rows L2
open AutoSeq1 (wpAny_loadPart')
theorem new_enum1 (l:Addr) (items:Array Value) (n:Nat) (dct:Option Addr) (sl:Array (Option Value)) (u:Tok) :
  Meets (Builtin.«enumerate.__new__» ⟨[.type "enumerate",.ref l],[("start",.int 1 u)]⟩) (fun _ R s=>s.heap.get? l=some { cls:=.type "list",dict:=dct,data:=.seq items n,slots:=sl } /\
   R (.ok (.ret (.ref (s.heap.push { cls:=.type "list_iterator",data:=.fields #[.ref l,.int 0 0] }).objs.size)))
    { s with heap:=(s.heap.push { cls:=.type "list_iterator",data:=.fields #[.ref l,.int 0 0] }).push { cls:=.type "enumerate",data:=.fields #[.none,.bool false,.ref s.heap.objs.size,rawInt 1,.none,.none] } }) :=
 .of_wp fun prog w A R s h=>by
  obtain ⟨hp,g,d,tk,os⟩:=s;obtain ⟨hl,h⟩:=h
  have hsub:=sub_enumerate
  have hL:Heap.IsList (Shared.heap ⟨hp,g,d,tk,os⟩) l items:=⟨_,hl,rfl,n,rfl⟩
  wp_walk using wpAny_loadPart' hl
  refine wpAny_stack_any fun st=>wpAny_pure ?_
  split
  ·rename_i c _ _ _ _ _
   cases (c == Value.type "enumerate")<;>(wp_walk using wpAny_loadPart' hl,wpAny_pyIter_list hL;exact ⟨_,rfl,h⟩)
  ·wp_walk using wpAny_loadPart' hl,wpAny_pyIter_list hL
   exact ⟨_,rfl,h⟩
theorem args_init1 (a b:Value) (u:Tok):argsOk "object.__init__" ⟨[a,b],[("start",.int 1 u)]⟩:=by unfold argsOk;kernel_rfl
theorem init_enum1 {self:Value} {l:Addr} {u:Tok} :
  Meets (Builtin.«object.__init__» ⟨[self,.ref l],[("start",.int 1 u)]⟩) (fun _ R s=>s.TypeIs self "enumerate" /\ R (.ok (.ret .none)) s):=by
 refine Meets.of_wp fun prog w A R s hs=>?_
 obtain ⟨hT,hq⟩:=hs
 have hl:=F.called_enumerate.init.lookup
 have hm:=F.called_enumerate.made
 have hne:(some "enumerate.__new__" != some "object.__new__")=true:=by decide
 repeat (any_goals (first | assumption | wp_step))
 exact ⟨_,rfl,hq⟩
theorem call_enum1 {P:Program} {w:World} {A:Around} {E:Value->Shared->Prop} {s:Shared} {l:Addr} {its:List Value} {n:Nat} {u:Tok} {Q:Value->Shared->Prop} (hl:s.heap.get? l=some { cls:=.type "list",data:=.seq its.toArray n })
  (k:∀ g,IsEnum g (s.heap.objs.size+1) s.heap.objs.size 1 .none->g.IsListIter s.heap.objs.size l 0->(∀ b o,s.heap.get? b=some o->g.get? b=some o)->Q (.ref (s.heap.objs.size+1)) { s with heap:=g }) :
  wpAny (model P w) A (call (.type "enumerate") [.ref l] [("start",.int 1 u)]) Q E s:=by
 have ft:=F.called_enumerate
 obtain ⟨c,tl,hmro⟩:=ft.mro
 have hmade:=ft.made
 have hsub:=ft.sub
 have hct:checkTypeCall "enumerate" ⟨[.ref l],[("start",.int 1 u)]⟩=pure ():=by kernel_rfl
 have hcn:checkBuiltinCall "enumerate.__new__" ⟨[.type "enumerate",.ref l],[("start",.int 1 u)]⟩=pure ():=by kernel_rfl
 refine wpAny_call (codeAny_of_tree ?_)
 show wpAny _ _ (callAny (.type "enumerate") _) _ _ _
 refine wpAny_pure ⟨Code.quiet_builtin _ (by decide +kernel),codeAny_builtin F.entry_type_call ?_⟩
 rw [Around.under_plain (weight_type_call_type _ _ _) (units_type_call_type _ _ _)]
 have h1:=ft.notType
 have h2:=ft.canCreate
 repeat (any_goals (first | assumption | wp_step))
 have sz:(s.heap.push { cls:=.type "list_iterator",data:=.fields #[.ref l,.int 0 0] }).objs.size=s.heap.objs.size+1:=Heap.size_push ..
 have hg:=new_enum1 l its.toArray n none #[] u P w A.in1
 refine codeAny_mono (codeAny_call_builtin (R:=wants (fun obj s1=>s1.TypeIs obj "enumerate" /\ Q obj s1) E) ft.plain F.entry_enumerate_new (wpAny_of_eq hcn (hg _ s ⟨hl,?_⟩))) fun r s₁ hr=>?_
 ·have en:IsEnum ((s.heap.push { cls:=.type "list_iterator",data:=.fields #[.ref l,.int 0 0] }).push { cls:=.type "enumerate",data:=.fields #[.none,.bool false,.ref s.heap.objs.size,rawInt 1,.none,.none] }) (s.heap.objs.size+1) s.heap.objs.size 1 .none:=by
   rw [<- sz]
   exact Heap.get?_push_size _ rfl
  show _/\_
  rw [sz]
  exact ⟨⟨_,en,rfl⟩,k _ en ⟨_,Heap.get?_push_of_some _ (Heap.get?_push_size _ rfl),rfl,rfl⟩ fun b o x=>Heap.get?_push_of_some _ (Heap.get?_push_of_some _ x)⟩
 ·cases r with
  | error e=>exact hr
  | ok fl =>
   cases fl with
   | ret obj =>
    obtain ⟨hT,hq⟩:=(show s₁.TypeIs obj "enumerate" /\ Q obj s₁ from hr)
    have hli:=ft.init.lookup
    have hbi:=ft.init.bind obj
    repeat (any_goals (first | assumption | wp_step))
    refine codeAny_mono (codeAny_call_builtin (R:=wants (fun r s₂=>r=.none/\Q obj s₂) E) ft.init.plain F.entry_object_init (ft.init.check _ _ _ _ _ _ _ _ hT (args_init1 obj _ u) (init_enum1 P w A.in1 _ s₁ ⟨hT,rfl,hq⟩))) fun r₂ s₂ hr₂=>?_
    cases r₂ with
    | error e=>exact hr₂
    | ok fl₂ =>
     cases fl₂ with
     | ret r =>
      obtain ⟨rfl,hq⟩:=hr₂
      repeat (any_goals (first | assumption | wp_step))
     | _=>exact hr₂.elim
   | _=>exact hr.elim
end D3
namespace D3
open PySem PySem.Spec PyProof.Rows L2
theorem draws_up {P:Program} {w:World} {B:Around} {it:Addr} {fp:List Addr} {n:Nat} {Pi:Nat->Value->Prop} {St:Nat->Heap->Prop} (D:Draws P w B it fp n Pi St) :
  Draws P w B it fp (n+1) (fun i v=>Pi (i - 1) v) (fun i h=>1<=i/\St (i - 1) h) where
 live:=fun _ _ q=>D.live _ _ q.2
 frame:=fun _ _ _ q k=>⟨q.1,D.frame _ _ _ q.2 k⟩
 item:=fun i st R Z lt q k=>by
  obtain ⟨j,rfl⟩:∃ j,i=j+1:=⟨i - 1,by have:=q.1;omega⟩
  exact D.item j st R Z (by omega) q.2 fun x h' tk hx hs hb=>k x h' tk hx ⟨by omega,hs⟩ hb
 done:=fun st R Z q k=>D.done st R Z q.2 k
def Itf (K:PySem.W.Frag) (a:Addr):It :=
 ⟨fun i H=>∃ xs x,SqL K H a xs/\xs[i]?=some x,fun i H v H'=>∃ T x,v=.ref T/\H T=none/\H'=upd H T (.tup [.int ((i+1:Nat):Int),x])/\∀ xs,SqL K H a xs->xs[i]?=some x,fun i H=>∃ xs,SqL K H a xs/\xs.length=i⟩
theorem turn_enum1 {P:Program} {w:World} {K:PySem.W.Frag} {ts:List Expr} {n:Nat} {pos:Pos} (a e it:Addr) (ne:e≠it) (ha:a≠e) (hb:a≠it) :
  Turn P w K (.Tuple ts n pos) (Itf K a) [e,it] e (fun i h=>(∃ old,IsEnum h e it ((i+1:Nat):Int) old)/\h.IsListIter it a i) where
 mem:=by simp
 obj:=fun i h q b hb=>by
  obtain ⟨⟨old,q1⟩,o,q2,_,q3⟩:=q
  rcases List.mem_cons.mp hb with z | z
  ·subst z;exact ⟨_,q1,fun v z=>by
    have z':Data.fields _=Data.cell v:=z
    cases z'⟩
  ·rw [List.mem_singleton.mp z];exact ⟨o,q2,fun v z=>by rw [q3] at z;cases z⟩
 keep:=fun i h h' q k=>⟨let ⟨old,q1⟩:=q.1;⟨old,k e (by simp) _ q1⟩,q.2.at fun o z=>k it (by simp) o z⟩
 item:=by
  intro X hP hw hK hc i pins s σ H E I hf q hg
  subst hP hw hK
  obtain ⟨xs,x,hq,hx⟩:=hg
  obtain ⟨its,rv,p,hz⟩:=I.list hq
  obtain ⟨u,hu,ru⟩:=rv.get hx
  obtain ⟨⟨old,q1⟩,q2⟩:=q
  have lt:i < its.toArray.size:=by
   have:=(List.getElem?_eq_some_iff.mp hu).1
   simpa using this
  refine wpAny_pyNext_enum_itemD (i:=i+1) (draws_up (Draws.list (A:=X.A.in1) (I.ok.hd hc) it a hb its.toArray)) q1 ⟨by omega,q2,p.isList⟩ (by omega) ne (by simp [ne,ha.symm]) fun v g tk hv r1 r2 r3 r4 r5=>?_
  have ev:v=u:=by
   have h1:its[i]?=some v:=by simpa using hv
   rw [hu] at h1;exact (Option.some.inj h1).symm
  subst ev
  refine ⟨_,rfl,wpAny_letOwnedTupleGo_enum r1 fun g' s1 s2=>?_⟩
  have s2':∀ b,b≠e->g'.get? b=g.get? b:=s2.2
  have hT:e≠s.heap.objs.size:=Nat.ne_of_lt (Heap.lt_size q1)
  have hT':it≠s.heap.objs.size:=by obtain ⟨o,z,_⟩:=q2;exact Nat.ne_of_lt (Heap.lt_size z)
  have r2':g.IsListIter it a (i+1):=r2.2.1
  obtain ⟨oi,zi,_⟩:=id r2'
  obtain ⟨m,I1,sz,km⟩:=turned2 (tk:=tk+1) I (hf e (by simp)) (hf it (by simp)) ne ⟨_,q1⟩ (let ⟨o,z,_⟩:=q2;⟨o,z⟩) ⟨_,s1⟩ ⟨oi,(s2' it ne.symm).trans zi⟩ fun b o h1 h2 z=>(s2' b h1).trans (r5 b o h1 h2 z)
  have fr:H s.heap.objs.size=none:=I.hok.fresh (Nat.le_refl _)
  refine ⟨.ref s.heap.objs.size,upd H s.heap.objs.size (.tup [.int ((i+1:Nat):Int),x]),I1.laid (t':=tk+1) (o:=.tup [.int ((i+1:Nat):Int),x]) km (Nat.le_of_eq sz) ⟨⟨show 2<=sizeLine by decide,_,(s2' _ hT.symm).trans r3,rfl⟩,[.int ((i+1:Nat):Int) tk,v],.cons ⟨tk,rfl⟩ (.cons ru .nil),⟨_,(s2' _ hT.symm).trans r3,rfl,_,rfl⟩⟩,rfl,⟨_,x,rfl,fr,rfl,fun ys hy=>by rw [I.list_inj hy hq];exact hx⟩,⟨⟨_,s1⟩,r2'.at fun o z=>(s2' it ne.symm).trans z⟩,fun b hb=>?_⟩
  rcases List.mem_cons.mp hb with z | z
  ·subst z;rw [upd_ne hT];exact (hf b (by simp)).1
  ·rw [List.mem_singleton.mp z,upd_ne hT'];exact (hf it (by simp)).1
 done:=by
  intro X hP hw hK hc i pins s σ H E I hf q hg
  subst hP hw hK
  obtain ⟨xs,hq,hx⟩:=hg
  obtain ⟨its,rv,p,hz⟩:=I.list hq
  obtain ⟨⟨old,q1⟩,q2⟩:=q
  have hl:its.toArray.size=i:=by rw [<- hx,rv.length];simp
  subst hl
  obtain ⟨f0,f1,f2,f3,f4,f5⟩:=hf it (by simp)
  exact wpAny_pyNext_enum_endD (Draws.list (A:=X.A.in1) (I.ok.hd hc) it a hb its.toArray) q1 ⟨q2,p.isList⟩ fun g eb=>⟨rfl,I.turned (t':=s.toks) (fun b o z y=>eb b o z y) f0 f1 f3 f4 f5⟩
 self:=fun _ _ _ _ _ q h=>let ⟨_,q1⟩:=q.1;wpAny_pyIter_enum q1 h
section
variable {M:Model} {A:Around} {E:Value->Shared->Prop} {s:Shared} {env:Env}
theorem callType_kw {pos:Pos} {T:String} {e:Expr} {kws:List Keyword} {Q:Value->Shared->Prop}
  (h:wpAny M A (spliced (backTo pos (starEach [e] env))) (fun vs s₁=>wpAny M A (evalAll ((backToKw pos (keywordEach kws env)).map (·.2)))
   (fun kvs s₂=>wpAny M A (call (.type T) vs (((backToKw pos (keywordEach kws env)).filterMap (·.1)).zip kvs)) Q E s₂) E s₁) E s)
  (he:backTo pos (starEach [e] env)=(false,eval e env) :: backTo pos (starEach [] env)) (hplain:(backTo pos (starEach [e] env)).any (·.1)=false)
  (hall:(backToKw pos (keywordEach kws env)).all (·.1.isSome)=true) (hkw:(backToKw pos (keywordEach kws env)).any (·.1.isNone)=false) :
  wpAny M A (callWith pos (.type T) [] (backTo pos (starEach [e] env)) (backToKw pos (keywordEach kws env))) Q E s:=by
 have h2:wpAny M A (evalArgs (.type T) true (backTo pos (starEach [e] env)) (backToKw pos (keywordEach kws env))) (fun a s₁=>wpAny M A (call (.type T) a.pos a.kw) Q E s₁) E s:=by
  rw [he] at h ⊢
  exact PyProof.Rows.evalArgs_kwB hall h
 unfold callWith
 refine wpAny_bind (wpAny_holding (wpAny_mono h2 (fun a s₁ h₁=>wpAny_bind (wpAny_standAt ?_)) fun _ _ x=>x))
 simp only [hplain,hkw,Bool.or_false]
 refine wpAny_bind (wpAny_pure ?_)
 exact wpAny_bind (wpAny_mono h₁ (fun r s₂ hr=>wpAny_bind (wpAny_holding (wpAny_point (wpAny_pure hr)))) fun _ _ x=>x)
end
section
variable {X:Cx} {ts:List Expr} {n:Nat} {tp:Pos}
def iEnum1 (K:PySem.W.Frag) (ta:TA):TI:=fun σ H R=>ta σ H fun vs H1=>∃ a,vs=[.ref a]/\(∃ xs,H1 a=some (.lst xs))/\R (Itf K a) H1
theorem pi_enum1 {a:Expr} {ta:TA} {p pos kp cp:Pos} {j:Nat} (hg:Gl X "enumerate") (hm:X.mg "enumerate" = none) (ha:PA X [a] ta)
  (he:backTo pos (starEach [a] X.env)=(false,eval a X.env) :: backTo pos (starEach [] X.env)) (hpl:(backTo pos (starEach [a] X.env)).any (·.1)=false) :
  PI X (.Tuple ts n tp) (.Call (.Name "enumerate" p) [a] [⟨some "start",.Constant (.int 1) j cp,kp⟩] pos) (iEnum1 X.K ta):=by
 intro pins s σ H R I h
 refine wpAny_Call_Name_kw (ld_blt I hg hm boot_enumerate ?_ (by decide) (by decide))
 refine callType_kw (thn (ha pos pins s σ H _ I h) fun us s1 ⟨vs,H1,I1,r1,q1⟩=>?_) he hpl rfl rfl
 refine PyProof.Rows.kws_cons (wpAny_Constant_int (PyProof.Rows.kws_nil ?_))
 obtain ⟨l,e,⟨xs,hq⟩,q⟩:=q1
 subst e
 cases r1 with
 | cons r rr =>
  cases rr
  have r':_=Value.ref l:=r
  subst r'
  obtain ⟨hz,its,m,rv,hl⟩:=(show ObjOk X.prog X.w H1 s1.heap l (.lst xs) from I1.hok l _ hq)
  have lt:l < s1.heap.objs.size:=Heap.lt_size hl
  refine call_enum1 (s:={ s1 with toks:=s1.toks+1 }) hl fun g en itr kp=>wpAny_pyIter_enum en ?_
  refine ⟨s1.heap.objs.size+1,[s1.heap.objs.size+1,s1.heap.objs.size],_,_,H1,rfl,I1.kept (t':=s1.toks+1) kp,turn_enum1 l _ _ (Nat.succ_ne_self _) (Nat.ne_of_lt (Nat.lt_succ_of_lt lt)) (Nat.ne_of_lt lt),⟨⟨_,en⟩,itr⟩,fun b hb=>?_,q⟩
  rcases List.mem_cons.mp hb with z | z
  ·subst z;exact I1.fpOk (Nat.le_succ _) (I1.hok.fresh (Nat.le_succ _))
  ·rw [List.mem_singleton.mp z];exact I1.fpOk (Nat.le_refl _) (I1.hok.fresh (Nat.le_refl _))
end
section
variable {X:Cx} {G:Ga} {M:MH} {ts:List Expr} {n:Nat} {tp pos kp cp:Pos} {e:Expr} {body:List Stmt} {E:EndsD} {j:Nat}
theorem ex_for_enum1 {p:Pos} (hp:PassesOwn (model X.prog X.w) X.A X.env X.xe) (hc:X.calm=true) (hm:X.mg "enumerate" = none)
  (h:AV X G M [e] fun es M1=>∃ (l:Addr) (ds:List D) (Iv:Nat->Ga->MH->Prop),es=[.ref l]/\M1 l=some (.lst ds)/\Iv 0 G M1/\(∀ i G' M',Iv i G' M'->M' l=some (.lst ds)) /\
   (∀ (i:Nat) d G' M',ds[i]?=some d->Iv i G' M'->GV X G' M' (.Tuple ts n tp) (.tup [.int ((i+1:Nat):Int),d]) fun G3 M3=>EXs X G3 M3 body { nx:=Iv (i+1),ct:=Iv (i+1),bk:=E.nx,rt:=E.rt })/\(∀ G' M',Iv ds.length G' M'->E.nx G' M'))
  (hg:Gl X "enumerate") (he:backTo pos (starEach [e] X.env)=(false,eval e X.env) :: backTo pos (starEach [] X.env)) (hpl:(backTo pos (starEach [e] X.env)).any (·.1)=false)
  (hs:∀ x,foldedSetIterable (.Call (.Name "enumerate" p) [e] [⟨some "start",.Constant (.int 1) j cp,kp⟩] pos) X.env x=pure x) {pos':Pos}:EX X G M (.For (.Tuple ts n tp) (.Call (.Name "enumerate" p) [e] [⟨some "start",.Constant (.int 1) j cp,kp⟩] pos) body [] pos') E:=by
 refine ex_for hp hc (pi_enum1 hg hm (pa_D (G:=G)) he hpl) (fun σ H kf R=>?_) hs
 refine ⟨M,_,R,h,fun vs H' es M' kf' g i R' q=>?_⟩
 obtain ⟨l,ds,Iv,e,hl,h0,keep,step,fin⟩:=q
 subst e
 obtain ⟨v,rfl,hv⟩:=isl1 i
 rw [is_ref] at hv;subst hv
 obtain ⟨xs0,hx0,_⟩:=R'.mem l _ hl
 refine ⟨l,rfl,⟨xs0,hx0⟩,g,M',ds.length,Iv,R',h0,fun i G2 M2 hin w2=>⟨fun e=>fin G2 M2 (by rw [<- e];exact w2),fun σ2 H2 g2 R2=>?_⟩⟩
 obtain ⟨xs,hx,hxi⟩:=R2.mem l _ (keep i G2 M2 w2)
 have hlen:=hxi.len
 have hx2:SqL X.K H2 l xs:=SqL.of hx
 refine ⟨fun e=>⟨xs,hx2,by omega⟩,fun hlt=>⟨⟨xs,xs[i]'(by omega),hx2,by simp⟩,fun x H3 y=>?_⟩⟩
 obtain ⟨T,z,e1,e2,e3,e4⟩:=y
 subst e1;subst e3
 obtain ⟨d,e5,i5⟩:=hxi.get' (e4 xs hx2)
 have gr:=grow_new (o:=.tup [.int ((i+1:Nat):Int),z]) e2
 exact ⟨gr,.tup [.int ((i+1:Nat):Int),d],M2,is_tup.mpr ⟨T,_,rfl,upd_same,isl_cons.mpr ⟨_,_,rfl,is_int.mpr rfl,isl_cons.mpr ⟨_,_,rfl,i5.grow gr,isl_nil.mpr rfl⟩⟩⟩,R2.mem.new e2,step i d G2 M2 e5 w2⟩
end
end D3
namespace D3
open PySem PySem.Spec PyProof.Rows L2
section
variable {P:Program} {w:World} {A:Around} {E:Value->Shared->Prop} {s:Shared}
theorem call_setL {l:Addr} {its:List Value} {n:Nat} {xs:List Str} {Q:Value->Shared->Prop} (hh:A.handled=none) (e:∃ o,s.heap.get? l=some o/\o.cls=.type "list" /\ o.data=.seq its.toArray n) (hx:StrsAre its xs) (hz:xs.length<=100)
  (q:∀ g tk ss o es ep t,SetS P w g s.heap.objs.size ss o es ep t->ss.Nodup->ss.length<=100->(∀ y,y∈ss ↔ y∈xs)->(∀ b o,s.heap.get? b=some o->g.get? b=some o)->Q (.ref s.heap.objs.size) { s with heap:=g,toks:=tk }) :
  wpAny (model P w) A (call (.type "set") [.ref l]) Q E s:=by
 obtain ⟨ol,el,cl,dl⟩:=e
 refine wpAny_call (codeAny_of_tree (wpAny_pure ⟨Code.quiet_builtin _ (by decide +kernel),codeAny_builtin PySem.F.entry_type_call ?_⟩))
 rw [Around.under_plain (weight_type_call_type _ _ _) rfl]
 unfold Builtin.«type.__call__»
 dsimp only
 refine wpAny_ite_false (by rw [PySem.F.called_set.notType];rfl) ?_
 refine wpAny_ite_false (by rw [PySem.F.called_set.canCreate];rfl) ?_
 refine wpAny_bind (wpAny_of_eq (PySem.F.typeCall_set_1 _) ?_)
 obtain ⟨c,tl,hm⟩:=PySem.F.called_set.mro
 refine wpAny_bind (wpAny_of_eq hm ?_)
 refine wpAny_ite_false rfl ?_
 refine wpAny_bind (wpAny_of_eq PySem.F.called_set.made ?_)
 refine wpAny_bind (wpAny_pure ?_)
 refine wpAny_bind (wpAny_holding (wpAny_call (code_set_newL (Q₁:=_) (E:=_) _ ?_)))
 have ed:(s.heap.push { cls:=.type "set",data:=.set #[] 0 (SetTable.fresh 0 0 (!BT w)) }).get? s.heap.objs.size=some { cls:=.type "set",data:=.set #[] 0 (SetTable.fresh 0 0 (!BT w)) }:=Heap.get?_push_size _ rfl
 have el':(s.heap.push { cls:=.type "set",data:=.set #[] 0 (SetTable.fresh 0 0 (!BT w)) }).get? l=some ol:=Heap.get?_push_of_some _ el
 have S0:SetS P w (s.heap.push { cls:=.type "set",data:=.set #[] 0 (SetTable.fresh 0 0 (!BT w)) }) s.heap.objs.size [] { cls:=.type "set",data:=.set #[] 0 (SetTable.fresh 0 0 (!BT w)) } #[] 0 (SetTable.fresh 0 0 (!BT w)) :=
  ⟨ed,⟨rfl,rfl,rfl⟩,rfl,rfl,fun e he=>by simp at he,.nil,.inr rfl,fun z=>by show (!BT w)=true;rw [z];rfl⟩
 refine wpAny_bind (wpAny_isInstance (T := "set") ⟨_,ed,rfl⟩ PySem.F.called_set.sub ?_)
 refine wpAny_ite_false rfl ?_
 refine wpAny_bind (wpAny_holding (wpAny_callSpecial?_slot (T := "set") ⟨_,ed,rfl⟩ PySem.F.called_set.init ?_))
 refine wpAny_call (codeAny_call_builtin PySem.F.called_set.init.plain PySem.F.entry_set_init (check_set_init_1 ⟨_,ed,rfl⟩ ?_))
 show wpAny _ A.in1.in1 (noKeywords "set" _ >>= _) _ _ _
 refine wpAny_bind (wpAny_pure ?_)
 show wpAny _ A.in1.in1 (typeNameOfCut 200 (.ref s.heap.objs.size) >>= _) _ _ _
 refine wpAny_bind ?_
 show wpAny _ A.in1.in1 ((typeOf (.ref s.heap.objs.size) >>= _) >>= _) _ _ _
 refine wpAny_bind (wpAny_bind (wpAny_typeOf_ref ed ?_))
 refine wpAny_ite_false (show decide ((Value.type "set" == Value.type "builtin_function_or_method")=true)=false by decide) ?_
 refine wpAny_pure ?_
 show wpAny _ A.in1.in1 (typeName (.type "set")) _ _ _
 refine wpAny_of_eq (show typeName (.type "set")=pure "set" from by kernel_rfl) ?_
 show wpAny _ A.in1.in1 (checkCount "set" 0 1 1 >>= _) _ _ _
 refine wpAny_bind (wpAny_of_eq (show checkCount "set" 0 1 1=pure () from by kernel_rfl) ?_)
 refine wpAny_bind (wpAny_pure ?_)
 show wpAny _ A.in1.in1 ((setState s.heap.objs.size >>= _) >>= _) _ _ _
 refine wpAny_bind (wpAny_bind (wpAny_setState_of S0.at_ S0.dat S0.fit (wpAny_pure ?_)))
 refine wpAny_ite_false rfl ?_
 refine wpAny_bind ?_
 show wpAny _ A.in1.in1 (Builtin.Frozenset.isAnySet (.ref l) >>= _) _ _ _
 refine wpAny_bind ?_
 show wpAny _ A.in1.in1 (isInstance (.ref l) (.type "set") >>= _) _ _ _
 refine wpAny_bind (wpAny_isInstance (T := "list") ⟨ol,el',cl⟩ (show isSubtype (.type "list") (.type "set")=pure false from by kernel_rfl) ?_)
 show wpAny _ A.in1.in1 (isInstance (.ref l) (.type "frozenset")) _ _ _
 refine wpAny_isInstance (T := "list") ⟨ol,el',cl⟩ (show isSubtype (.type "list") (.type "frozenset")=pure false from by kernel_rfl) ?_
 refine wpAny_ite_false rfl ?_
 refine wpAny_bind (wpAny_typeOf_ref el' ?_)
 rw [cl]
 refine wpAny_ite_false (by decide) ?_
 refine wpAny_bind (wpAny_pyIter_list ⟨ol,el',cl,n,dl⟩ ?_)
 have ltA:l < (s.heap.push { cls:=.type "set",data:=.set #[] 0 (SetTable.fresh 0 0 (!BT w)) }).objs.size:=Heap.lt_size el'
 have ltD:s.heap.objs.size < (s.heap.push { cls:=.type "set",data:=.set #[] 0 (SetTable.fresh 0 0 (!BT w)) }).objs.size:=Heap.lt_size ed
 have W:=PySem.Walks.list (prog:=P) (w:=w) (A:=A.in1.in1.in1) hh (s.heap.push { cls:=.type "set",data:=.set #[] 0 (SetTable.fresh 0 0 (!BT w)) }).objs.size l (Nat.ne_of_lt ltA) its.toArray
 refine wpAny_bind (wpAny_runValue ?_)
 have hlen:its.toArray.size=xs.length:=by rw [List.size_toArray];exact strs_len hx
 refine set_loop W xs (fun i v hv=>?_) (fun z=>?_) hlen (by rw [hlen];exact hz) _ 0 _ [] _ #[] 0 _ rfl (Nat.zero_le _) ⟨⟨_,Heap.get?_push_size _ rfl,rfl,rfl⟩,⟨ol,Heap.get?_push_of_some _ el',cl,n,dl⟩⟩ (S0.keep fun o e=>Heap.get?_push_of_some _ e) (Nat.zero_le _) List.nodup_nil (fun y=>by simp) fun g tk ss o es ep t hS a1 a2 a3 kp=>?_
 ·obtain ⟨x,t,h1,h2⟩:=strs_at hx i v (by simpa using hv)
  exact ⟨x,t,h1,h2⟩
 ·rcases List.mem_cons.mp z with z | z
  ·exact absurd z (Nat.ne_of_lt ltD)
  ·exact absurd (List.mem_singleton.mp z) (Nat.ne_of_gt (Heap.lt_size el))
 ·refine wpAny_pure (wpAny_pure ?_)
  refine wpAny_ite_false rfl ?_
  refine wpAny_pure (q g tk ss o es ep t hS a1 (by rw [hlen] at a2;omega) a3 fun b o e=>kp b o (fun z=>?_) (Nat.ne_of_lt (Heap.lt_size e)) (Heap.get?_push_of_some _ (Heap.get?_push_of_some _ e)))
  have h1:=List.mem_singleton.mp z
  have h2:=Heap.lt_size e
  rw [h1] at h2
  exact absurd (Nat.lt_trans ltD h2) (Nat.lt_irrefl _)
end
section
variable {X:Cx} {G:Ga} {M:MH} {e:Expr} {pos:Pos} {Q:DK}
theorem call_setDL (hc:X.calm=true):CallR X (.type "set") (fun xs H Q=>∃ (a:Addr) (ys:List Str),xs=[.ref a]/\H a=some (.lst (ys.map V.str))/\ys.length<=100/\∀ p ss,H p=none->ss.Nodup->ss.length<=100->(∀ y,y∈ss ↔ y∈ys)->Q (.ref p) (upd H p (.ext (SetW X.prog X.w p ss)))):=by
 intro pins s σ H xs us Q I r h
 obtain ⟨a,ys,rfl,e,hz,q⟩:=h
 obtain ⟨u,rfl,ru⟩:=vals1 r
 cases ru
 obtain ⟨_,its,n,rv,e1⟩:=(show ObjOk X.prog X.w H s.heap a (.lst (ys.map V.str)) from I.hok a _ e)
 refine call_setL (xs:=ys) (n:=n) (I.ok.hd hc) ⟨_,e1,rfl,rfl⟩ (strs_vals rv) hz fun g tk ss o' es ep t hS a1 a2 a3 kp=>?_
 exact ⟨.ref s.heap.objs.size,_,I.laid (t':=tk) (o:=.ext (SetW X.prog X.w s.heap.objs.size ss)) kp (Nat.le_refl _) (SetW.ok ⟨o',es,ep,t,hS⟩),rfl,q _ ss (I.hok.fresh (Nat.le_refl _)) a1 a2 a3⟩
theorem ev_setL {p:Pos} (hc:X.calm=true) (hm:X.mg "set" = none) (h:AV X G M [e] fun ds M1=>∃ (l:Addr) (ys:List Str),ds=[.ref l]/\M1 l=some (.lst (ys.map D.str))/\ys.length<=100/\∀ r ss,M1 r=none->ss.Nodup->ss.length<=100->(∀ y,y∈ss ↔ y∈ys)->Q (.ref r) (mset M1 r (.raw (SetW X.prog X.w r ss)))) (hg:Gl X "set") (he:starEach [e] X.env=(false,eval e X.env) :: starEach [] X.env) (hpl:(backTo pos (starEach ([] : List Expr) X.env)).any (·.1)=false) :
  EV X G M (.Call (.Name "set" p) [e] [] pos) Q :=
 ev_callTy (call_setDL hc) hm bootSet (h.mono fun ds M1 ⟨l,ys,e1,hl,hz,q⟩=>fun H xs kf hx m=>by
  subst e1
  obtain ⟨v,rfl,hv⟩:=isl1 hx
  rw [is_ref] at hv;subst hv
  obtain ⟨vs,ha,hvs⟩:=m l _ hl
  have:=isl_str5 hvs;subst this
  exact ⟨l,ys,rfl,ha,hz,fun r ss hr a1 a2 a3 kf'=>⟨grow_new hr,.ref r,mset M1 r (.raw (SetW X.prog X.w r ss)),is_ref.mpr rfl,m.lay (u:=.raw (SetW X.prog X.w r ss)) hr upd_same,q r ss (m.fresh hr kf') a1 a2 a3⟩⟩) hg (by decide) (by decide) he hpl
end
end D3
namespace KA
open PySem PySem.Spec PyProof.Rows L2 D3 K01
def NoC (c:Nat) (x:Str):Prop:=c∉x.cps.toList
theorem cps_app (a b:Str):(a++b).cps.toList=a.cps.toList++b.cps.toList:=by
 show (a.cps++b.cps).toList=_
 rw [Array.toList_append]
theorem str_cps {a b:Str} (h:a.cps.toList=b.cps.toList):a=b:=s_ext (Array.toList_inj.mp h)
theorem cut_inj {c:Nat}:∀ {p q a b:List Nat},c∉p->c∉q->p++c :: a=q++c :: b->p=q/\a=b
 | [],[],a,b,_,_,h=>by
  simp only [List.nil_append,List.cons.injEq,true_and] at h
  exact ⟨rfl,h⟩
 | [],y :: q,a,b,_,hq,h=>by
  simp only [List.nil_append,List.cons_append,List.cons.injEq] at h
  exact absurd (h.1 ▸ List.mem_cons_self ..) hq
 | x :: p,[],a,b,hp,_,h=>by
  simp only [List.nil_append,List.cons_append,List.cons.injEq] at h
  exact absurd (h.1 ▸ List.mem_cons_self ..) hp
 | x :: p,y :: q,a,b,hp,hq,h=>by
  simp only [List.cons_append,List.cons.injEq] at h
  obtain ⟨e1,e2⟩:=cut_inj (fun z=>hp (List.mem_cons_of_mem _ z)) (fun z=>hq (List.mem_cons_of_mem _ z)) h.2
  exact ⟨by rw [h.1,e1],e2⟩
theorem join_two (c:Nat) (x y:Str) (r:List Str):(Str.join ⟨#[c]⟩ (x :: y :: r)).cps.toList=x.cps.toList++c :: (Str.join ⟨#[c]⟩ (y :: r)).cps.toList:=by
 show (x++⟨#[c]⟩++Str.join ⟨#[c]⟩ (y :: r)).cps.toList=_
 rw [cps_app,cps_app,List.append_assoc]
 rfl
theorem join_inj {c:Nat}:∀ {ps qs:List Str},ps≠[]->qs≠[]->(∀ t∈ps,NoC c t)->(∀ t∈qs,NoC c t)->Str.join ⟨#[c]⟩ ps=Str.join ⟨#[c]⟩ qs->ps=qs
 | [],_,h,_,_,_,_=>absurd rfl h
 | _,[],_,h,_,_,_=>absurd rfl h
 | [x],[y],_,_,_,_,h=>by
  have:x=y:=h
  rw [this]
 | [x],y :: z :: r,_,_,hx,_,h=>by
  have h':x.cps.toList=_:=(congrArg (fun s:Str=>s.cps.toList) h).trans (join_two c y z r)
  exact absurd (by rw [h'];simp) (hx x (List.mem_cons_self ..))
 | x :: z :: r,[y],_,_,_,hy,h=>by
  have h':y.cps.toList=_:=(congrArg (fun s:Str=>s.cps.toList) h.symm).trans (join_two c x z r)
  exact absurd (by rw [h'];simp) (hy y (List.mem_cons_self ..))
 | x :: x' :: r,y :: y' :: r',_,_,hx,hy,h=>by
  have h':=(join_two c x x' r).symm.trans ((congrArg (fun s:Str=>s.cps.toList) h).trans (join_two c y y' r'))
  obtain ⟨e1,e2⟩:=cut_inj (hx x (List.mem_cons_self ..)) (hy y (List.mem_cons_self ..)) h'
  rw [str_cps e1,join_inj (ps:=x' :: r) (qs:=y' :: r') (by simp) (by simp) (fun t ht=>hx t (List.mem_cons_of_mem _ ht)) (fun t ht=>hy t (List.mem_cons_of_mem _ ht)) (str_cps e2)]
theorem parts_len (x:Str) (cuts:List Nat) (w:Nat):(Builtin.Str.partsBetween x cuts w).length=cuts.length+1:=by
 simp [Builtin.Str.partsBetween]
theorem parts_le (x:Str) (y:Str) (w:Nat):(Builtin.Str.partsBetween x (Builtin.Str.occurrences x y 0 x.length (x.length+1)) w).length<=x.length+2:=by
 rw [parts_len]
 have:=StrLaws.occ_length_le x y 0 x.length (x.length+1)
 omega
theorem split_ne (x:Str) (c:Nat):Txt.split x ⟨#[c]⟩≠[]:=by
 intro h
 unfold Txt.split at h
 split at h
 ·cases h
 ·split at h
  ·cases h
  ·have:=congrArg List.length h
   rw [parts_len] at this
   simp at this
theorem split_join {c:Nat} {ts:List Str} (h0:ts≠[]) (hn:∀ t∈ts,NoC c t):Txt.split (Str.join ⟨#[c]⟩ ts) ⟨#[c]⟩=ts :=
 join_inj (split_ne _ _) h0 (StrLaws.split_free _ c) hn (StrLaws.join_split _ _)
end KA
namespace KA
open PySem PySem.Spec PyProof.Rows L2 D3 K01
theorem nT_cps (m:Nat):(nT (m:Int)).cps.toList=(Nat.toDigits 10 m).map Char.toNat:=PySem.W.KIN.signs_num m
theorem nT_digits (m:Nat):NumText.AllDigits (nT (m:Int)).cps.toList:=by
 intro c hc
 rw [nT_cps] at hc
 obtain ⟨ch,hch,e⟩:=List.mem_map.mp hc
 have r:=digit_range (Nat.isDigit_of_mem_toDigits (by decide) (by decide) hch)
 rw [<- e]
 exact r
theorem nT_ne (m:Nat):(nT (m:Int)).cps.toList≠[]:=by
 rw [nT_cps]
 intro e
 have h:=toDigits_len_ge 10 m
 rw [List.map_eq_nil_iff.mp e] at h
 exact absurd h (by decide)
theorem nT_minus {m:Nat} (h:0 < m):nT (-(m:Int))=Str.ofString "-" ++ nT (m:Int):=by
 refine str_cps ?_
 rw [cps_app]
 unfold nT
 rw [signs_ofString,signs_ofString,signs_ofString]
 obtain ⟨k,rfl⟩:∃ k,m=k+1:=⟨m - 1,by omega⟩
 have e1:toString (-((k+1:Nat):Int)) = "-" ++ toString ((k+1:Nat):Int):=rfl
 rw [e1,String.toList_append,List.map_append]
theorem lead_ne:∀ m:Nat,0 < m->∃ c r,Nat.toDigits 10 m=c :: r/\c≠'0':=by
 intro m
 induction m using Nat.strongRecOn with
 | _ m ih =>
  intro hm
  by_cases h:m < 10
  ·rw [Nat.toDigits_of_lt_base h]
   refine ⟨_,[],rfl,?_⟩
   have:∀ d:Nat,d < 10->0 < d->Nat.digitChar d≠'0':=by decide
   exact this m h hm
  ·have hr:m % 10 < 10:=Nat.mod_lt m (by decide)
   have t:Nat.toDigits 10 (m / 10)++Nat.toDigits 10 (m % 10)=Nat.toDigits 10 (10 * (m / 10)+m % 10):=Nat.toDigits_append_toDigits (by decide) (by omega) hr
   rw [Nat.div_add_mod] at t
   obtain ⟨c,r,e,hc⟩:=ih (m / 10) (by omega) (by omega)
   exact ⟨c,r++Nat.toDigits 10 (m % 10),by rw [<- t,e];rfl,hc⟩
theorem nT_lead {m:Nat} (h:0 < m):∃ c r,(nT (m:Int)).cps.toList=c :: r/\c≠48:=by
 obtain ⟨c,r,e,hc⟩:=lead_ne m h
 refine ⟨c.toNat,r.map Char.toNat,by rw [nT_cps,e];rfl,fun z=>hc ?_⟩
 have:c=Char.ofNat 48:=by rw [<- z];exact (Char.ofNat_toNat c).symm
 exact this
theorem nT_len640 {m:Nat} (h:m < 2 ^ 66):(nT (m:Int)).length<=30:=by
 have e:(nT (m:Int)).length=(Nat.toDigits 10 m).length:=by
  have:=congrArg List.length (nT_cps m)
  rw [List.length_map] at this
  exact this
 rw [e]
 exact digits10_le (by decide) (Nat.lt_of_lt_of_le h (by decide))
theorem nT_len66 {i:Int} (h:B 65 i):(nT i).length<=31:=by
 have hn:i.natAbs < 2 ^ 65:=h
 rcases Int.le_total 0 i with h0 | h0
 ·obtain ⟨m,rfl⟩:=Int.eq_ofNat_of_zero_le h0
  have:=nT_len640 (m:=m) (by have:((m:Int)).natAbs=m:=rfl;omega)
  omega
 ·by_cases hz:i=0
  ·subst hz;decide +kernel
  ·obtain ⟨m,hm⟩:∃ m:Nat,i=-(m:Int):=⟨i.natAbs,by omega⟩
   subst hm
   have hm0:0 < m:=by omega
   rw [nT_minus hm0,slen]
   have:=nT_len640 (m:=m) (by omega)
   have e:(Str.ofString "-").length=1:=by decide +kernel
   omega
theorem nT_reads {i:Int} (h:B 65 i):PySem.intText? (nT i)=some i:=by
 have hl:=nT_len66 h
 rcases Int.le_total 0 i with h0 | h0
 ·obtain ⟨m,rfl⟩:=Int.eq_ofNat_of_zero_le h0
  have e:=intText_digits (nT_digits m) (nT_ne m) (by omega)
  rw [nT_cps,PySem.W.KIN.val_back] at e
  exact e
 ·by_cases hz:i=0
  ·subst hz
   have e:=intText_digits (nT_digits 0) (nT_ne 0) (by decide +kernel)
   rw [nT_cps,PySem.W.KIN.val_back] at e
   exact e
  ·obtain ⟨m,hm⟩:∃ m:Nat,i=-(m:Int):=⟨i.natAbs,by omega⟩
   subst hm
   have hm0:0 < m:=by omega
   have hx:(nT (-(m:Int))).cps.toList=45 :: (nT (m:Int)).cps.toList:=by
    rw [nT_minus hm0,cps_app];rfl
   have e:=intText_neg hx (nT_digits m) (nT_ne m) (by omega)
   rw [nT_cps,PySem.W.KIN.val_back] at e
   exact e
end KA
namespace KA
open PySem PySem.Spec PyProof.Rows L2 D3 K01
def spc:Str:=⟨#[32]⟩
theorem spc_eq:Str.ofString " " = spc:=by decide +kernel
def jn (ts:List Str):Str:=Str.join spc ts
theorem jn_cons (a:Str):∀ {ts:List Str},ts≠[]->jn (a :: ts)=a++spc++jn ts
 | [],h=>absurd rfl h
 | b :: r,_=>rfl
theorem jn_one (a:Str):jn [a]=a:=rfl
theorem jn_app {ys:List Str} (hy:ys≠[]):∀ {xs:List Str},xs≠[]->jn (xs++ys)=jn xs++spc++jn ys
 | [],h=>absurd rfl h
 | [a],_=>jn_cons a hy
 | a :: b :: r,_=>by
  show jn (a :: (b :: r++ys))=_
  rw [jn_cons a (by simp),jn_app hy (xs:=b :: r) (by simp),jn_cons a (ts:=b :: r) (by simp),sapp,sapp,sapp,sapp,sapp]
abbrev Pn:=Int × Option Str
def sgn (k:Int):Str:=if 0 < k then "+" else "-"
def abT (k:Int):Str:=nT (k.natAbs:Nat)
def sfx:Option Str->Str
 | none=>Str.ofString ""
 | some x=>Str.ofString " " ++ x
def tkP (p:Pn):List Str:=sgn p.1 :: abT p.1 :: p.2.toList
def ptO (ts:List (Str × Int)) (w:Int):List Pn:=(ts.map fun t=>(t.2,some t.1))++(if w≠0\/ts=[] then [(w,none)] else [])
theorem ptO_T (ts:List (Str × Int)) (w:Int):ptsT ts w=(ptO ts w).map fun p=>(p.1,sfx p.2):=by
 unfold ptsT ptO
 rw [List.map_append,List.map_map]
 congr 1
 split<;>rfl
def tkA (ts:List (Str × Int)) (w:Int):List Str:=match ptO ts w with
 | []=>[]
 | p :: r=>(nT p.1 :: p.2.toList)++r.flatMap tkP
theorem jn_pn (a b:Str) (o:Option Str):jn (a :: b :: o.toList)=a++spc++b++sfx o:=by
 cases o with
 | none=>rw [jn_cons a (by simp)];show a++spc++jn [b]=_;rw [jn_one];exact (s_nil _).symm
 | some x =>
  rw [jn_cons a (by simp)]
  show a++spc++jn [b,x]=_
  rw [jn_cons b (by simp),jn_one]
  show _=a++spc++b++(Str.ofString " " ++ x)
  rw [spc_eq,sapp (a++spc),sapp b]
theorem sgT_eq (k:Int):sgT k=spc++sgn k++spc:=by
 unfold sgT sgn
 split<;>decide +kernel
theorem onT_jn:∀ (r:List Pn) (t:Str) (toks:List Str),toks≠[]->t=jn toks->onT t (r.map fun p=>(p.1,sfx p.2))=jn (toks++r.flatMap tkP)
 | [],t,toks,_,h=>by simp [onT,h]
 | p :: r,t,toks,h0,h=>by
  rw [List.map_cons]
  show onT (t++sgT p.1++nT (p.1.natAbs:Nat)++sfx p.2) _=_
  rw [onT_jn r _ (toks++tkP p) (by simp [h0]) ?_,List.flatMap_cons,List.append_assoc]
  unfold tkP
  rw [jn_app (by simp) h0,jn_pn,<- h,sgT_eq]
  unfold abT
  simp only [sapp]
theorem addT_jn {ts:List (Str × Int)} {w:Int}:addT ts w=jn (tkA ts w):=by
 unfold addT tkA
 rw [ptO_T]
 cases ptO ts w with
 | nil=>rfl
 | cons p r =>
  rw [List.map_cons]
  show onT (nT p.1++sfx p.2) _=_
  refine onT_jn r _ (nT p.1 :: p.2.toList) (by simp) ?_
  cases p.2 with
  | none=>exact s_nil _
  | some x=>show nT p.1++(Str.ofString " " ++ x)=jn [nT p.1,x];rw [jn_cons _ (by simp),jn_one,spc_eq,sapp]
theorem ptO_ne (ts:List (Str × Int)) (w:Int):ptO ts w≠[]:=by
 unfold ptO
 cases ts with
 | nil=>simp
 | cons t r=>simp
theorem tkA_ne (ts:List (Str × Int)) (w:Int):tkA ts w≠[]:=by
 unfold tkA
 cases h:ptO ts w with
 | nil=>exact absurd h (ptO_ne ts w)
 | cons p r=>simp
def tkR (r:Rw):List Str:=tkA r.2.1 0++[sigT r.1,nT r.2.2]
theorem rowT_jn (r:Rw):rowT r=jn (tkR r):=by
 unfold rowT tkR
 rw [jn_app (by simp) (tkA_ne _ _),addT_jn,spc_eq,jn_cons _ (by simp),jn_one]
 simp only [sapp]
def tkS (s:Sm):List Str:=tkA s.1 s.2.1++(if s.2.2 > 1 then [Str.ofString "over",nT s.2.2] else [])
theorem over_eq:Str.ofString " over " = spc++Str.ofString "over" ++ spc:=by decide +kernel
theorem sumT_jn (s:Sm):sumT s=jn (tkS s):=by
 unfold sumT tkS
 split
 ·rw [jn_app (by simp) (tkA_ne _ _),addT_jn,jn_cons _ (by simp),jn_one,over_eq]
  simp only [sapp]
 ·rw [List.append_nil,addT_jn]
theorem tkR_ne (r:Rw):tkR r≠[]:=by unfold tkR;simp
theorem tkS_ne (s:Sm):tkS s≠[]:=by unfold tkS;simp [tkA_ne]
def tkRs:List Rw->List Str
 | []=>[]
 | [r]=>tkR r
 | r :: l=>tkR r++Str.ofString "and" :: tkRs l
theorem and_eq:Str.ofString " and " = spc++Str.ofString "and" ++ spc:=by decide +kernel
theorem tkRs_ne:∀ {rs:List Rw},rs≠[]->tkRs rs≠[]
 | [],h=>absurd rfl h
 | [r],_=>tkR_ne r
 | r :: s :: l,_=>by simp [tkRs]
theorem rowsT_jn:∀ {rs:List Rw},rs≠[]->rowsT rs=jn (tkRs rs):=by
 intro rs h
 show Txt.join " and " (rs.map rowT)=_
 show Builtin.Str.glued _ _=_
 rw [StrLaws.glued_eq_join]
 have key:∀ rs:List Rw,rs≠[]->Str.join (Str.ofString " and ") (rs.map rowT)=jn (tkRs rs):=by
  intro rs
  induction rs with
  | nil=>intro h;exact absurd rfl h
  | cons r l ih =>
   intro _
   cases l with
   | nil=>exact rowT_jn r
   | cons s l =>
    have:=ih (by simp)
    show rowT r++Str.ofString " and " ++ Str.join (Str.ofString " and ") ((s :: l).map rowT)=jn (tkR r++Str.ofString "and" :: tkRs (s :: l))
    rw [this,rowT_jn,jn_app (by simp) (tkR_ne r),jn_cons _ (tkRs_ne (by simp)),and_eq]
    simp only [sapp]
 exact key rs h
end KA
namespace KA
open PySem PySem.Spec PyProof.Rows L2 D3 K01
structure Tok1 (t:Str):Prop where
 ne:t.cps.toList≠[]
 ge:∀ c∈t.cps.toList,43<=c/\c<=126
theorem Tok1.noc {t:Str} (h:Tok1 t) {c:Nat} (hc:c < 43):NoC c t:=fun z=>by have:=h.ge c z;omega
theorem Tok1.num (i:Int):Tok1 (nT i):=by
 have key:∀ m:Nat,Tok1 (nT (m:Int)):=fun m=>⟨nT_ne m,fun c hc=>by have:=nT_digits m c hc;omega⟩
 rcases Int.le_total 0 i with h0 | h0
 ·obtain ⟨m,rfl⟩:=Int.eq_ofNat_of_zero_le h0
  exact key m
 ·by_cases hz:i=0
  ·subst hz;exact key 0
  ·obtain ⟨m,hm⟩:∃ m:Nat,i=-(m:Int):=⟨i.natAbs,by omega⟩
   subst hm
   have hm0:0 < m:=by omega
   rw [nT_minus hm0]
   refine ⟨by rw [cps_app];simp [(key m).ne],fun c hc=>?_⟩
   rw [cps_app] at hc
   rcases List.mem_append.mp hc with hc | hc
   ·have:c∈[45]:=hc
    simp at this
    omega
   ·exact (key m).ge c hc
theorem Tok1.letter {x:Str} (h:Letter x):Tok1 x:=by
 obtain ⟨d,h1,h2,rfl⟩:=h
 refine ⟨by simp,fun c hc=>?_⟩
 have:c∈[d]:=hc
 simp at this
 omega
theorem Tok1.sgn (k:Int):Tok1 (sgn k):=by
 unfold KA.sgn
 split<;>exact ⟨by decide +kernel,by decide +kernel⟩
theorem Tok1.sig (k:Bool):Tok1 (sigT k):=by
 cases k<;>exact ⟨by decide +kernel,by decide +kernel⟩
def Toks (ts:List Str):Prop:=∀ t∈ts,Tok1 t
theorem Toks.app {a b:List Str} (h1:Toks a) (h2:Toks b):Toks (a++b):=fun t ht=>(List.mem_append.mp ht).elim (h1 t) (h2 t)
theorem Toks.cons {a:Str} {b:List Str} (h1:Tok1 a) (h2:Toks b):Toks (a :: b):=fun t ht=>(List.mem_cons.mp ht).elim (fun e=>e ▸ h1) (h2 t)
theorem Toks.nil:Toks []:=fun t ht=>by cases ht
theorem toks_P {p:Pn} (h:∀ x,p.2=some x->Letter x):Toks (tkP p):=by
 refine Toks.cons (Tok1.sgn _) (Toks.cons (Tok1.num _) fun t ht=>?_)
 cases e:p.2 with
 | none=>rw [e] at ht;cases ht
 | some x =>
  rw [e] at ht
  rw [List.mem_singleton.mp ht]
  exact Tok1.letter (h x e)
theorem ptO_letter {ts:List (Str × Int)} {w:Int} (h:∀ t∈ts,Letter t.1):∀ p∈ptO ts w,∀ x,p.2=some x->Letter x:=by
 intro p hp x hx
 unfold ptO at hp
 rcases List.mem_append.mp hp with hp | hp
 ·obtain ⟨t,ht,rfl⟩:=List.mem_map.mp hp
  cases hx
  exact h t ht
 ·split at hp
  ·rw [List.mem_singleton.mp hp] at hx;cases hx
  ·cases hp
theorem toks_A {ts:List (Str × Int)} {w:Int} (h:∀ t∈ts,Letter t.1):Toks (tkA ts w):=by
 unfold tkA
 have hl:=ptO_letter (w:=w) h
 cases e:ptO ts w with
 | nil=>exact Toks.nil
 | cons p r =>
  rw [e] at hl
  refine Toks.app (Toks.cons (Tok1.num _) fun t ht=>?_) fun t ht=>?_
  ·have:=toks_P (hl p (List.mem_cons_self ..)) t
   exact this (List.mem_cons_of_mem _ (List.mem_cons_of_mem _ ht))
  ·obtain ⟨q,hq,ht⟩:=List.mem_flatMap.mp ht
   exact toks_P (hl q (List.mem_cons_of_mem _ hq)) t ht
theorem toks_R {r:Rw} (h:∀ t∈r.2.1,Letter t.1):Toks (tkR r):=Toks.app (toks_A h) (Toks.cons (Tok1.sig _) (Toks.cons (Tok1.num _) Toks.nil))
theorem tok_over:Tok1 (Str.ofString "over"):=⟨by decide +kernel,by decide +kernel⟩
theorem tok_and:Tok1 (Str.ofString "and"):=⟨by decide +kernel,by decide +kernel⟩
theorem toks_S {s:Sm} (h:∀ t∈s.1,Letter t.1):Toks (tkS s):=by
 unfold tkS
 refine Toks.app (toks_A h) ?_
 split
 ·exact Toks.cons tok_over (Toks.cons (Tok1.num _) Toks.nil)
 ·exact Toks.nil
theorem toks_Rs:∀ {rs:List Rw},(∀ r∈rs,∀ t∈r.2.1,Letter t.1)->Toks (tkRs rs)
 | [],_=>Toks.nil
 | [r],h=>toks_R (h r (List.mem_cons_self ..))
 | r :: s :: l,h=>Toks.app (toks_R (h r (List.mem_cons_self ..))) (Toks.cons tok_and (toks_Rs fun q hq=>h q (List.mem_cons_of_mem _ hq)))
theorem split_toks {ts:List Str} (h0:ts≠[]) (h:Toks ts):Txt.split (jn ts) spc=ts:=split_join h0 fun t ht=>(h t ht).noc (by decide)
theorem jn_cps {ts:List Str} (h:Toks ts):∀ c∈(jn ts).cps.toList,c=32\/43<=c:=by
 induction ts with
 | nil=>intro c hc;cases hc
 | cons a r ih =>
  intro c hc
  cases r with
  | nil=>exact .inr ((h a (List.mem_cons_self ..)).ge c hc).1
  | cons b r =>
   rw [jn_cons a (by simp),cps_app,cps_app] at hc
   rcases List.mem_append.mp hc with hc | hc
   ·rcases List.mem_append.mp hc with hc | hc
    ·exact .inr ((h a (List.mem_cons_self ..)).ge c hc).1
    ·have:c∈[32]:=hc
     exact .inl (List.mem_singleton.mp this)
   ·exact ih (fun t ht=>h t (List.mem_cons_of_mem _ ht)) c hc
theorem jn_head {ts:List Str} (h0:ts≠[]) (h:Toks ts):∃ c r,(jn ts).cps.toList=c :: r/\c≠32:=by
 cases ts with
 | nil=>exact absurd rfl h0
 | cons a r =>
  have ha:=h a (List.mem_cons_self ..)
  obtain ⟨c,l,e⟩:∃ c l,a.cps.toList=c :: l:=by
   cases e:a.cps.toList with
   | nil=>exact absurd e ha.ne
   | cons c l=>exact ⟨c,l,rfl⟩
  have hc:=ha.ge c (by rw [e];exact List.mem_cons_self ..)
  cases r with
  | nil=>exact ⟨c,l,e,by omega⟩
  | cons b r =>
   rw [jn_cons a (by simp),cps_app,cps_app,e]
   exact ⟨c,_,rfl,by omega⟩
theorem foldl_app:∀ (l:List (Array Nat)) (a:Array Nat),(l.foldl (·++·) a).toList=a.toList++(l.map Array.toList).flatten
 | [],a=>by simp
 | x :: l,a=>by
  rw [List.foldl_cons,foldl_app l,Array.toList_append,List.map_cons,List.flatten_cons,List.append_assoc]
theorem ind_cps (d:Nat):∀ c∈(ind d).cps.toList,c=32:=by
 intro c hc
 unfold ind repS at hc
 have e:=foldl_app (List.replicate d (Str.ofString "  ").cps) #[]
 rw [show ((⟨(List.replicate d (Str.ofString "  ").cps).foldl (·++·) #[]⟩:Str).cps.toList)=_ from e] at hc
 simp only [List.nil_append,Array.toList_empty] at hc
 obtain ⟨l,hl,hc⟩:=List.mem_flatten.mp hc
 obtain ⟨a,ha,rfl⟩:=List.mem_map.mp hl
 rw [List.eq_of_mem_replicate ha] at hc
 have:c∈[32,32]:=hc
 simp at this
 exact this
theorem takeWhile_pre {p:Nat->Bool}:∀ {a b:List Nat},(∀ c∈a,p c=true)->(∀ c r,b=c :: r->p c=false)->(a++b).takeWhile p=a
 | [],b,_,h=>by
  cases b with
  | nil=>rfl
  | cons c r=>simp [List.takeWhile_cons,h c r rfl]
 | x :: a,b,h1,h2=>by
  rw [List.cons_append,List.takeWhile_cons,if_pos (h1 x (List.mem_cons_self ..)),takeWhile_pre (fun c hc=>h1 c (List.mem_cons_of_mem _ hc)) h2]
theorem lstrip_pre {p z:Str} (hp:∀ c∈p.cps.toList,c=32) (hz:∃ c r,z.cps.toList=c :: r/\c≠32):Txt.lstripChars (p++z) spc=z:=by
 have hlo:stripLo spc.cps.contains true (p++z)=p.length:=by
  have:stripLo spc.cps.contains true (p++z)=((p++z).cps.toList.takeWhile spc.cps.contains).length:=by simp [stripLo]
  rw [this,cps_app,takeWhile_pre]
  ·rfl
  ·intro c hc
   rw [hp c hc];decide +kernel
  ·intro c r e
   obtain ⟨c',r',e',hne⟩:=hz
   rw [e] at e'
   cases e'
   show spc.cps.contains c=false
   simp [spc,hne]
 have hhi:stripHi spc.cps.contains false (p++z) (stripLo spc.cps.contains true (p++z))=(p++z).length:=by simp [stripHi]
 have hs:stripped spc.cps.contains true false (p++z)=z:=by
  unfold stripped
  rw [hhi,hlo]
  refine str_cps ?_
  show ((p++z).cps.extract p.length (p++z).length).toList=_
  rw [Array.toList_extract,cps_app]
  have hl:(p++z).length=p.cps.toList.length+z.cps.toList.length:=by rw [slen];rfl
  have hl2:p.length=p.cps.toList.length:=rfl
  rw [hl,hl2]
  simp [List.extract]
  exact List.take_of_length_le (by simp)
 show Txt.stripBy _ true false _=_
 unfold Txt.stripBy
 split
 ·rename_i h
  unfold stripSame at h
  rw [Bool.and_eq_true,hlo] at h
  have h0:p.length=0:=by simpa using h.1
  have:p=⟨#[]⟩:=s_ext (Array.eq_empty_of_size_eq_zero h0)
  rw [this]
  exact s_ext (by show #[]++z.cps=z.cps;simp)
 ·exact hs
end KA
namespace D3
open PySem PySem.Spec PyProof.Rows L2
section
variable {X:Cx} {G:Ga} {M:MH} {e:Expr} {pos:Pos} {Q:DK}
theorem call_lenS:CallR X (.builtin "len") (fun xs H Q=>∃ z:Str,xs=[.str z]/\z.length<=sizeLine/\Q (.int (z.length:Nat)) H):=by
 intro pins s σ H xs us Q I r h
 obtain ⟨z,rfl,hz,q⟩:=h
 obtain ⟨u,rfl,ru⟩:=vals1 r
 obtain ⟨t,rfl⟩:=(show ∃ t,u=Value.str z t from ru)
 exact PyProof.Rows.len_str (by rw [sizeLine_eq] at hz;omega) ⟨.int _,H,(I.tok _),⟨_,rfl⟩,q⟩
theorem ev_lenS {p:Pos} (hm:X.mg "len" = none) (h:AV X G M [e] fun ds M1=>∃ z:Str,ds=[.str z]/\z.length<=sizeLine/\Q (.int (z.length:Nat)) M1) (hg:Gl X "len")
  (he:starEach [e] X.env=(false,eval e X.env) :: starEach [] X.env) (hpl:(backTo pos (starEach ([] : List Expr) X.env)).any (·.1)=false):EV X G M (.Call (.Name "len" p) [e] [] pos) Q :=
 ev_callB call_lenS hm bootLen (h.mono fun ds M1 ⟨z,e1,hz,q⟩=>fun H xs kf hx m=>by
  subst e1
  obtain ⟨v,rfl,hv⟩:=isl1 hx
  rw [is_str] at hv;subst hv
  exact ⟨z,rfl,hz,fun _=>⟨Grow.refl _,_,M1,is_int.mpr rfl,m,q⟩⟩) hg (by decide) (by decide) he hpl
end
end D3
namespace KA
open PySem PySem.Spec PyProof.Rows L2 D3 K01
def cd1 (x:Str):Nat:=x.cps.getD 0 0
theorem letter_cd {x:Str} (h:Letter x):x=⟨#[cd1 x]⟩/\97<=cd1 x/\cd1 x<=122:=by
 obtain ⟨c,h1,h2,rfl⟩:=h
 exact ⟨rfl,h1,h2⟩
theorem lt_one (a b:Nat):ltCps [a] [b]=decide (a < b):=by
 simp [ltCps]
theorem rise_le:∀ {xs:List Str} {p:Str},Letter p->(∀ x∈xs,Letter x)->risingS p xs=true->(p :: xs).Pairwise fun a b=>cd1 a<=cd1 b
 | [],p,_,_,_=>by simp
 | x :: r,p,hp,hx,h=>by
  have hx0:=hx x (List.mem_cons_self ..)
  unfold risingS at h
  rw [Bool.and_eq_true] at h
  have ih:=rise_le hx0 (fun y hy=>hx y (List.mem_cons_of_mem _ hy)) h.2
  have h1:cd1 p<=cd1 x:=by
   have h1:=h.1
   rw [(letter_cd hp).1,(letter_cd hx0).1] at h1
   have:ltCps [cd1 x] [cd1 p]=false:=by simpa using h1
   rw [lt_one] at this
   simpa using this
  rw [List.pairwise_cons]
  refine ⟨fun y hy=>?_,ih⟩
  rcases List.mem_cons.mp hy with rfl | hy
  ·exact h1
  ·exact Nat.le_trans h1 ((List.pairwise_cons.mp ih).1 y hy)
theorem sort_le {xs:List Str} (hx:∀ x∈xs,Letter x) (h:sortedS xs=true):xs.Pairwise fun a b=>cd1 a<=cd1 b:=by
 cases xs with
 | nil=>simp
 | cons x r=>exact rise_le (hx x (List.mem_cons_self ..)) (fun y hy=>hx y (List.mem_cons_of_mem _ hy)) h
structure Up1 (xs:List Str):Prop where
 lett:∀ x∈xs,Letter x
 up:xs.Pairwise fun a b=>cd1 a < cd1 b
theorem Up1.nodup {xs:List Str} (h:Up1 xs):xs.Nodup:=h.up.imp fun hab e=>by rw [e] at hab;exact Nat.lt_irrefl _ hab
theorem up_same:∀ {xs ys:List Str},Up1 xs->(∀ y∈ys,Letter y)->ys.Nodup->ys.Pairwise (fun a b=>cd1 a<=cd1 b)->(∀ z,z∈ys ↔ z∈xs)->ys=xs
 | [],[],_,_,_,_,_=>rfl
 | [],y :: _,_,_,_,_,h=>by have:=(h y).mp (List.mem_cons_self ..);cases this
 | x :: _,[],_,_,_,_,h=>by have:=(h x).mpr (List.mem_cons_self ..);cases this
 | x :: xs,y :: ys,hx,hy,hn,ho,h=>by
  have hxp:=List.pairwise_cons.mp hx.up
  have hyp:=List.pairwise_cons.mp ho
  have hny:=List.nodup_cons.mp hn
  have e:y=x:=by
   have h1:cd1 x<=cd1 y:=by
    rcases List.mem_cons.mp ((h y).mp (List.mem_cons_self ..)) with e | z
    ·rw [e];exact Nat.le_refl _
    ·exact Nat.le_of_lt (hxp.1 y z)
   have h2:cd1 y<=cd1 x:=by
    rcases List.mem_cons.mp ((h x).mpr (List.mem_cons_self ..)) with e | z
    ·rw [e];exact Nat.le_refl _
    ·exact hyp.1 x z
   rw [(letter_cd (hy y (List.mem_cons_self ..))).1,(letter_cd (hx.lett x (List.mem_cons_self ..))).1,Nat.le_antisymm h2 h1]
  subst e
  have hnx:y∉xs:=(List.nodup_cons.mp hx.nodup).1
  rw [up_same (xs:=xs) (ys:=ys) ⟨fun z hz=>hx.lett z (List.mem_cons_of_mem _ hz),hxp.2⟩ (fun z hz=>hy z (List.mem_cons_of_mem _ hz)) hny.2 hyp.2 fun z=>?_]
  constructor
  ·intro hz
   rcases List.mem_cons.mp ((h z).mp (List.mem_cons_of_mem _ hz)) with e | q
   ·rw [e] at hz;exact absurd hz hny.1
   ·exact q
  ·intro hz
   rcases List.mem_cons.mp ((h z).mpr (List.mem_cons_of_mem _ hz)) with e | q
   ·rw [e] at hz;exact absurd hz hnx
   ·exact q
theorem up_sorted {xs ss ss':List Str} (hx:Up1 xs) (hn:ss.Nodup) (hm:∀ y,y∈ss ↔ y∈xs) (hp:ss'.Perm ss) (hs:sortedS ss'=true):ss'=xs:=by
 have hl:∀ y∈ss',Letter y:=fun y hy=>hx.lett y ((hm y).mp (hp.mem_iff.mp hy))
 exact up_same hx hl (hp.nodup_iff.mpr hn) (sort_le hl hs) fun z=>(hp.mem_iff (a:=z)).trans (hm z)
theorem Up1.sub {xs ys:List Str} (h:Up1 ys) (k:xs.Sublist ys):Up1 xs:=⟨fun x hx=>h.lett x (k.subset hx),h.up.sublist k⟩
theorem up_of {xs:List Str} (hl:∀ x∈xs,Letter x) (hn:xs.Nodup) (hs:sortedS xs=true):Up1 xs:=by
 refine ⟨hl,?_⟩
 have h1:=sort_le hl hs
 have h2:xs.Pairwise fun a b=>a≠b:=hn
 refine (h1.and h2).imp_of_mem fun {a b} ha hb ⟨q1,q2⟩=>?_
 rcases Nat.lt_or_ge (cd1 a) (cd1 b) with h | h
 ·exact h
 ·exact absurd (by rw [(letter_cd (hl a ha)).1,(letter_cd (hl b hb)).1,Nat.le_antisymm q1 h]) q2
structure RdT (ts:List (Str × Int)):Prop where
 up:Up1 (ts.map (·.1))
 wt:∀ t∈ts,t.2≠0/\B 64 t.2
 len:ts.length<=6
theorem RdT.lett {ts:List (Str × Int)} (h:RdT ts):∀ t∈ts,Letter t.1:=fun t ht=>h.up.lett _ (List.mem_map_of_mem ht)
def RdR (r:Rw):Prop:=RdT r.2.1/\B 64 r.2.2
def RdS (s:Sm):Prop:=RdT s.1/\B 64 s.2.1/\0 < s.2.2/\B 64 s.2.2
def RdRs (rs:List Rw):Prop:=rs.length<=2/\∀ r∈rs,RdR r
def strsL (ts:List Str):MO:=.lst (ts.map D.str)
def spMustR:SpD:=fun ds M Q=>∃ n:Int,ds=[.bl true,.int n]/\Q .non M
def spIsName:SpD:=fun ds M Q=>∃ x,ds=[.str x]/\Letter x/\Q (.bl true) M
def spAbove:SpD:=fun ds M Q=>∃ m:Nat,ds=[.str (nT (m:Int))]/\0 < m/\m < 2 ^ 65/\∀ M',Ext M M'->Q (.bl true) M'
def spWholeR:SpD:=fun ds M Q=>∃ i n:Int,ds=[.str (nT i),.int n]/\B 65 i/\∀ M',Ext M M'->Q (.int i) M'
def spWeightR:SpD:=fun ds M Q=>∃ (l:Addr) (k n:Int) (r:List Str),ds=[.ref l,.int n]/\M l=some (strsL (sgn k :: abT k :: r))/\k≠0/\B 64 k/\∀ M',Ext M M'->Q (.int k) M'
def spTermR:SpD:=fun ds M Q=>∃ (l:Addr) (t:Str × Int) (n:Int),ds=[.ref l,.int n]/\M l=some (strsL (tkP (t.2,some t.1)))/\Letter t.1/\t.2≠0/\B 64 t.2/\∀ M',Ext M M'->Q (.tup [.str t.1,.int t.2]) M'
def spOrderR:SpD:=fun ds M Q=>∃ (l:Addr) (xs:List Str) (n:Int),ds=[.ref l,.int n]/\M l=some (strsL xs)/\Up1 xs/\xs.length<=50/\∀ M',Ext M M'->Q .non M'
def spAddedR:SpD:=fun ds M Q=>∃ (l:Addr) (ts:List (Str × Int)) (w n:Int),ds=[.ref l,.int n]/\M l=some (strsL (tkA ts w))/\RdT ts/\B 64 w/\∀ M',Ext M M'->Q (.tup [trm ts,.int w]) M'
def spSumR:SpD:=fun ds M Q=>∃ (l:Addr) (s:Sm) (n:Int),ds=[.ref l,.int n]/\M l=some (strsL (tkS s))/\RdS s/\∀ M',Ext M M'->Q (smD s) M'
def spRowR:SpD:=fun ds M Q=>∃ (l:Addr) (r:Rw) (n:Int),ds=[.ref l,.int n]/\M l=some (strsL (tkR r))/\RdR r/\∀ M',Ext M M'->Q (rwD r) M'
def spRowsR:SpD:=fun ds M Q=>∃ (l:Addr) (rs:List Rw) (n:Int),ds=[.ref l,.int n]/\M l=some (strsL (tkRs rs))/\rs≠[]/\RdRs rs/\∀ M',Ext M M'->Q (.tup (rs.map rwD)) M'
end KA
namespace KA
open PySem PySem.Spec PyProof.Rows L2 D3 K01
theorem nT_zero:nT 0=Str.ofString "0" := by decide +kernel
theorem nT_not0 {i:Int} (h:B 65 i) (h0:i≠0):¬ nT i=Str.ofString "0" := fun z=>by
 have h1:=nT_reads h
 rw [z,<- nT_zero,nT_reads (by show (0:Int).natAbs < 2 ^ 65;decide)] at h1
 exact h0 (Option.some.inj h1).symm
theorem start_no {x:Str} {c:Nat} {r:List Nat} (e:x.cps.toList=c :: r) (h:c≠45):Txt.startswith x (Str.ofString "-")=false:=by
 show (decide (0+(Str.ofString "-").length<=x.length) && Builtin.Str.subAt x (Str.ofString "-") 0)=false
 have:Builtin.Str.subAt x (Str.ofString "-") 0=false:=by
  show ((x.cps.extract 0 (0+1)) == #[45])=false
  rw [beq_eq_false_iff_ne]
  intro z
  have h1:=congrArg Array.toList z
  rw [Array.toList_extract,e] at h1
  simp [List.extract] at h1
  exact h h1
 rw [this,Bool.and_false]
theorem start_pos (m:Nat):Txt.startswith (nT (m:Int)) (Str.ofString "-")=false:=by
 obtain ⟨c,r,e⟩:∃ c r,(nT (m:Int)).cps.toList=c :: r:=by
  cases e:(nT (m:Int)).cps.toList with
  | nil=>exact absurd e (nT_ne m)
  | cons c r=>exact ⟨c,r,rfl⟩
 have:=nT_digits m c (by rw [e];exact List.mem_cons_self ..)
 exact start_no e (by omega)
theorem start_neg (z:Str):Txt.startswith (Str.ofString "-" ++ z) (Str.ofString "-")=true:=PySem.W.KT.starts_app _ _
theorem cut_neg (z:Str):Txt.slice (Str.ofString "-" ++ z) (some 1) none=z:=by
 have hl:(Str.ofString "-" ++ z).length=1+z.length:=by rw [slen];rfl
 rw [slice_from_eq (b:=((Str.ofString "-" ++ z).length:Int)) (by decide) (by rw [hl];omega) rfl]
 refine str_cps ?_
 rw [cps_app,hl]
 show ((([45]++z.cps.toList).drop 1).take (((1+z.length:Nat):Int) - 1).toNat)=z.cps.toList
 have e:(((1+z.length:Nat):Int) - 1).toNat=z.cps.toList.length:=by
  have:z.cps.toList.length=z.length:=rfl
  omega
 rw [e]
 simp
 exact List.take_of_length_le (by simp)
theorem nT_sign {k:Int} (h0:k≠0):(0 < k->nT k=abT k)/\(k < 0->nT k=Str.ofString "-" ++ abT k):=by
 constructor
 ·intro h
  unfold abT
  rw [show ((k.natAbs:Nat):Int)=k from by omega]
 ·intro h
  unfold abT
  have:=nT_minus (m:=k.natAbs) (by omega)
  rw [show -((k.natAbs:Nat):Int)=k from by omega] at this
  exact this
end KA
namespace KA
open PySem PySem.Spec PyProof.Rows L2 D3 K01
theorem cut_from (xs:List D) (k:Nat) (h:k<=xs.length):D3.cutD xs (some (k:Int)) none=xs.drop k:=by
 unfold D3.cutD
 rw [HT.sIx_none,HT.sIx_nat,Nat.min_eq_left h]
 exact List.take_of_length_le (by rw [List.length_drop];exact Nat.le_refl _)
theorem cut_at (xs:List D) (j k:Nat) (h:j+k<=xs.length):D3.cutD xs (some (j:Int)) (some ((j+k:Nat):Int))=(xs.drop j).take k:=by
 unfold D3.cutD
 rw [HT.sIx_nat,HT.sIx_nat,Nat.min_eq_left (by omega),Nat.min_eq_left (by omega),Nat.add_sub_cancel_left]
theorem cut_end (xs:List D) (a b:D):D3.cutD (xs++[a,b]) none (some (-2))=xs:=by
 unfold D3.cutD
 have e:HT.sIx (xs++[a,b]).length (xs++[a,b]).length (some (-2))=xs.length:=by
  show (if (-2:Int) < 0 then ((-2:Int)+(((xs++[a,b]).length:Nat):Int)).toNat else min (-2:Int).toNat (xs++[a,b]).length)=xs.length
  rw [if_pos (by decide),List.length_append]
  simp only [List.length_cons,List.length_nil]
  omega
 rw [HT.sIx_none,e,List.drop_zero,Nat.sub_zero,List.take_left]
theorem at_end1 (xs:List D) (a b:D):atI (xs++[a,b]) (-1)=some b:=by
 have:=L2.atI_last (xs++[a]) b
 rwa [List.append_assoc] at this
theorem at_end2 (xs:List D) (a b:D):atI (xs++[a,b]) (-2)=some a:=by
 have h:ixN (xs++[a,b]).length (-2)=some xs.length:=by
  unfold ixN
  rw [if_neg (by decide),List.length_append]
  simp only [List.length_cons,List.length_nil]
  rw [if_pos (by omega)]
  congr 1
  omega
 unfold atI
 rw [h]
 simp
def sgd (ts:List (Str × Int)) (w:Int):List Str:=(ptO ts w).flatMap tkP
theorem sgd_head {ts:List (Str × Int)} {w:Int} (ht:∀ t∈ts,t.2≠0) (hn:¬ (ts=[]/\w=0)):∃ k r,k≠0/\tkA ts w=nT k :: r/\sgd ts w=sgn k :: abT k :: r/\(k=w\/∃ t∈ts,k=t.2):=by
 unfold tkA sgd
 cases ts with
 | nil =>
  have hw:w≠0:=fun z=>hn ⟨rfl,z⟩
  refine ⟨w,[],hw,?_,?_,.inl rfl⟩<;>simp [ptO,tkP]
 | cons t r =>
  have e:ptO (t :: r) w=(t.2,some t.1) :: ptO r w\/ptO (t :: r) w=(t.2,some t.1) :: (r.map fun t=>(t.2,some t.1)):=by
   unfold ptO
   by_cases hw:w=0
   ·right;simp [hw]
   ·left;simp [hw]
  rcases e with e | e<;>rw [e]<;>exact ⟨t.2,_,ht t (List.mem_cons_self ..),rfl,rfl,.inr ⟨t,List.mem_cons_self ..,rfl⟩⟩
theorem sgd_app {ts:List (Str × Int)} {w:Int} (hn:¬ (ts=[]/\w=0)):sgd ts w=ts.flatMap (fun t=>tkP (t.2,some t.1))++(if w≠0 then [sgn w,abT w] else []):=by
 unfold sgd ptO
 rw [List.flatMap_append,List.flatMap_map]
 congr 1
 by_cases hw:w=0
 ·have:ts≠[]:=fun z=>hn ⟨z,hw⟩
  simp [hw,this]
 ·simp [hw,tkP]
theorem tks_len (ts:List (Str × Int)):(ts.flatMap fun t=>tkP (t.2,some t.1)).length=3 * ts.length:=by
 induction ts with
 | nil=>rfl
 | cons t r ih=>rw [List.flatMap_cons,List.length_append,ih];show 3+_=_;rw [List.length_cons];omega
theorem tks_at:∀ {ts:List (Str × Int)} {i:Nat} {t:Str × Int},ts[i]?=some t->∀ r:List Str,(((ts.flatMap fun t=>tkP (t.2,some t.1))++r).drop (3 * i)).take 3=tkP (t.2,some t.1)
 | [],_,_,h,_=>by cases h
 | x :: ts,0,t,h,r=>by
  cases h
  rw [List.flatMap_cons,List.append_assoc]
  rfl
 | x :: ts,i+1,t,h,r=>by
  have ih:=tks_at (ts:=ts) (i:=i) (t:=t) (by simpa using h) r
  rw [List.flatMap_cons,List.append_assoc,show 3 * (i+1)=3+3 * i from by omega]
  rw [<- List.drop_drop]
  exact ih
theorem tkA_zero:tkA [] 0=[Str.ofString "0"]:=by
 show [nT 0]=_
 rw [nT_zero]
def spMeasR:SpD:=fun ds M Q=>∃ (l:Addr) (m:Sm × Int) (n:Int),ds=[.ref l,.int n]/\M l=some (strsL (tkS m.1++[Str.ofString "by",nT m.2]))/\RdS m.1/\0 < m.2/\B 65 m.2/\∀ M',Ext M M'->Q (.tup [smD m.1,.int m.2]) M'
end KA
namespace KA
open PySem PySem.Spec PyProof.Rows L2 D3 K01
def spNamesR:SpD:=fun ds M Q=>∃ (l:Addr) (ss:List Str) (n:Int),ds=[.ref l,.int n]/\M l=some (strsL ss)/\Up1 ss/\1<=ss.length/\ss.length<=6/\∀ M',Ext M M'->Q (nms ss) M'
def tkL:Stm->List Str
 | .set x s=>Str.ofString "set" :: x :: Str.ofString "=" :: tkS s
 | .any x=>[Str.ofString "any",x]
 | .note rs=>Str.ofString "note" :: tkRs rs
 | _=>[]
def RdL:Stm->Prop
 | .set x s=>Letter x/\RdS s
 | .any x=>Letter x
 | .note rs=>rs≠[]/\RdRs rs
 | _=>False
def spPlainR:SpD:=fun ds M Q=>∃ (l:Addr) (s:Stm) (n:Int),ds=[.ref l,.int n]/\M l=some (strsL (tkL s))/\RdL s/\∀ M',Ext M M'->Q (stD s) M'
inductive Opn where
 | choose
 | ite (r:Rw)
 | whl (r:Rw)
def tkO:Opn->List Str
 | .choose=>[Str.ofString "choose"]
 | .ite r=>Str.ofString "if" :: tkR r
 | .whl r=>Str.ofString "while" :: tkR r
def ptOp:Opn->List D
 | .choose=>[.str "choose"]
 | .ite r=>[.str "if",rwD r]
 | .whl r=>[.str "while",rwD r,.tup [],.non]
def RdO:Opn->Prop
 | .choose=>True
 | .ite r=>RdR r
 | .whl r=>RdR r
def spOpenR:SpD:=fun ds M Q=>∃ (l:Addr) (o:Opn) (n:Int),ds=[.ref l,.int n]/\M l=some (strsL (tkO o))/\RdO o/\∀ q M',M q=none->M' q=some (.lst (ptOp o))->Ext M M'->Q (.ref q) M'
end KA
namespace KA
open PySem PySem.Spec PyProof.Rows L2 D3 K01
mutual
def RdSt:Stm->Prop
 | .set x s=>RdL (.set x s)
 | .any x=>RdL (.any x)
 | .note rs=>RdL (.note rs)
 | .choose a b=>RdBk a/\RdBk b/\a.length<=90/\b.length<=90
 | .ite r a b=>RdR r/\RdBk a/\RdBk b/\a.length<=90/\b.length<=90
 | .whl r rs m b=>RdR r/\RdRs rs/\(∀ x,m=some x->RdS x.1/\0 < x.2/\B 65 x.2)/\RdBk b/\b.length<=90
def RdBk:List Stm->Prop
 | []=>True
 | s :: r=>RdSt s/\RdBk r
end
def tkK (d:Nat) (rs:List Rw):List (Nat × List Str):=if rs=[] then [] else [(d,Str.ofString "keep" :: tkRs rs)]
def tkF (d:Nat):Option (Sm × Int)->List (Nat × List Str)
 | none=>[]
 | some m=>[(d,Str.ofString "fall" :: (tkS m.1++[Str.ofString "by",nT m.2]))]
mutual
def tkSt:Nat->Stm->List (Nat × List Str)
 | d,.set x s=>[(d,tkL (.set x s))]
 | d,.any x=>[(d,tkL (.any x))]
 | d,.note rs=>[(d,tkL (.note rs))]
 | d,.choose a b=>(d,tkO .choose) :: (tkBk (d+1) a++((d,[Str.ofString "or"]) :: (tkBk (d+1) b++[(d,[Str.ofString "end"])])))
 | d,.ite r a b=>(d,tkO (.ite r)) :: (tkBk (d+1) a++((d,[Str.ofString "else"]) :: (tkBk (d+1) b++[(d,[Str.ofString "end"])])))
 | d,.whl r rs m b=>(d,tkO (.whl r)) :: (tkK (d+1) rs++(tkF (d+1) m++(tkBk (d+1) b++[(d,[Str.ofString "end"])])))
def tkBk:Nat->List Stm->List (Nat × List Str)
 | _,[]=>[]
 | d,s :: r=>tkSt d s++tkBk d r
end
abbrev LnT:=Nat × List Str
def lnT (x:LnT):Str:=ind x.1++jn x.2
theorem w_set:Str.ofString "set " = Str.ofString "set" ++ spc:=by decide +kernel
theorem w_any:Str.ofString "any " = Str.ofString "any" ++ spc:=by decide +kernel
theorem w_note:Str.ofString "note " = Str.ofString "note" ++ spc:=by decide +kernel
theorem w_is:Str.ofString " = " = spc++Str.ofString "=" ++ spc:=by decide +kernel
theorem w_if:Str.ofString "if " = Str.ofString "if" ++ spc:=by decide +kernel
theorem w_while:Str.ofString "while " = Str.ofString "while" ++ spc:=by decide +kernel
theorem w_keep:Str.ofString "keep " = Str.ofString "keep" ++ spc:=by decide +kernel
theorem w_fall:Str.ofString "fall " = Str.ofString "fall" ++ spc:=by decide +kernel
theorem w_by:Str.ofString " by " = spc++Str.ofString "by" ++ spc:=by decide +kernel
theorem w_given:Str.ofString "given " = Str.ofString "given" ++ spc:=by decide +kernel
theorem line_jn {s:Stm} (h:RdL s):lineT s=jn (tkL s):=by
 cases s with
 | set x s =>
  show Str.ofString "set " ++ x++Str.ofString " = " ++ sumT s=jn (Str.ofString "set" :: x :: Str.ofString "=" :: tkS s)
  rw [jn_cons _ (by simp),jn_cons _ (by simp),jn_cons _ (tkS_ne s),sumT_jn,w_set,w_is]
  simp only [sapp]
 | any x =>
  show Str.ofString "any " ++ x=jn [Str.ofString "any",x]
  rw [jn_cons _ (by simp),jn_one,w_any]
 | note rs =>
  show Str.ofString "note " ++ rowsT rs=jn (Str.ofString "note" :: tkRs rs)
  rw [jn_cons _ (tkRs_ne h.1),rowsT_jn h.1,w_note]
 | choose a b=>exact h.elim
 | ite r a b=>exact h.elim
 | whl r rs m b=>exact h.elim
theorem keep_jn (d:Nat) (rs:List Rw):(keepT rs).map (fun t=>ind d++t)=(tkK d rs).map lnT:=by
 unfold keepT tkK
 by_cases h:rs=[]
 ·rw [if_pos h,if_pos h];rfl
 ·rw [if_neg h,if_neg h]
  show [ind d++(Str.ofString "keep " ++ rowsT rs)]=[ind d++jn (Str.ofString "keep" :: tkRs rs)]
  rw [jn_cons _ (tkRs_ne h),rowsT_jn h,w_keep]
theorem fall_jn (d:Nat) (m:Option (Sm × Int)):(fallT m).map (fun t=>ind d++t)=(tkF d m).map lnT:=by
 cases m with
 | none=>rfl
 | some m =>
  show [ind d++(Str.ofString "fall " ++ sumT m.1++Str.ofString " by " ++ nT m.2)]=[ind d++jn (Str.ofString "fall" :: (tkS m.1++[Str.ofString "by",nT m.2]))]
  rw [jn_cons _ (by simp),jn_app (by simp) (tkS_ne _),jn_cons _ (by simp),jn_one,sumT_jn,w_fall,w_by]
  simp only [sapp]
theorem open_jn (w w':Str) (e:w'=w++spc) (r:Rw):w'++rowT r=jn (w :: tkR r):=by
 rw [jn_cons _ (tkR_ne r),rowT_jn,e]
mutual
theorem ln_tkS:∀ (d:Nat) (s:Stm),RdSt s->lnS d s=(tkSt d s).map lnT
 | d,.set x s,h=>by simp only [RdSt] at h;simp only [lnS,tkSt,List.map_cons,List.map_nil,lnT,line_jn h]
 | d,.any x,h=>by simp only [RdSt] at h;simp only [lnS,tkSt,List.map_cons,List.map_nil,lnT,line_jn h]
 | d,.note rs,h=>by simp only [RdSt] at h;simp only [lnS,tkSt,List.map_cons,List.map_nil,lnT,line_jn h]
 | d,.choose a b,h=>by
  simp only [RdSt] at h
  have h1:=ln_tkB (d+1) a h.1
  have h2:=ln_tkB (d+1) b h.2.1
  simp only [lnS,tkSt,List.map_cons,List.map_append,List.map_nil,h1,h2,lnT,tkO,jn_one]
 | d,.ite r a b,h=>by
  simp only [RdSt] at h
  have h1:=ln_tkB (d+1) a h.2.1
  have h2:=ln_tkB (d+1) b h.2.2.1
  simp only [lnS,tkSt,List.map_cons,List.map_append,List.map_nil,h1,h2,lnT,tkO,jn_one,open_jn _ _ w_if]
 | d,.whl r rs m b,h=>by
  simp only [RdSt] at h
  have h1:=ln_tkB (d+1) b h.2.2.2.1
  have e:(hdT rs m).map (fun t=>ind (d+1)++t)=(tkK (d+1) rs).map lnT++(tkF (d+1) m).map lnT:=by
   unfold hdT;rw [List.map_append,keep_jn,fall_jn]
  simp only [lnS,tkSt,List.map_cons,List.map_append,List.map_nil,h1,e,tkO,List.append_assoc]
  simp only [lnT,jn_one,open_jn _ _ w_while]
theorem ln_tkB:∀ (d:Nat) (b:List Stm),RdBk b->lnB d b=(tkBk d b).map lnT
 | d,[],_=>by simp only [lnB,tkBk,List.map_nil]
 | d,s :: r,h=>by
  simp only [RdBk] at h
  simp only [lnB,tkBk,List.map_append,ln_tkS d s h.1,ln_tkB d r h.2]
end
def tkHd (ss:List Str) (rs:List Rw):List LnT:=(0,Str.ofString "plan" :: ss) :: (if rs=[] then [] else [(0,Str.ofString "given" :: tkRs rs)])
theorem e_zero (z:Str):ind 0++z=z:=s_ext (by show #[]++z.cps=z.cps;simp)
theorem join_txt (z:Str) (l:List Str):Txt.join z l=Str.join z l:=by
 show Builtin.Str.glued _ _=_
 rw [StrLaws.glued_eq_join]
theorem hd_tk (ss:List Str) (rs:List Rw):hdP ss rs=(tkHd ss rs).map lnT:=by
 unfold hdP tkHd
 have e:Txt.join " " (Str.ofString "plan" :: ss)=lnT (0,Str.ofString "plan" :: ss):=by
  show Txt.join (Str.ofString " ") _=_
  rw [join_txt,spc_eq]
  exact (e_zero _).symm
 rw [e]
 by_cases h:rs=[]
 ·rw [if_pos h,if_pos h];rfl
 ·rw [if_neg h,if_neg h]
  show _ :: [_]=_ :: [ind 0++jn (Str.ofString "given" :: tkRs rs)]
  rw [e_zero,jn_cons _ (tkRs_ne h),rowsT_jn h,w_given]
theorem rdt_of {os:List Str} (u:Up1 os) (h5:os.length<=6) {ts:List (Str × Int)} (h:Terms os ts):RdT ts:=⟨u.sub h.sub,h.wt,by have:=h.len;omega⟩
theorem rdr_of {os:List Str} (u:Up1 os) (h5:os.length<=6) {r:Rw} (h:WfR os r):RdR r:=⟨rdt_of u h5 h.ts,h.b⟩
theorem rds_of {os:List Str} (u:Up1 os) (h5:os.length<=6) {s:Sm} (h:WfS os s):RdS s:=⟨rdt_of u h5 h.ts,h.w,h.pos,h.b⟩
mutual
theorem rdst_of {os:List Str} (u:Up1 os) (h5:os.length<=6):∀ s:Stm,wf os s->(tt s).s<=90->RdSt s
 | .set x s,h,_=>by simp only [wf] at h;simp only [RdSt];exact ⟨u.lett _ h.1,rds_of u h5 h.2⟩
 | .any x,h,_=>by simp only [wf] at h;simp only [RdSt];exact u.lett _ h
 | .note rs,h,_=>by simp only [wf] at h;simp only [RdSt];exact ⟨fun z=>by rw [z] at h;have:=h.2.1;simp at this,h.2.2,fun r hr=>rdr_of u h5 (h.1 r hr)⟩
 | .choose a b,h,hs=>by
  simp only [wf] at h
  have hs:(tts a).s+(tts b).s+1<=90:=by simp only [tt] at hs;exact hs
  have h1:=len_tts a
  have h2:=len_tts b
  simp only [RdSt]
  exact ⟨rdbk_of u h5 a h.1 (by omega),rdbk_of u h5 b h.2 (by omega),by omega,by omega⟩
 | .ite r a b,h,hs=>by
  simp only [wf] at h
  have hs:(tts a).s+(tts b).s+1<=90:=by simp only [tt] at hs;exact hs
  have h1:=len_tts a
  have h2:=len_tts b
  simp only [RdSt]
  exact ⟨rdr_of u h5 h.1,rdbk_of u h5 a h.2.1 (by omega),rdbk_of u h5 b h.2.2 (by omega),by omega,by omega⟩
 | .whl r rs m b,h,hs=>by
  simp only [wf] at h
  have hs:(tts b).s+1<=90:=by simp only [tt] at hs;exact hs
  have h2:=len_tts b
  simp only [RdSt]
  refine ⟨rdr_of u h5 h.1,⟨h.2.2.1,fun r hr=>rdr_of u h5 (h.2.1 r hr)⟩,fun x hx=>?_,rdbk_of u h5 b h.2.2.2.2 (by omega),by omega⟩
  have hm:=h.2.2.2.1
  rw [hx] at hm
  exact ⟨rds_of u h5 hm.1,hm.2.1,hm.2.2.1⟩
theorem rdbk_of {os:List Str} (u:Up1 os) (h5:os.length<=6):∀ b:List Stm,wfs os b->(tts b).s<=90->RdBk b
 | [],_,_=>by simp only [RdBk]
 | s :: r,h,hs=>by
  simp only [wfs] at h
  have hs:(tt s).s+(tts r).s<=90:=by simp only [tts] at hs;exact hs
  simp only [RdBk]
  exact ⟨rdst_of u h5 s h.1 (by omega),rdbk_of u h5 r h.2 (by omega)⟩
end
theorem RdBk.take:∀ (b:List Stm) (k:Nat),RdBk b->RdBk (b.take k)
 | [],k,_=>by rw [List.take_nil];simp only [RdBk]
 | s :: r,0,_=>by simp only [List.take_zero,RdBk]
 | s :: r,k+1,h=>by
  simp only [RdBk] at h
  simp only [List.take_succ_cons,RdBk]
  exact ⟨h.1,RdBk.take r k h.2⟩
structure RdPl (ss:List Str) (rs:List Rw) (b:List Stm):Prop where
 up:Up1 ss
 pos:1<=ss.length
 rs:RdRs rs
 bk:RdBk b
theorem RdPl.take {ss:List Str} {rs:List Rw} {b:List Stm} (h:RdPl ss rs b) (i k:Nat):RdPl ss (rs.take i) (b.take k) :=
 ⟨h.up,h.pos,⟨by have:=h.rs.1;rw [List.length_take];omega,fun r hr=>h.rs.2 r (List.mem_of_mem_take hr)⟩,h.bk.take _ _⟩
theorem rdpl_of {p:Plan} (h:WfP p) (u:Up1 p.ss) {ss:List Str} (us:Up1 ss) (hp:1<=ss.length):RdPl ss p.rs p.bl :=
 ⟨us,hp,⟨h.rl,fun r hr=>rdr_of u (by have:=h.names.le;omega) (h.rs r hr)⟩,rdbk_of u (by have:=h.names.le;omega) p.bl h.bl (by have:=h.cs;omega)⟩
end KA
namespace D3
open PySem PySem.Spec PyProof.Rows L2
def AtM (K:PySem.W.Frag) (C:Addr) (m qual:Str) (st:Stmt):Prop:=∃ (f:Addr) (od an:Option Addr) (sl:Array (Option Value)) (oc kV dc pm cd ct:Value),PySem.W.findIn K (.ref C) m=some (some (.ref f))/\K.lookup f=some ⟨oc,od,.func (PySem.W.fnOf m qual (defArgs st) (defBody st) (defScope st) .none kV dc pm an cd ct),sl⟩/\PySem.W.codeIn K cd qual=true/\PySem.W.keepIn K (.ref f)=true/\PySem.W.isFn K (.ref f)=true
theorem AtM.mk {K:PySem.W.Frag} {C:Addr} {m qual:Str} {st:Stmt} {f:Addr} {od an:Option Addr} {sl:Array (Option Value)} {oc kV dc pm cd ct:Value} (a:PySem.W.findIn K (.ref C) m=some (some (.ref f))) (l:K.lookup f=some ⟨oc,od,.func (PySem.W.fnOf m qual (defArgs st) (defBody st) (defScope st) .none kV dc pm an cd ct),sl⟩)
  (c:PySem.W.codeIn K cd qual=true) (k:PySem.W.keepIn K (.ref f)=true) (i:PySem.W.isFn K (.ref f)=true):AtM K C m qual st:=⟨f,od,an,sl,oc,kV,dc,pm,cd,ct,a,l,c,k,i⟩
theorem AtM.get {K:PySem.W.Frag} {C:Addr} {m qual:Str} {st:Stmt} (A:AtM K C m qual st):∃ f fd,Fun K m qual st f fd/\Meth K C m f:=by
 obtain ⟨f,od,an,sl,oc,kV,dc,pm,cd,ct,a,l,c,k,i⟩:=A
 exact ⟨f,_,fun_mk (st:=st) l c k,a,i,k⟩
structure ClsI (K:PySem.W.Frag) (x:Str) (C:Addr):Prop where
 ns:PySem.W.nsIn K mainGlobals x=some (some (.ref C))
 cls:Cls K C
 makes:PySem.W.makesIn K C=true
 kp:PySem.W.keepIn K (.ref C)=true
theorem ClsI.mk' {K:PySem.W.Frag} {x:Str} {C:Addr} (a:PySem.W.nsIn K mainGlobals x=some (some (.ref C))) (pg:PySem.W.plainGet K C Str.empty=true) (hd:PySem.W.hasDictIn K C=true) (po:PySem.W.plainOver K C=true)
  (sa:PySem.W.findIn K (.ref C) "__setattr__" = some (some (.builtin "object.__setattr__"))) (m:PySem.W.makesIn K C=true) (k:PySem.W.keepIn K (.ref C)=true):ClsI K x C:=⟨a,⟨pg,hd,po,sa⟩,m,k⟩
theorem ClsI.mk_ {K:PySem.W.Frag} {x:Str} {C f:Addr} (c:ClsI K x C) (m:Meth K C "__init__" f):Mk K C f:=⟨c.makes,m.at_,m.fn,c.kp⟩
end D3
namespace KA
open PySem PySem.Spec PyProof.Rows L2 D3 K01
def okT (ts:List (Str × Int)):Prop:=∀ t∈ts,PyData.strOk t.1=true
def okM:Option (Sm × Int)->Prop
 | none=>True
 | some m=>okT m.1.1
mutual
def okS:Stm->Prop
 | .set x s=>PyData.strOk x=true/\okT s.1
 | .any x=>PyData.strOk x=true
 | .note rs=>∀ r∈rs,okT r.2.1
 | .choose a b=>okSs a/\okSs b
 | .ite r a b=>okT r.2.1/\okSs a/\okSs b
 | .whl r rs m b=>okT r.2.1/\(∀ r∈rs,okT r.2.1)/\okM m/\okSs b
def okSs:List Stm->Prop
 | []=>True
 | s :: r=>okS s/\okSs r
end
theorem okT_tup {ts:List (Str × Int)} (h:okT ts):imm (trm ts)=true:=imm_tup fun d hd=>by
 obtain ⟨t,ht,rfl⟩:=List.mem_map.mp hd
 refine imm_tup fun d hd=>?_
 simp only [List.mem_cons,List.not_mem_nil,or_false] at hd
 rcases hd with rfl | rfl
 ·simp only [imm];exact h t ht
 ·simp only [imm]
theorem imm_rw {r:Rw} (h:okT r.2.1):imm (rwD r)=true:=imm_tup fun d hd=>by
 rcases List.mem_cons.mp hd with rfl | hd
 ·simp only [imm];exact word_ok r.1
 ·rcases List.mem_cons.mp hd with rfl | hd
  ·exact okT_tup h
  ·rw [List.mem_singleton.mp hd];simp only [imm]
theorem imm_rws {rs:List Rw} (h:∀ r∈rs,okT r.2.1):imm (.tup (rs.map rwD))=true:=imm_tup fun d hd=>by
 obtain ⟨r,hr,rfl⟩:=List.mem_map.mp hd
 exact imm_rw (h r hr)
theorem imm_sm {s:Sm} (h:okT s.1):imm (smD s)=true:=imm_tup fun d hd=>by
 rcases List.mem_cons.mp hd with rfl | hd
 ·exact okT_tup h
 ·rcases List.mem_cons.mp hd with rfl | hd
  ·simp only [imm]
  ·rw [List.mem_singleton.mp hd];simp only [imm]
theorem imm_ms {m:Option (Sm × Int)} (h:okM m):imm (msD m)=true:=by
 cases m with
 | none=>simp only [msD,imm]
 | some m =>
  refine imm_tup fun d hd=>?_
  rcases List.mem_cons.mp hd with rfl | hd
  ·exact imm_sm h
  ·rw [List.mem_singleton.mp hd];simp only [imm]
theorem imm_lst {ds:List D} (h:immL ds=true):imm (.tup ds)=true:=by simp only [imm];exact h
theorem imm_word {x:Str} (h:PyData.strOk x=true):imm (.str x)=true:=by simp only [imm];exact h
mutual
theorem imm_st:∀ s:Stm,okS s->imm (stD s)=true
 | .set x s,h=>by
  simp only [okS] at h
  simp only [stD]
  refine imm_tup fun d hd=>?_
  simp only [List.mem_cons,List.not_mem_nil,or_false] at hd
  rcases hd with rfl | rfl | rfl
  ·exact imm_word (by decide +kernel)
  ·exact imm_word h.1
  ·exact imm_sm h.2
 | .any x,h=>by
  simp only [okS] at h
  simp only [stD]
  refine imm_tup fun d hd=>?_
  simp only [List.mem_cons,List.not_mem_nil,or_false] at hd
  rcases hd with rfl | rfl
  ·exact imm_word (by decide +kernel)
  ·exact imm_word h
 | .note rs,h=>by
  simp only [okS] at h
  simp only [stD]
  refine imm_tup fun d hd=>?_
  simp only [List.mem_cons,List.not_mem_nil,or_false] at hd
  rcases hd with rfl | rfl
  ·exact imm_word (by decide +kernel)
  ·exact imm_rws h
 | .choose a b,h=>by
  simp only [okS] at h
  have h1:=imm_sts a h.1
  have h2:=imm_sts b h.2
  simp only [stD]
  refine imm_tup fun d hd=>?_
  simp only [List.mem_cons,List.not_mem_nil,or_false] at hd
  rcases hd with rfl | rfl | rfl
  ·exact imm_word (by decide +kernel)
  ·exact imm_lst h1
  ·exact imm_lst h2
 | .ite r a b,h=>by
  simp only [okS] at h
  have h1:=imm_sts a h.2.1
  have h2:=imm_sts b h.2.2
  simp only [stD]
  refine imm_tup fun d hd=>?_
  simp only [List.mem_cons,List.not_mem_nil,or_false] at hd
  rcases hd with rfl | rfl | rfl | rfl
  ·exact imm_word (by decide +kernel)
  ·exact imm_rw h.1
  ·exact imm_lst h1
  ·exact imm_lst h2
 | .whl r rs m b,h=>by
  simp only [okS] at h
  have h1:=imm_sts b h.2.2.2
  simp only [stD]
  refine imm_tup fun d hd=>?_
  simp only [List.mem_cons,List.not_mem_nil,or_false] at hd
  rcases hd with rfl | rfl | rfl | rfl | rfl
  ·exact imm_word (by decide +kernel)
  ·exact imm_rw h.1
  ·exact imm_rws h.2.1
  ·exact imm_ms h.2.2.1
  ·exact imm_lst h1
theorem imm_sts:∀ b:List Stm,okSs b->immL (stDs b)=true
 | [],_=>by simp only [stDs,immL]
 | s :: r,h=>by
  simp only [okSs] at h
  simp only [stDs,immL]
  rw [imm_st s h.1,imm_sts r h.2];rfl
end
theorem dep_rws (rs:List Rw):(pd (.tup (rs.map rwD))).depth<=4:=depth_le fun d hd=>by
 obtain ⟨r,hr,rfl⟩:=List.mem_map.mp hd
 exact depth_row r.1 r.2.1 r.2.2
theorem dep_sm (s:Sm):(pd (smD s)).depth<=3:=depth_le fun d hd=>by
 rcases List.mem_cons.mp hd with rfl | hd
 ·exact depth_trm s.1
 ·rcases List.mem_cons.mp hd with rfl | hd
  ·simp [pd,PyData.depth]
  ·rw [List.mem_singleton.mp hd];simp [pd,PyData.depth]
theorem dep_ms (m:Option (Sm × Int)):(pd (msD m)).depth<=4:=by
 cases m with
 | none=>simp [msD,pd,PyData.depth]
 | some m =>
  refine depth_le (n:=3) fun d hd=>?_
  rcases List.mem_cons.mp hd with rfl | hd
  ·exact dep_sm m.1
  ·rw [List.mem_singleton.mp hd];simp [pd,PyData.depth]
theorem dep_str (x:Str) (n:Nat):(pd (.str x)).depth<=n:=by simp [pd,PyData.depth]
mutual
theorem dep_st:∀ s:Stm,(pd (stD s)).depth<=4+2 * dp s
 | .set x s=>by
  simp only [stD,dp]
  refine depth_le (n:=5) fun d hd=>?_
  simp only [List.mem_cons,List.not_mem_nil,or_false] at hd
  rcases hd with rfl | rfl | rfl
  ·exact dep_str _ _
  ·exact dep_str _ _
  ·exact Nat.le_trans (dep_sm s) (by decide)
 | .any x=>by
  simp only [stD,dp]
  refine depth_le (n:=5) fun d hd=>?_
  simp only [List.mem_cons,List.not_mem_nil,or_false] at hd
  rcases hd with rfl | rfl
  ·exact dep_str _ _
  ·exact dep_str _ _
 | .note rs=>by
  simp only [stD,dp]
  refine depth_le (n:=5) fun d hd=>?_
  simp only [List.mem_cons,List.not_mem_nil,or_false] at hd
  rcases hd with rfl | rfl
  ·exact dep_str _ _
  ·exact Nat.le_trans (dep_rws rs) (by decide)
 | .choose a b=>by
  have h1:=dep_sts a
  have h2:=dep_sts b
  simp only [stD,dp]
  refine depth_le (n:=4+2 * max (dps a) (dps b)+1) fun d hd=>?_
  simp only [List.mem_cons,List.not_mem_nil,or_false] at hd
  rcases hd with rfl | rfl | rfl
  ·exact dep_str _ _
  ·exact Nat.le_trans (depth_le h1) (by omega)
  ·exact Nat.le_trans (depth_le h2) (by omega)
 | .ite r a b=>by
  have h1:=dep_sts a
  have h2:=dep_sts b
  simp only [stD,dp]
  refine depth_le (n:=4+2 * max (dps a) (dps b)+1) fun d hd=>?_
  simp only [List.mem_cons,List.not_mem_nil,or_false] at hd
  rcases hd with rfl | rfl | rfl | rfl
  ·exact dep_str _ _
  ·exact Nat.le_trans (depth_row r.1 r.2.1 r.2.2) (by omega)
  ·exact Nat.le_trans (depth_le h1) (by omega)
  ·exact Nat.le_trans (depth_le h2) (by omega)
 | .whl r rs m b=>by
  have h1:=dep_sts b
  simp only [stD,dp]
  refine depth_le (n:=4+2 * dps b+1) fun d hd=>?_
  simp only [List.mem_cons,List.not_mem_nil,or_false] at hd
  rcases hd with rfl | rfl | rfl | rfl | rfl
  ·exact dep_str _ _
  ·exact Nat.le_trans (depth_row r.1 r.2.1 r.2.2) (by omega)
  ·exact Nat.le_trans (dep_rws rs) (by omega)
  ·exact Nat.le_trans (dep_ms m) (by omega)
  ·exact Nat.le_trans (depth_le h1) (by omega)
theorem dep_sts:∀ b:List Stm,∀ d∈stDs b,(pd d).depth<=4+2 * dps b
 | [],d,hd=>by simp only [stDs] at hd;cases hd
 | s :: r,d,hd=>by
  simp only [stDs] at hd
  simp only [dps]
  rcases List.mem_cons.mp hd with rfl | hd
  ·have:=dep_st s;omega
  ·have:=dep_sts r d hd;omega
end
theorem RdT.ok {ts:List (Str × Int)} (h:RdT ts):okT ts:=fun t ht=>(h.lett t ht).ok
mutual
theorem okS_of:∀ s:Stm,RdSt s->okS s
 | .set x s,h=>by simp only [RdSt] at h;simp only [okS];exact ⟨Letter.ok h.1,h.2.1.ok⟩
 | .any x,h=>by simp only [RdSt] at h;simp only [okS];exact Letter.ok h
 | .note rs,h=>by simp only [RdSt] at h;simp only [okS];exact fun r hr=>(h.2.2 r hr).1.ok
 | .choose a b,h=>by simp only [RdSt] at h;simp only [okS];exact ⟨okSs_of a h.1,okSs_of b h.2.1⟩
 | .ite r a b,h=>by simp only [RdSt] at h;simp only [okS];exact ⟨h.1.1.ok,okSs_of a h.2.1,okSs_of b h.2.2.1⟩
 | .whl r rs m b,h=>by
  simp only [RdSt] at h
  simp only [okS]
  refine ⟨h.1.1.ok,fun r hr=>(h.2.1.2 r hr).1.ok,?_,okSs_of b h.2.2.2.1⟩
  cases m with
  | none=>trivial
  | some x=>exact (h.2.2.1 x rfl).1.1.ok
theorem okSs_of:∀ b:List Stm,RdBk b->okSs b
 | [],_=>by simp only [okSs]
 | s :: r,h=>by simp only [RdBk] at h;simp only [okSs];exact ⟨okS_of s h.1,okSs_of r h.2⟩
end
theorem RdPl.imm {ss:List Str} {rs:List Rw} {b:List Stm} (h:RdPl ss rs b):imm (.tup [nms ss,.tup (rs.map rwD),.tup (stDs b)])=true:=imm_tup fun d hd=>by
 simp only [List.mem_cons,List.not_mem_nil,or_false] at hd
 rcases hd with rfl | rfl | rfl
 ·exact imm_tup fun d hd=>by
   obtain ⟨x,hx,rfl⟩:=List.mem_map.mp hd
   exact imm_word (h.up.lett x hx).ok
 ·exact imm_rws fun r hr=>(h.rs.2 r hr).1.ok
 ·exact imm_lst (imm_sts b (okSs_of b h.bk))
theorem dep_plan (ss:List Str) (rs:List Rw) {b:List Stm} (h:dps b<=4):(pd (.tup [nms ss,.tup (rs.map rwD),.tup (stDs b)])).depth<=60:=Nat.le_trans (depth_le (n:=15) fun d hd=>by
 simp only [List.mem_cons,List.not_mem_nil,or_false] at hd
 rcases hd with rfl | rfl | rfl
 ·exact Nat.le_trans (depth_le (n:=1) fun d hd=>by
   obtain ⟨x,hx,rfl⟩:=List.mem_map.mp hd
   exact dep_str x 1) (by decide)
 ·exact Nat.le_trans (dep_rws rs) (by decide)
 ·exact Nat.le_trans (depth_le (dep_sts b)) (by omega)) (by decide)
end KA
namespace K22
open PySem PySem.Spec PyProof.Rows L2 D3 K01 KA
section
set_option hygiene false
def firstT (ts:List (Lean.TSyntax `tactic)):Lean.MacroM (Lean.TSyntax `tactic):=do
 let a:=ts.toArray
 `(tactic| first $[| $a:tactic]*)
def strT (s:String):Lean.TSyntax `str:=Lean.Syntax.mkStrLit s
def oneT (s:Lean.TSyntax `str):Lean.MacroM (Lean.TSyntax `tactic):=do
 let t:=s.getString
 let all (c:String):Lean.MacroM (Lean.TSyntax `tactic):=do firstT (<- (List.range 16).mapM fun i=>`(tactic| tm_at $(strT s!"{c}{i}")))
 if t == "var" then
  let f <- all "v"
  `(tactic| ((with_reducible show EV _ _ _ (Expr.Name _ _) _);$f))
 else if t == "asg" then
  let f <- all "a"
  `(tactic| ((with_reducible show EX _ _ _ (Stmt.Assign [Expr.Name _ _] _ _) _);$f))
 else if t == "gvn" then
  let f <- all "g"
  `(tactic| ((with_reducible show GV _ _ _ (Expr.Name _ _) _ _);$f))
 else match (t.drop 1).toNat? with
 | none=>Lean.Macro.throwUnsupported
 | some i =>
  let n:Lean.TSyntax `num:=Lean.Syntax.mkNumLit (toString i)
  if t.front == 'v' then `(tactic| ((with_reducible refine' ev_var $n ?_ ?n1 ?n2 ?n3 ?n4 ?n5);tm_at "tv"))
  else if t.front == 'a' then `(tactic| ((with_reducible refine' ex_set $n ?n0 ?_ ?n1 ?n2 ?n3 ?n4);tm_at "ta"))
  else if t.front == 'g' then `(tactic| ((with_reducible refine gv_name $n ?n0 ?_ ?n1 ?n2 ?n3);tm_at "tg";try (with_reducible refine let_E ?_;intro EL)))
  else Lean.Macro.throwUnsupported
def namT (xs:List String) (s:Lean.TSyntax `str):Lean.MacroM (Lean.TSyntax `tactic):=do
 let t:=s.getString
 if t == "var" then
  firstT (<- xs.zipIdx.mapM fun (x,i)=>`(tactic| ((with_reducible show EV _ _ _ (Expr.Name $(strT x) _) _);tm_at $(strT s!"v{i}"))))
 else if t == "asg" then
  firstT (<- xs.zipIdx.mapM fun (x,i)=>`(tactic| ((with_reducible show EX _ _ _ (Stmt.Assign [Expr.Name $(strT x) _] _ _) _);tm_at $(strT s!"a{i}"))))
 else if t == "gvn" then
  firstT (<- xs.zipIdx.mapM fun (x,i)=>`(tactic| ((with_reducible show GV _ _ _ (Expr.Name $(strT x) _) _ _);tm_at $(strT s!"g{i}"))))
 else Lean.Macro.throwUnsupported
def callT (xs:List String):Lean.MacroM (Lean.TSyntax `tactic):=do
 firstT (<- xs.mapM fun x=>do
  let c:=Lean.mkIdent (Lean.Name.mkSimple (if "_law_".isPrefixOf x then "C_l_" ++ x.drop 5 else "C_" ++ x))
  `(tactic| ((with_reducible show EV _ _ _ (Expr.Call (Expr.Name $(strT x) _) _ _ _) _);tm_at "tC";(case n0=>exact $c);tm_at "tc")))
end
def top (i:Nat):Stmt:=PySem.Challenge.pw_notekeep_k22_read.main.body.getD i (.Pass ⟨0,0,0,0⟩)
abbrev s_Opened_init:Stmt:=inClass (top 9) 0
abbrev N_Opened_init:List Str:=["self", "parts"]
abbrev P_Opened_init:List Str:=["self", "parts"]
theorem sc_Opened_init:FnScope N_Opened_init P_Opened_init (defScope s_Opened_init):=⟨rfl,rfl,rfl,by decide +kernel,rfl,by decide +kernel,by decide +kernel⟩
abbrev s_Opened_closed:Stmt:=inClass (top 9) 1
abbrev N_Opened_closed:List Str:=["self"]
abbrev P_Opened_closed:List Str:=["self"]
theorem sc_Opened_closed:FnScope N_Opened_closed P_Opened_closed (defScope s_Opened_closed):=⟨rfl,rfl,rfl,by decide +kernel,rfl,by decide +kernel,by decide +kernel⟩
abbrev s_read:Stmt:=top 10
abbrev N_read:List Str:=["text", "lines", "opened", "last", "number", "line"]
abbrev P_read:List Str:=["text"]
theorem sc_read:FnScope N_read P_read (defScope s_read):=⟨rfl,rfl,rfl,by decide +kernel,rfl,by decide +kernel,by decide +kernel⟩
abbrev s_must:Stmt:=top 11
abbrev N_must:List Str:=["holds", "number"]
abbrev P_must:List Str:=["holds", "number"]
theorem sc_must:FnScope N_must P_must (defScope s_must):=⟨rfl,rfl,rfl,by decide +kernel,rfl,by decide +kernel,by decide +kernel⟩
abbrev s_read_line:Stmt:=top 12
abbrev N_read_line:List Str:=["opened", "last", "line", "number", "content", "tokens", "word", "depth"]
abbrev P_read_line:List Str:=["opened", "last", "line", "number"]
theorem sc_read_line:FnScope N_read_line P_read_line (defScope s_read_line):=⟨rfl,rfl,rfl,by decide +kernel,rfl,by decide +kernel,by decide +kernel⟩
abbrev s_read_names:Stmt:=top 13
abbrev N_read_names:List Str:=["tokens", "number"]
abbrev P_read_names:List Str:=["tokens", "number"]
theorem sc_read_names:FnScope N_read_names P_read_names (defScope s_read_names):=⟨rfl,rfl,rfl,by decide +kernel,rfl,by decide +kernel,by decide +kernel⟩
abbrev s_read_heading:Stmt:=top 14
abbrev N_read_heading:List Str:=["inner", "last", "tokens", "number", "word"]
abbrev P_read_heading:List Str:=["inner", "last", "tokens", "number"]
theorem sc_read_heading:FnScope N_read_heading P_read_heading (defScope s_read_heading):=⟨rfl,rfl,rfl,by decide +kernel,rfl,by decide +kernel,by decide +kernel⟩
abbrev s_read_opening:Stmt:=top 15
abbrev N_read_opening:List Str:=["tokens", "number", "word", "row"]
abbrev P_read_opening:List Str:=["tokens", "number"]
theorem sc_read_opening:FnScope N_read_opening P_read_opening (defScope s_read_opening):=⟨rfl,rfl,rfl,by decide +kernel,rfl,by decide +kernel,by decide +kernel⟩
abbrev s_read_turning:Stmt:=top 16
abbrev N_read_turning:List Str:=["opened", "word", "number", "inner", "kind", "count"]
abbrev P_read_turning:List Str:=["opened", "word", "number"]
theorem sc_read_turning:FnScope N_read_turning P_read_turning (defScope s_read_turning):=⟨rfl,rfl,rfl,by decide +kernel,rfl,by decide +kernel,by decide +kernel⟩
abbrev s_read_plain:Stmt:=top 17
abbrev N_read_plain:List Str:=["tokens", "number", "word"]
abbrev P_read_plain:List Str:=["tokens", "number"]
theorem sc_read_plain:FnScope N_read_plain P_read_plain (defScope s_read_plain):=⟨rfl,rfl,rfl,by decide +kernel,rfl,by decide +kernel,by decide +kernel⟩
abbrev s_read_measure:Stmt:=top 18
abbrev N_read_measure:List Str:=["tokens", "number", "fall"]
abbrev P_read_measure:List Str:=["tokens", "number"]
theorem sc_read_measure:FnScope N_read_measure P_read_measure (defScope s_read_measure):=⟨rfl,rfl,rfl,by decide +kernel,rfl,by decide +kernel,by decide +kernel⟩
abbrev s_read_rows:Stmt:=top 19
abbrev N_read_rows:List Str:=["tokens", "number", "parts", "token"]
abbrev P_read_rows:List Str:=["tokens", "number"]
theorem sc_read_rows:FnScope N_read_rows P_read_rows (defScope s_read_rows):=⟨rfl,rfl,rfl,by decide +kernel,rfl,by decide +kernel,by decide +kernel⟩
abbrev s_read_row:Stmt:=top 20
abbrev N_read_row:List Str:=["tokens", "number", "added"]
abbrev P_read_row:List Str:=["tokens", "number"]
theorem sc_read_row:FnScope N_read_row P_read_row (defScope s_read_row):=⟨rfl,rfl,rfl,by decide +kernel,rfl,by decide +kernel,by decide +kernel⟩
abbrev s_read_sum:Stmt:=top 21
abbrev N_read_sum:List Str:=["tokens", "number", "by"]
abbrev P_read_sum:List Str:=["tokens", "number"]
theorem sc_read_sum:FnScope N_read_sum P_read_sum (defScope s_read_sum):=⟨rfl,rfl,rfl,by decide +kernel,rfl,by decide +kernel,by decide +kernel⟩
abbrev s_read_added:Stmt:=top 22
abbrev N_read_added:List Str:=["tokens", "number", "signed", "behind", "terms"]
abbrev P_read_added:List Str:=["tokens", "number"]
theorem sc_read_added:FnScope N_read_added P_read_added (defScope s_read_added):=⟨rfl,rfl,rfl,by decide +kernel,rfl,by decide +kernel,by decide +kernel⟩
abbrev s_read_term:Stmt:=top 23
abbrev N_read_term:List Str:=["tokens", "number"]
abbrev P_read_term:List Str:=["tokens", "number"]
theorem sc_read_term:FnScope N_read_term P_read_term (defScope s_read_term):=⟨rfl,rfl,rfl,by decide +kernel,rfl,by decide +kernel,by decide +kernel⟩
abbrev s_read_weight:Stmt:=top 24
abbrev N_read_weight:List Str:=["tokens", "number", "weight"]
abbrev P_read_weight:List Str:=["tokens", "number"]
theorem sc_read_weight:FnScope N_read_weight P_read_weight (defScope s_read_weight):=⟨rfl,rfl,rfl,by decide +kernel,rfl,by decide +kernel,by decide +kernel⟩
abbrev s_read_whole:Stmt:=top 25
abbrev N_read_whole:List Str:=["token", "number", "figures"]
abbrev P_read_whole:List Str:=["token", "number"]
theorem sc_read_whole:FnScope N_read_whole P_read_whole (defScope s_read_whole):=⟨rfl,rfl,rfl,by decide +kernel,rfl,by decide +kernel,by decide +kernel⟩
abbrev s_is_above_nought:Stmt:=top 26
abbrev N_is_above_nought:List Str:=["token"]
abbrev P_is_above_nought:List Str:=["token"]
theorem sc_is_above_nought:FnScope N_is_above_nought P_is_above_nought (defScope s_is_above_nought):=⟨rfl,rfl,rfl,by decide +kernel,rfl,by decide +kernel,by decide +kernel⟩
abbrev s_is_name:Stmt:=top 27
abbrev N_is_name:List Str:=["token"]
abbrev P_is_name:List Str:=["token"]
theorem sc_is_name:FnScope N_is_name P_is_name (defScope s_is_name):=⟨rfl,rfl,rfl,by decide +kernel,rfl,by decide +kernel,by decide +kernel⟩
abbrev s_must_be_in_order:Stmt:=top 28
abbrev N_must_be_in_order:List Str:=["names", "number"]
abbrev P_must_be_in_order:List Str:=["names", "number"]
theorem sc_must_be_in_order:FnScope N_must_be_in_order P_must_be_in_order (defScope s_must_be_in_order):=⟨rfl,rfl,rfl,by decide +kernel,rfl,by decide +kernel,by decide +kernel⟩
abbrev s_l_cell:Stmt:=top 30
abbrev N_l_cell:List Str:=["_law_script", "_law_k"]
abbrev P_l_cell:List Str:=["_law_script", "_law_k"]
theorem sc_l_cell:FnScope N_l_cell P_l_cell (defScope s_l_cell):=⟨rfl,rfl,rfl,by decide +kernel,rfl,by decide +kernel,by decide +kernel⟩
abbrev s_l_purse:Stmt:=top 31
abbrev N_l_purse:List Str:=["_law_cell_here", "_law_number_here", "_law_found", "_law_k"]
abbrev P_l_purse:List Str:=["_law_cell_here"]
theorem sc_l_purse:FnScope N_l_purse P_l_purse (defScope s_l_purse):=⟨rfl,rfl,rfl,by decide +kernel,rfl,by decide +kernel,by decide +kernel⟩
abbrev s_l_take:Stmt:=top 32
abbrev N_l_take:List Str:=["_law_purse_here", "_law_many", "_law_at", "_law_found"]
abbrev P_l_take:List Str:=["_law_purse_here", "_law_many"]
theorem sc_l_take:FnScope N_l_take P_l_take (defScope s_l_take):=⟨rfl,rfl,rfl,by decide +kernel,rfl,by decide +kernel,by decide +kernel⟩
abbrev s_l_next:Stmt:=top 33
abbrev N_l_next:List Str:=["_law_state", "_law_at"]
abbrev P_l_next:List Str:=["_law_state"]
theorem sc_l_next:FnScope N_l_next P_l_next (defScope s_l_next):=⟨rfl,rfl,rfl,by decide +kernel,rfl,by decide +kernel,by decide +kernel⟩
abbrev s_l_number:Stmt:=top 34
abbrev N_l_number:List Str:=["_law_purse_here"]
abbrev P_l_number:List Str:=["_law_purse_here"]
theorem sc_l_number:FnScope N_l_number P_l_number (defScope s_l_number):=⟨rfl,rfl,rfl,by decide +kernel,rfl,by decide +kernel,by decide +kernel⟩
abbrev s_l_terms:Stmt:=top 35
abbrev N_l_terms:List Str:=["_law_purse_here", "_law_names_here", "_law_found", "_law_name", "_law_weight"]
abbrev P_l_terms:List Str:=["_law_purse_here", "_law_names_here"]
theorem sc_l_terms:FnScope N_l_terms P_l_terms (defScope s_l_terms):=⟨rfl,rfl,rfl,by decide +kernel,rfl,by decide +kernel,by decide +kernel⟩
abbrev s_l_sum:Stmt:=top 36
abbrev N_l_sum:List Str:=["_law_purse_here", "_law_names_here", "_law_by", "_law_terms_here"]
abbrev P_l_sum:List Str:=["_law_purse_here", "_law_names_here"]
theorem sc_l_sum:FnScope N_l_sum P_l_sum (defScope s_l_sum):=⟨rfl,rfl,rfl,by decide +kernel,rfl,by decide +kernel,by decide +kernel⟩
abbrev s_l_row:Stmt:=top 37
abbrev N_l_row:List Str:=["_law_purse_here", "_law_names_here", "_law_word", "_law_terms_here"]
abbrev P_l_row:List Str:=["_law_purse_here", "_law_names_here"]
theorem sc_l_row:FnScope N_l_row P_l_row (defScope s_l_row):=⟨rfl,rfl,rfl,by decide +kernel,rfl,by decide +kernel,by decide +kernel⟩
abbrev s_l_statement:Stmt:=top 38
abbrev N_l_statement:List Str:=["_law_state", "_law_names_here", "_law_depth", "_law_purse_here", "_law_sort", "_law_row_here", "_law_many", "_law_name"]
abbrev P_l_statement:List Str:=["_law_state", "_law_names_here", "_law_depth"]
theorem sc_l_statement:FnScope N_l_statement P_l_statement (defScope s_l_statement):=⟨rfl,rfl,rfl,by decide +kernel,rfl,by decide +kernel,by decide +kernel⟩
abbrev s_l_loop:Stmt:=top 39
abbrev N_l_loop:List Str:=["_law_state", "_law_names_here", "_law_depth", "_law_purse_here", "_law_row_here", "_law_rows", "_law_measure", "_law_left", "_law_block_here"]
abbrev P_l_loop:List Str:=["_law_state", "_law_names_here", "_law_depth", "_law_purse_here"]
theorem sc_l_loop:FnScope N_l_loop P_l_loop (defScope s_l_loop):=⟨rfl,rfl,rfl,by decide +kernel,rfl,by decide +kernel,by decide +kernel⟩
abbrev s_l_block:Stmt:=top 40
abbrev N_l_block:List Str:=["_law_state", "_law_names_here", "_law_depth", "_law_purse_here", "_law_found", "_law_k"]
abbrev P_l_block:List Str:=["_law_state", "_law_names_here", "_law_depth"]
theorem sc_l_block:FnScope N_l_block P_l_block (defScope s_l_block):=⟨rfl,rfl,rfl,by decide +kernel,rfl,by decide +kernel,by decide +kernel⟩
abbrev s_l_plan:Stmt:=top 41
abbrev N_l_plan:List Str:=["_law_cells", "_law_first", "_law_names_here", "_law_state", "_law_found", "_law_purse_here", "_law_rows"]
abbrev P_l_plan:List Str:=["_law_cells", "_law_first", "_law_names_here"]
theorem sc_l_plan:FnScope N_l_plan P_l_plan (defScope s_l_plan):=⟨rfl,rfl,rfl,by decide +kernel,rfl,by decide +kernel,by decide +kernel⟩
abbrev s_l_names:Stmt:=top 42
abbrev N_l_names:List Str:=["_law_cell_here", "_law_letters"]
abbrev P_l_names:List Str:=["_law_cell_here"]
theorem sc_l_names:FnScope N_l_names P_l_names (defScope s_l_names):=⟨rfl,rfl,rfl,by decide +kernel,rfl,by decide +kernel,by decide +kernel⟩
abbrev s_l_joined:Stmt:=top 43
abbrev N_l_joined:List Str:=["_law_terms_here", "_law_whole", "_law_parts", "_law_line", "_law_weight", "_law_tail"]
abbrev P_l_joined:List Str:=["_law_terms_here", "_law_whole"]
theorem sc_l_joined:FnScope N_l_joined P_l_joined (defScope s_l_joined):=⟨rfl,rfl,rfl,by decide +kernel,rfl,by decide +kernel,by decide +kernel⟩
abbrev s_l_sum_line:Stmt:=top 44
abbrev N_l_sum_line:List Str:=["_law_total"]
abbrev P_l_sum_line:List Str:=["_law_total"]
theorem sc_l_sum_line:FnScope N_l_sum_line P_l_sum_line (defScope s_l_sum_line):=⟨rfl,rfl,rfl,by decide +kernel,rfl,by decide +kernel,by decide +kernel⟩
abbrev s_l_rows_line:Stmt:=top 45
abbrev N_l_rows_line:List Str:=["_law_rows", "_law_lines_here", "_law_row_here"]
abbrev P_l_rows_line:List Str:=["_law_rows"]
theorem sc_l_rows_line:FnScope N_l_rows_line P_l_rows_line (defScope s_l_rows_line):=⟨rfl,rfl,rfl,by decide +kernel,rfl,by decide +kernel,by decide +kernel⟩
abbrev s_l_lines:Stmt:=top 46
abbrev N_l_lines:List Str:=["_law_block_here", "_law_ahead", "_law_found", "_law_one"]
abbrev P_l_lines:List Str:=["_law_block_here", "_law_ahead"]
theorem sc_l_lines:FnScope N_l_lines P_l_lines (defScope s_l_lines):=⟨rfl,rfl,rfl,by decide +kernel,rfl,by decide +kernel,by decide +kernel⟩
abbrev s_l_lines_of:Stmt:=top 47
abbrev N_l_lines_of:List Str:=["_law_one", "_law_ahead", "_law_within", "_law_found"]
abbrev P_l_lines_of:List Str:=["_law_one", "_law_ahead"]
theorem sc_l_lines_of:FnScope N_l_lines_of P_l_lines_of (defScope s_l_lines_of):=⟨rfl,rfl,rfl,by decide +kernel,rfl,by decide +kernel,by decide +kernel⟩
abbrev s_l_all_lines:Stmt:=top 48
abbrev N_l_all_lines:List Str:=["_law_plan_here", "_law_found", "_law_name"]
abbrev P_l_all_lines:List Str:=["_law_plan_here"]
theorem sc_l_all_lines:FnScope N_l_all_lines P_l_all_lines (defScope s_l_all_lines):=⟨rfl,rfl,rfl,by decide +kernel,rfl,by decide +kernel,by decide +kernel⟩
abbrev s_l_wild:Stmt:=top 49
abbrev N_l_wild:List Str:=["_law_script", "_law_at", "_law_cell_here", "_law_names_here", "_law_others", "_law_plan_here"]
abbrev P_l_wild:List Str:=["_law_script", "_law_at"]
theorem sc_l_wild:FnScope N_l_wild P_l_wild (defScope s_l_wild):=⟨rfl,rfl,rfl,by decide +kernel,rfl,by decide +kernel,by decide +kernel⟩
abbrev s_law:Stmt:=top 50
abbrev N_law:List Str:=["_law_script", "_law_plan_here", "_law_found", "_law_other"]
abbrev P_law:List Str:=["_law_script"]
theorem sc_law:FnScope N_law P_law (defScope s_law):=⟨rfl,rfl,rfl,by decide +kernel,rfl,by decide +kernel,by decide +kernel⟩
end K22
namespace K22
open PySem PySem.Spec PyProof.Rows L2 D3 K01 KA
set_option hygiene false
local macro_rules | `(tactic| tm_at $s:str)=>oneT s
local macro_rules | `(tactic| tm_at "tv")=>`(tactic| ((case n1=>rfl);(case n2=>rfl);(case n3=>first | exact Or.inl rfl | exact Or.inr (Or.inl rfl) | exact Or.inr (Or.inr rfl));(case n4=>decide);(case n5=>decide)))
local macro_rules | `(tactic| tm_at "ta")=>`(tactic| ((case n0=>exact nd);(case n1=>rfl);(case n2=>first | exact Or.inl rfl | exact Or.inr rfl);(case n3=>kernel_rfl);(case n4=>first | exact .inl rfl | exact .inr rfl)))
local macro_rules | `(tactic| tm_at "tg")=>`(tactic| ((case n0=>exact nd);(case n1=>rfl);(case n2=>first | exact Or.inl rfl | exact Or.inr rfl);(case n3=>first | exact .inl rfl | exact .inr rfl)))
local macro_rules | `(tactic| tm_at "tc")=>`(tactic| ((case n1=>exact hr);(case n2=>first | decide | omega);(case n3=>rfl);(case n4=>decide);(case n5=>rfl);(case n6=>rfl)))
local macro_rules | `(tactic| tm_at "tC")=>`(tactic| ((with_reducible refine' ev_callM ?n0 ?n1 ?n2 ?_ ?n3 ?n4 ?n5 ?n6)))
local macro_rules | `(tactic| tm_at "tb")=>`(tactic| ((case n1=>rfl);(case n2=>rfl);(case n3=>rfl)))
local macro_rules | `(tactic| tm_at "cl")=>callT ["read", "must", "read_line", "read_names", "read_heading", "read_opening", "read_turning", "read_plain", "read_measure", "read_rows", "read_row", "read_sum", "read_added", "read_term", "read_weight", "read_whole", "is_above_nought", "is_name", "must_be_in_order", "_law_cell", "_law_purse", "_law_take", "_law_next", "_law_number", "_law_terms", "_law_sum", "_law_row", "_law_statement", "_law_loop", "_law_block", "_law_plan", "_law_names", "_law_joined", "_law_sum_line", "_law_rows_line", "_law_lines", "_law_lines_of", "_law_all_lines", "_law_wild", "law"]
local macro_rules | `(tactic| tm_at "side")=>`(tactic| first | assumption | decide | omega)
local macro_rules | `(tactic| tm_at "mulside")=>`(tactic| first | assumption | exact mulOk)
local macro_rules | `(tactic| tm_at "divside")=>`(tactic| first | assumption | exact divOk (by decide) | exact divOk (by assumption) | exact divOk (by omega))
local macro_rules | `(tactic| tm_at "modside")=>`(tactic| first | assumption | decide | omega)
local macro_rules | `(tactic| tm_at "powside")=>`(tactic| first | assumption | exact ⟨by decide,by decide,by decide⟩)
local macro_rules | `(tactic| tm_at "szside")=>`(tactic| first | (exact small (Nat.le_of_ble_eq_true rfl)) | (exact small (by simp;omega)) | (exact small (by omega)))
local macro_rules | `(tactic| tm_at "ev")=>`(tactic| first | with_reducible refine ev_non ?_ | with_reducible refine ev_str ?_ | with_reducible refine ev_add ?_ | with_reducible refine l_sub ?_ | with_reducible refine l_mul ?_ | with_reducible refine l_fdiv ?_ | with_reducible refine l_mod ?_ | with_reducible refine l_pow ?_ | with_reducible refine l_neg ?_ | with_reducible refine l_lt ?_ | with_reducible refine l_le ?_ | with_reducible refine l_gt ?_ | ((with_reducible show EV _ _ _ (Expr.Compare _ [CmpOp.Eq] _ _) _);(with_reducible refine l_eq ?n0 ?_);(case n0=>exact hr.units)) | ((with_reducible show EV _ _ _ (Expr.Compare _ [CmpOp.NotEq] _ _) _);(with_reducible refine l_ne ?n0 ?_);(case n0=>exact hr.units)) | ((with_reducible show EV _ _ _ (Expr.Compare _ [CmpOp.In] _ _) _);(with_reducible refine l_in ?n1 ?_ ?n0);(case n1=>exact hr.units);(case n0=>rfl)) | with_reducible refine ev_one ?_ | with_reducible refine ev_and ?_ | with_reducible refine ev_or ?_ | with_reducible refine ev_ifExp ?_ | with_reducible refine ev_tup ?_ | with_reducible refine ev_lst ?_ | with_reducible refine av_nil ?_ | ((with_reducible show AV _ _ _ (_ :: _) _);(with_reducible refine av_cons ?_ ?n0);(case n0=>rfl)) | ((with_reducible show EV _ _ _ (Expr.Subscript _ (Expr.Constant _ _ _) _) _);(with_reducible refine l_item ?n1 ?_ ?n0);(case n1=>exact hr.units);(case n0=>(intro _ _;rfl))) | ((with_reducible show EV _ _ _ (Expr.Subscript _ (Expr.UnaryOp _ _ _) _) _);(with_reducible refine l_item ?n1 ?_ ?n0);(case n1=>exact hr.units);(case n0=>(intro _ _;rfl))) | ((with_reducible show EV _ _ _ (Expr.Subscript _ (Expr.Name _ _) _) _);(with_reducible refine l_item ?n1 ?_ ?n0);(case n1=>exact hr.units);(case n0=>(intro _ _;rfl))) | ((with_reducible show EV _ _ _ (Expr.Subscript _ (Expr.BinOp _ _ _ _) _) _);(with_reducible refine l_item ?n1 ?_ ?n0);(case n1=>exact hr.units);(case n0=>(intro _ _;rfl))) | ((with_reducible show EV _ _ _ (Expr.Subscript _ (Expr.Call _ _ _ _) _) _);(with_reducible refine l_item ?n1 ?_ ?n0);(case n1=>exact hr.units);(case n0=>(intro _ _;rfl))) | ((with_reducible show EV _ _ _ (Expr.Subscript _ (Expr.Subscript _ _ _) _) _);(with_reducible refine l_item ?n1 ?_ ?n0);(case n1=>exact hr.units);(case n0=>(intro _ _;rfl))) | with_reducible refine lt_lt ?_ | with_reducible refine lt_gt ?_ | with_reducible refine tv_not ?_ | ((with_reducible show TV _ _ _ (Expr.Compare _ [CmpOp.Eq] _ _) _);(with_reducible refine lt_eq ?n0 ?_);(case n0=>exact hr.units)) | ((with_reducible show TV _ _ _ (Expr.Compare _ [CmpOp.NotEq] _ _) _);(with_reducible refine lt_ne ?n0 ?_);(case n0=>exact hr.units)) | ((with_reducible show TV _ _ _ (Expr.Compare _ [CmpOp.In] _ _) _);(with_reducible refine lt_in ?n1 ?_ ?n0);(case n1=>exact hr.units);(case n0=>rfl)) | with_reducible refine tv_isnot ?_ | ((with_reducible show TV _ _ _ (Expr.Call _ _ _ _) _);(with_reducible refine tv_call ?_ ?n0);(case n0=>(intro _;rfl))) | with_reducible refine TW.tv (tw_and ?_) | with_reducible refine TW.tv (tw_or ?_) | with_reducible refine tw_and1 ?_ | with_reducible refine tw_or1 ?_ | with_reducible refine tw_and ?_ | with_reducible refine tw_or ?_)
local macro_rules | `(tactic| tm_at "blt")=>`(tactic| first | ((with_reducible show EV _ _ _ (Expr.Call (Expr.Name "str" _) [_] _ _) _);(with_reducible refine' ev_strI ?n0 ?_ ?n1 ?n2 ?n3);(case n0=>exact h_str);tm_at "tb") | ((with_reducible show EV _ _ _ (Expr.Call (Expr.Attribute _ "join" _) [_] [] _) _);(with_reducible refine' ev_join ?_ ?n1 ?n2 ?n3 ?n4 ?n5);tm_at "tb";(case n4=>rfl);(case n5=>rfl)) | ((with_reducible show EV _ _ _ (Expr.Call (Expr.Name "tuple" _) [_] _ _) _);(with_reducible refine ev_tupleC ?n0 ?_ ?n1 ?n2 ?n3);(case n0=>exact h_tuple);tm_at "tb") | ((with_reducible show EV _ _ _ (Expr.Call (Expr.Name "sorted" _) [_] _ _) _);(with_reducible refine ev_sortedS ?n0 ?_ ?n1 ?n2 ?n3);(case n0=>exact h_sorted);tm_at "tb") | ((with_reducible show EV _ _ _ (Expr.Call (Expr.Attribute _ "append" _) [_] [] _) _);(with_reducible refine ev_append ?_ ?n1 ?n2 ?n3 ?n4 ?n5);tm_at "tb";(case n4=>rfl);(case n5=>rfl)) | ((with_reducible show EV _ _ _ (Expr.Call (Expr.Attribute _ "pop" _) [] [] _) _);(with_reducible refine ev_pop ?_ ?n1 ?n2);(case n1=>rfl);(case n2=>rfl)) | ((with_reducible show EV _ _ _ (Expr.Call (Expr.Name "abs" _) _ _ _) _);(with_reducible refine ev_abs ?n0 ?_ ?n1 ?n2 ?n3);(case n0=>exact h_abs);tm_at "tb") | ((with_reducible show EV _ _ _ (Expr.Call (Expr.Name "len" _) _ _ _) _);(with_reducible refine ev_len ?n0 ?_ ?n1 ?n2 ?n3);(case n0=>exact h_len);tm_at "tb") | ((with_reducible show EV _ _ _ (Expr.Call (Expr.Name "int" _) _ _ _) _);(with_reducible refine ev_intC ?n0 ?_ ?n1 ?n2 ?n3);(case n0=>exact h_int);tm_at "tb") | ((with_reducible show EV _ _ _ (Expr.Call (Expr.Name "min" _) [_,_] _ _) _);(with_reducible refine ev_min2 ?n0 ?n9 ?_ ?n1 ?n2 ?n3);(case n0=>exact h_min);(case n9=>rfl);tm_at "tb") | ((with_reducible show EV _ _ _ (Expr.Call (Expr.Name "isinstance" _) [_,_] _ _) _);(with_reducible refine ev_isi ?n0 ?_ ?n1 ?n2 ?n3);(case n0=>exact h_isinstance);tm_at "tb") | ((with_reducible show EV _ _ _ (Expr.Name "int" _) _);(with_reducible refine' ev_gty ?n0 ?n1 ?_ ?n2 ?n3 ?n4);(case n0=>exact h_int);(case n1=>exact bootInt);(case n2=>rfl);(case n3=>decide);(case n4=>decide)) | ((with_reducible show EV _ _ _ (Expr.Name "tuple" _) _);(with_reducible refine' ev_gty ?n0 ?n1 ?_ ?n2 ?n3 ?n4);(case n0=>exact h_tuple);(case n1=>exact bootTuple);(case n2=>rfl);(case n3=>decide);(case n4=>decide)))
local macro_rules | `(tactic| tm_at "st")=>`(tactic| first | with_reducible refine tvs_nil ?_ | with_reducible refine exs_nil ?_ | with_reducible refine exs_one ?_ | ((with_reducible show EXs _ _ _ (Stmt.Assign _ _ _ :: _) _);with_reducible refine exs_cons ?_) | ((with_reducible show EXs _ _ _ (Stmt.Expr _ _ :: _) _);with_reducible refine exs_cons ?_) | with_reducible refine ex_if ?_ | with_reducible refine ex_ret ?_ | ((with_reducible show EX _ _ _ (Stmt.Expr _ _) _);(with_reducible refine ex_expr ?_ ?n0);(case n0=>kernel_rfl)) | ((fail_if_success (with_reducible show EX _ _ _ (Stmt.Assign _ (Expr.ListComp _ _ _ _) _) _));tm_at "asg") | tm_at "gvn" | ((with_reducible show EX _ _ _ (Stmt.Assign [Expr.Subscript _ _ _] _ _) _);(with_reducible refine ex_asg ?_ ?n1 ?n2 ?n3);(case n1=>kernel_rfl);(case n2=>kernel_rfl);(case n3=>rfl)) | ((with_reducible show EX _ _ _ (Stmt.Assign [Expr.Tuple _ _ _] _ _) _);(with_reducible refine ex_asg ?_ ?n1 ?n2 ?n3);(case n1=>kernel_rfl);(case n2=>kernel_rfl);(case n3=>rfl)) | ((with_reducible show GV _ _ _ (Expr.Subscript _ _ _) _ _);(with_reducible refine gv_set ?n1 ?_ ?n2);(case n1=>exact hr.units);(case n2=>(intro _;rfl))) | ((with_reducible show GV _ _ _ (Expr.Tuple _ _ _) (D.tup _) _);(with_reducible refine gv_tup ?n1 ?_ ?n2 ?n3);tm_at "tb") | ((with_reducible show GVs _ _ _ (_ :: _) (_ :: _) _);(with_reducible refine gvs_cons ?_ ?n1);(case n1=>rfl)) | with_reducible refine gvs_nil ?_)
local macro_rules | `(tactic| tm_at "lf")=>`(tactic| first | with_reducible refine add_ii ?_ | with_reducible refine sub_l ?_ | with_reducible refine neg_l ?_ | with_reducible refine cmp_l ?_ | with_reducible refine eq_ii ?_ | with_reducible refine eq_ss ?_ | with_reducible refine eq_bb ?_ | ((with_reducible show MulL (D.int _) (D.int _) _ _);refine mul_l (by tm_at "mulside") ?_) | ((with_reducible show DivL (D.int _) (D.int _) _ _);refine div_l (by tm_at "divside") ?_) | ((with_reducible show ModL (D.int _) (D.int _) _ _);refine mod_l (by tm_at "modside") ?_) | ((with_reducible show PowL (D.int 10) (D.int 12) _ _);refine pow_n (k:=1000000000000) (by decide +kernel) ⟨by decide,by decide,by decide⟩ ?_) | ((with_reducible show PowL (D.int 10) (D.int 18) _ _);refine pow_n (k:=1000000000000000000) (by decide +kernel) ⟨by decide,by decide,by decide⟩ ?_) | ((with_reducible show PowL (D.int 10) (D.int 19) _ _);refine pow_n (k:=10000000000000000000) (by decide +kernel) ⟨by decide,by decide,by decide⟩ ?_) | ((with_reducible show PowL (D.int 10) (D.int 40) _ _);refine pow_n (k:=10000000000000000000000000000000000000000) (by decide +kernel) ⟨by decide,by decide,by decide⟩ ?_) | ((with_reducible show PowL (D.int 10) (D.int 50) _ _);refine pow_n (k:=100000000000000000000000000000000000000000000000000) (by decide +kernel) ⟨by decide,by decide,by decide⟩ ?_) | ((with_reducible show PowL (D.int 10) (D.int 59) _ _);refine pow_n (k:=100000000000000000000000000000000000000000000000000000000000) (by decide +kernel) ⟨by decide,by decide,by decide⟩ ?_) | ((with_reducible show IxA (D.tup _) (D.int _) _ _);refine ix_at rfl ?_) | with_reducible refine in_t ?_ | ((with_reducible show _<=sizeLine/\_);refine ⟨by tm_at "szside",?_⟩) | ((with_reducible show ite (true=true) _ _);refine ifT ?_) | ((with_reducible show ite (false=true) _ _);refine ifF ?_) | ((with_reducible show ite ((!true)=true) _ _);refine ifNT ?_) | ((with_reducible show ite ((!false)=true) _ _);refine ifNF ?_) | ((with_reducible show ∃ k,D.bl _=D.bl k/\_);refine ⟨_,rfl,?_⟩) | ((with_reducible show ∃ k,D.int _=D.int k/\_);refine ⟨_,rfl,?_⟩) | ((with_reducible show ∃ k,TruD _ (D.bl _) _ k/\_);refine ⟨_,rfl,?_⟩) | ((with_reducible show ∃ k,TruD _ (D.tup _) _ k/\_);refine ⟨_,rfl,?_⟩) | ((with_reducible show ∃ k,TruD _ (D.int _) _ k/\_);refine ⟨_,rfl,?_⟩) | ((with_reducible show ∃ k,IsDv _ _ k/\_);refine ⟨_,rfl,?_⟩) | ((with_reducible show D.non=D.non/\_);refine ⟨rfl,?_⟩) | ((with_reducible show ∃ k,[D.int _]=[D.int k]/\_);refine ⟨_,rfl,?_⟩) | ((with_reducible show ∃ i j,[D.int _,D.int _]=[D.int i,D.int j]/\_);refine ⟨_,_,rfl,?_⟩))
local macro_rules | `(tactic| tm_at "d")=>`(tactic| first | with_reducible refine ev_int ?_ | tm_at "var" | ((with_reducible show EV _ _ _ (Expr.Call _ _ _ _) _);first | tm_at "blt" | tm_at "cl") | tm_at "ev" | tm_at "lf" | tm_at "st" | tm_at "blt")
section
variable {P:Program} {w:World} {K:PySem.W.Frag} {mg:Str->Option Value} {base:Heap} {f:Addr} {fd:FuncData}
local macro_rules | `(tactic| tm_at $s:str)=>namT ["_law_cell_here", "_law_number_here", "_law_found", "_law_k"] s
theorem ok_l_purse (F:Fun K "_law_purse" "_law_purse" s_l_purse f fd) (h_range:mg "range" = none) (h_abs:mg "abs" = none):FnOk P w K mg base CX0 1 f fd P_l_purse (liftSp K spPurse):=by
 refine fn_D F sc_l_purse (fun ds M Q ⟨a,e,_⟩=>by subst e;rfl) fun cdv A outer s H EE ds M Q hr h=>?_
 have nd:=sc_l_purse.nd
 try (refine let_X ?_;intro X)
 obtain ⟨c,rfl,hc,q⟩:=h
 have:=hc.bd
 refine exs_cons ?_
 repeat tm_at "d"
 have hl:=fmod_lt (a:=c) (b:=2147483647) (by decide)
 generalize c.fmod 2147483647=n0 at hl ⊢
 refine exs_cons ?_
 refine ex_for_range PassesOwn.never rfl h_range ?_
 repeat tm_at "d"
 refine ⟨_,fun i G' M'=>∃ (n g:Int) (r:Option D),G'=[some (.int c),some (.int n),some (.int g),r]/\M'=M/\0<=n/\n < 2147483647/\0<=g/\Bd g (40 * i+1),rfl,by decide,by decide,⟨n0,1,none,rfl,rfl,hl.1,by omega,by decide,⟨by decide⟩⟩,?_,?_⟩
 ·rintro i G' M' hi ⟨n,g,r,rfl,rfl,hn0,hn1,hg,bg⟩
  refine gv_name 3 nd ?_
  try (refine let_E ?_;intro EL)
  have hi:i < 16:=hi
  have bn:Bd n 40:=.rng (by omega) (by omega)
  have bg2:Bd g 700:=bg.up' (by omega)
  have bi:Bd (i:Int) 40:=.rng (by omega) (by omega)
  repeat tm_at "d"
  have hl2:=fmod_lt (a:=n * n+48271 * (i:Int) * i+i+3) (b:=2147483629) (by decide)
  generalize (n * n+48271 * (i:Int) * i+i+3).fmod 2147483629=n2 at hl2 ⊢
  have bn2:Bd n2 40:=.rng (by omega) (by omega)
  repeat tm_at "d"
  have hl3:=fmod_lt (a:=n2 * n2) (b:=2147483587) (by decide)
  generalize (n2 * n2).fmod 2147483587=n3 at hl3 ⊢
  refine ⟨n2,_,_,rfl,rfl,hl2.1,by omega,by omega,?_⟩
  have bn3:Bd n3 31:=.rng (by omega) (by omega)
  refine ⟨?_⟩
  have h1:=bg.h
  have h2:=bn3.h
  have e:(2:Nat) ^ (40 * (i+1)+1)=2 ^ (40 * i+1) * 2 ^ 40:=by rw [<- Nat.pow_add];congr 1<;>omega
  rw [e]
  have h3:g.natAbs * 2147483587+2 ^ 31<=2 ^ (40 * i+1) * 2 ^ 40:=by
   have hp:1<=2 ^ (40 * i+1):=Nat.pow_pos (by decide)
   omega
  have h4:(g * 2147483587+n3).natAbs<=g.natAbs * 2147483587+n3.natAbs:=by
   have:=Int.natAbs_add_le (g * 2147483587) n3
   rw [Int.natAbs_mul] at this
   exact this
  omega
 ·rintro G' M' ⟨n,g,r,rfl,rfl,hn0,hn1,hg,bg⟩
  refine exs_cons ?_
  repeat tm_at "d"
  refine ifD ?_ ?_
  ·intro _
   repeat tm_at "d"
   intro p hp
   refine q p _ hp ⟨_,_,mset_same,?_,hg⟩ (ext_new hp)
   rw [abs_eq]
   exact Int.fdiv_nonneg (Int.natCast_nonneg _) (by decide)
  ·intro _
   repeat tm_at "d"
   intro p hp
   exact q p _ hp ⟨_,_,mset_same,by decide,hg⟩ (ext_new hp)
local macro_rules | `(tactic| tm_at $s:str)=>namT ["_law_purse_here", "_law_many", "_law_at", "_law_found"] s
theorem ok_l_take (F:Fun K "_law_take" "_law_take" s_l_take f fd) (h_int:mg "int" = none):FnOk P w K mg base CX0 1 f fd P_l_take (liftSp K spTake):=by
 refine fn_D F sc_l_take (fun ds M Q ⟨a,b,e,_⟩=>by subst e;rfl) fun cdv A outer s H EE ds M Q hr h=>?_
 have nd:=sc_l_take.nd
 try (refine let_X ?_;intro X)
 obtain ⟨p,m,rfl,⟨x,y,hp,hx,hy⟩,hm,hl,q⟩:=h
 have dok:∀ z,CDivB z m:=fun z=>Lim.div (by omega) hl
 have key:∀ (n:Int) (v:Int) (j:Nat),ixN 2 n=some j->atI [D.int x,D.int y] n=some (.int v)->0<=v->(∀ r M',0<=r->r < m->M'=mset M p (.lst ([D.int x,D.int y].set j (.int (v.fdiv m))))->Q (.int r) M') ->
   EXs (cxOf CX0 P w K mg base N_l_take "_law_take" (defScope s_l_take) f cdv A outer s H EE).nox [some (.ref p),some (.int m),some (.int n),none] M ((defBody s_l_take).drop 1) { nx:=fun _ M'=>Q .non M',rt:=Q }:=by
  intro n v j hj hv hv0 q
  refine exs_cons ?_
  repeat tm_at "d"
  refine ix_al hp hv ?_
  have d1:=dok v
  repeat tm_at "d"
  refine ix_al hp hv ?_
  repeat tm_at "d"
  refine set_ll hp hj ?_
  repeat tm_at "d"
  have hlt:=fmod_lt (a:=v) (b:=m) hm
  exact q _ _ hlt.1 hlt.2 rfl
 refine exs_cons ?_
 repeat tm_at "d"
 refine ix_al hp rfl ?_
 repeat tm_at "d"
 refine Or.inr ⟨_,rfl,?_⟩
 by_cases c:x=0
 ·rw [decide_eq_true c]
  refine key 1 y 1 rfl rfl hy fun r M' h1 h2 e=>?_
  subst e
  exact q r _ h1 h2 ⟨_,_,mset_same,hx,Int.fdiv_nonneg hy (by omega)⟩ (Kp.put (by simp))
 ·rw [decide_eq_false c]
  refine key 0 x 0 rfl rfl hx fun r M' h1 h2 e=>?_
  subst e
  exact q r _ h1 h2 ⟨_,_,mset_same,Int.fdiv_nonneg hx (by omega),hy⟩ (Kp.put (by simp))
end
section
variable {P:Program} {w:World} {K:PySem.W.Frag} {mg:Str->Option Value} {base:Heap} {f:Addr} {fd:FuncData}
local macro_rules | `(tactic| tm_at $s:str)=>namT ["_law_script", "_law_k"] s
theorem ok_l_cell (F:Fun K "_law_cell" "_law_cell" s_l_cell f fd) (h_len:mg "len" = none):FnOk P w K mg base CX0 1 f fd P_l_cell (liftSp K spCell):=by
 refine fn_D F sc_l_cell (fun ds M Q ⟨a,b,c,e,_⟩=>by subst e;rfl) fun cdv A outer s H EE ds M Q hr h=>?_
 have nd:=sc_l_cell.nd
 try (refine let_X ?_;intro X)
 obtain ⟨l,ns,k,rfl,hl,hc,h63,hk,q⟩:=h
 refine exs_cons ?_
 repeat tm_at "d"
 refine ⟨_,_,rfl,Or.inr ⟨_,hl,rfl⟩,?_⟩
 repeat tm_at "d"
 rw [List.length_map]
 refine ifD ?_ ?_
 ·intro hlt
  repeat tm_at "d"
  obtain ⟨k',rfl⟩:=Int.eq_ofNat_of_zero_le hk
  have hk':k' < ns.length:=by omega
  refine ix_ar (d:=.int ns[k']) hl (atI_nat (by rw [List.getElem?_map,List.getElem?_eq_getElem hk']<;>rfl)) ?_
  exact q _ (hc _ (List.getElem_mem hk'))
 ·intro _
  repeat tm_at "d"
  exact q _ Cell.of
local macro_rules | `(tactic| tm_at $s:str)=>namT ["_law_purse_here"] s
theorem ok_l_number (F:Fun K "_law_number" "_law_number" s_l_number f fd) (C_l_take:Cal P w K mg base 1 "_law_take" spTake):FnOk P w K mg base CX0 2 f fd P_l_number (liftSp K spNumber):=by
 refine fn_D F sc_l_number (fun ds M Q ⟨a,e,_⟩=>by subst e;rfl) fun cdv A outer s H EE ds M Q hr h=>?_
 have nd:=sc_l_number.nd
 try (refine let_X ?_;intro X)
 obtain ⟨p,rfl,pu,q⟩:=h
 refine exs_cons ?_
 repeat tm_at "d"
 refine ⟨_,_,rfl,pu,by decide,lim,fun r M1 h1 h2 pu1 k1=>?_⟩
 repeat tm_at "d"
 refine ifD ?_ ?_
 ·intro _
  repeat tm_at "d"
  intro l hl
  repeat tm_at "d"
  refine ⟨_,_,rfl,pu1.ext (ext_new hl),by decide,lim,fun r2 M2 h3 h4 pu2 k2=>?_⟩
  have hlp:l≠p:=(pu1.ne hl).symm
  have hl2:M2 l=some (.lst [.int 0,.int 1,.int (-1),.int 2,.int (-3),.int 5,.int 1]):=k2.at mset_same (by simp [hlp])
  have hb:∃ b:Int,atI [D.int 0,.int 1,.int (-1),.int 2,.int (-3),.int 5,.int 1] r2=some (.int b)/\B 64 b:=by
   have:r2=0\/r2=1\/r2=2\/r2=3\/r2=4\/r2=5\/r2=6:=by omega
   rcases this with rfl | rfl | rfl | rfl | rfl | rfl | rfl
   ·exact ⟨0,rfl,by unfold B;decide⟩
   ·exact ⟨1,rfl,by unfold B;decide⟩
   ·exact ⟨-1,rfl,by unfold B;decide⟩
   ·exact ⟨2,rfl,by unfold B;decide⟩
   ·exact ⟨-3,rfl,by unfold B;decide⟩
   ·exact ⟨5,rfl,by unfold B;decide⟩
   ·exact ⟨1,rfl,by unfold B;decide⟩
  obtain ⟨b,eb,lb⟩:=hb
  repeat tm_at "d"
  refine ix_al hl2 eb ?_
  exact q b M2 lb pu2 (k1.trans ((Kp.new hl).trans k2))
 ·intro _
  repeat tm_at "d"
  refine ⟨_,_,rfl,pu1,by decide +kernel,lim,fun r2 M2 h3 h4 pu2 k2=>?_⟩
  repeat tm_at "d"
  have bd:Bd (r2 - 10000000000000000000) 64:=.rng (by omega) (by omega)
  exact q _ M2 bd.b pu2 (k1.trans k2)
local macro_rules | `(tactic| tm_at $s:str)=>namT ["_law_purse_here", "_law_names_here", "_law_found", "_law_name", "_law_weight"] s
theorem ok_l_terms (F:Fun K "_law_terms" "_law_terms" s_l_terms f fd) (h_tuple:mg "tuple" = none) (C_l_number:Cal P w K mg base 2 "_law_number" spNumber):FnOk P w K mg base CX0 3 f fd P_l_terms (liftSp K spTerms):=by
 refine fn_D F sc_l_terms (fun ds M Q ⟨a,b,e,_⟩=>by subst e;rfl) fun cdv A outer s H EE ds M Q hr h=>?_
 have nd:=sc_l_terms.nd
 try (refine let_X ?_;intro X)
 obtain ⟨p,ss,rfl,pu,hlen,q⟩:=h
 refine exs_cons ?_
 repeat tm_at "d"
 intro l hl
 have hlp:l≠p:=(pu.ne hl).symm
 refine exs_cons (ex_for_tup PassesOwn.never rfl ?_)
 repeat tm_at "d"
 refine ⟨ss.map D.str,fun i G' M'=>∃ (ts:List (Str × Int)) (r3 r4:Option D),G'=[some (.ref p),some (nms ss),some (.ref l),r3,r4]/\M' l=some (.lst (ts.map tD))/\Terms (ss.take i) ts/\Pu M' p/\Kp [p] M M',rfl,
  ⟨[],none,none,rfl,mset_same,⟨by simp,by simp⟩,pu.ext (ext_new hl),Kp.new hl⟩,?_,?_⟩
 ·rintro i d G' M' hd ⟨ts,r3,r4,rfl,ml,ht,pu',k'⟩
  rw [List.getElem?_map] at hd
  cases hs:ss[i]? with
  | none=>rw [hs] at hd;cases hd
  | some x =>
   rw [hs] at hd
   have hd:D.str x=d:=by simpa using hd
   subst hd
   have hil:i < ss.length:=(List.getElem?_eq_some_iff.mp hs).1
   have htk:ss.take (i+1)=ss.take i++[x]:=by rw [List.take_add_one,hs];rfl
   have hlen2:ts.length<=5:=by
    have:=ht.len
    rw [List.length_take] at this;omega
   repeat tm_at "d"
   refine ⟨_,rfl,pu',fun n M2 ln pu2 k2=>?_⟩
   have ml2:M2 l=some (.lst (ts.map tD)):=k2.at ml (by simp [hlp])
   repeat tm_at "d"
   refine ifN ?_ ?_
   ·intro hn
    repeat tm_at "d"
    refine ⟨l,rfl,⟨_,ml2⟩,?_⟩
    repeat tm_at "d"
    refine ⟨_,ml2,small1000 (by rw [List.length_map];omega),?_⟩
    refine ⟨ts++[(x,n)],_,_,rfl,?_,⟨?_,?_⟩,?_,?_⟩
    ·rw [mset_same,List.map_append];rfl
    ·rw [htk,List.map_append]
     exact List.Sublist.append ht.sub (List.Sublist.refl _)
    ·intro t hmem
     rcases List.mem_append.mp hmem with hmem | hmem
     ·exact ht.wt t hmem
     ·rw [List.mem_singleton.mp hmem];exact ⟨hn,ln⟩
    ·obtain ⟨a,b,e,ha,hb⟩:=pu2
     exact ⟨a,b,by rw [mset_ne hlp.symm];exact e,ha,hb⟩
    ·intro b o hb e
     rw [mset_ne (ne_fresh e hl)]
     exact (k'.trans k2) b o hb e
   ·intro hn
    refine exs_nil ?_
    refine ⟨ts,_,_,rfl,ml2,⟨?_,ht.wt⟩,pu2,k'.trans k2⟩
    rw [htk]
    exact ht.sub.trans (List.sublist_append_left _ _)
 ·rintro G' M' ⟨ts,r3,r4,rfl,ml,ht,pu',k'⟩
  rw [List.length_map,List.take_length] at ht
  repeat tm_at "d"
  refine ⟨_,rfl,_,ml,?_⟩
  exact q ts M' ht pu' k'
end
section
variable {P:Program} {w:World} {K:PySem.W.Frag} {mg:Str->Option Value} {base:Heap} {f:Addr} {fd:FuncData}
local macro_rules | `(tactic| tm_at $s:str)=>namT ["_law_purse_here", "_law_names_here", "_law_by", "_law_terms_here"] s
theorem ok_l_sum (F:Fun K "_law_sum" "_law_sum" s_l_sum f fd) (C_l_take:Cal P w K mg base 1 "_law_take" spTake) (C_l_terms:Cal P w K mg base 3 "_law_terms" spTerms) (C_l_number:Cal P w K mg base 2 "_law_number" spNumber):FnOk P w K mg base CX0 4 f fd P_l_sum (liftSp K spSum):=by
 refine fn_D F sc_l_sum (fun ds M Q ⟨a,b,e,_⟩=>by subst e;rfl) fun cdv A outer s H EE ds M Q hr h=>?_
 have nd:=sc_l_sum.nd
 try (refine let_X ?_;intro X)
 obtain ⟨p,ss,rfl,pu,hlen,q⟩:=h
 refine exs_cons ?_
 repeat tm_at "d"
 intro l hl
 repeat tm_at "d"
 refine ⟨_,_,rfl,pu.ext (ext_new hl),by decide,lim,fun r M1 h1 h2 pu1 k1=>?_⟩
 have hlp:l≠p:=(pu.ne hl).symm
 have hl1:M1 l=some (.lst [.int 1,.int 1,.int 2,.int 1,.int 3,.int 0]):=k1.at mset_same (by simp [hlp])
 have hb:∃ b:Int,atI [D.int 1,.int 1,.int 2,.int 1,.int 3,.int 0] r=some (.int b)/\0<=b/\b<=3:=by
  have:r=0\/r=1\/r=2\/r=3\/r=4\/r=5:=by omega
  rcases this with rfl | rfl | rfl | rfl | rfl | rfl
  ·exact ⟨1,rfl,by decide,by decide⟩
  ·exact ⟨1,rfl,by decide,by decide⟩
  ·exact ⟨2,rfl,by decide,by decide⟩
  ·exact ⟨1,rfl,by decide,by decide⟩
  ·exact ⟨3,rfl,by decide,by decide⟩
  ·exact ⟨0,rfl,by decide,by decide⟩
 obtain ⟨b,eb,hb0,hb3⟩:=hb
 have k2:Kp [p] M M1:=(Kp.new hl).trans k1
 repeat tm_at "d"
 refine ix_al hl1 eb ?_
 refine exs_join (fun G' M'=>∃ b:Int,G'=[some (.ref p),some (nms ss),some (.int b),none]/\Kp [p] M M'/\Pu M' p/\0 < b/\B 64 b) ?_ ?_
 ·repeat tm_at "d"
  refine ifD ?_ ?_
  ·intro _
   repeat tm_at "d"
   refine ⟨_,_,rfl,pu1,by decide +kernel,lim,fun r2 M2 h3 h4 pu2 k3=>?_⟩
   repeat tm_at "d"
   have bd:Bd (1+r2) 64:=.rng (by omega) (by omega)
   exact ⟨_,rfl,k2.trans k3,pu2,by omega,bd.b⟩
  ·intro _
   refine exs_nil ?_
   have bd:Bd b 64:=.rng (by omega) (by omega)
   exact ⟨_,rfl,k2,pu1,by omega,bd.b⟩
 rintro G' M' ⟨b,rfl,k,pu,hb,lb⟩
 repeat tm_at "d"
 refine ⟨_,_,rfl,pu,hlen,fun ts M2 ht pu2 k3=>?_⟩
 repeat tm_at "d"
 refine ⟨_,rfl,pu2,fun n M3 ln pu3 k4=>?_⟩
 repeat tm_at "d"
 exact q ts n b M3 ht ln hb lb pu3 (k.trans (k3.trans k4))
end
theorem letters_at (r:Int) (h0:0<=r) (h1:r < 26):atI (Str.cps "abcdefghijklmnopqrstuvwxyz").toList r=some (97+r.toNat):=by
 obtain ⟨k,rfl⟩:=Int.eq_ofNat_of_zero_le h0
 refine atI_nat ?_
 have hk:k < 26:=by omega
 have:∀ k:Fin 26,(Str.cps "abcdefghijklmnopqrstuvwxyz").toList[k.val]?=some (97+k.val):=by decide +kernel
 exact this ⟨k,hk⟩
def nthL (c:Int) (k:Nat):Str:=⟨#[97+((c.fmod 26+7 * (k:Int)).fmod 26).toNat]⟩
def nameF (c:Int):D->D
 | .int k=>.str (nthL c k.toNat)
 | _=>.non
theorem nthL_letter (c:Int) (k:Nat):Letter (nthL c k):=by
 have:=fmod_lt (a:=c.fmod 26+7 * (k:Int)) (b:=26) (by decide)
 exact ⟨_,by omega,by omega,rfl⟩
theorem nthL_inj {c:Int} {i j:Nat} (hi:i < 3) (hj:j < 3) (h:nthL c i=nthL c j):i=j:=by
 have h1:=fmod_lt (a:=c.fmod 26+7 * (i:Int)) (b:=26) (by decide)
 have h2:=fmod_lt (a:=c.fmod 26+7 * (j:Int)) (b:=26) (by decide)
 have e:97+((c.fmod 26+7 * (i:Int)).fmod 26).toNat=97+((c.fmod 26+7 * (j:Int)).fmod 26).toNat:=by
  have:=congrArg (fun s:Str=>s.cps[0]?) h
  simpa [nthL] using this
 have e2:(c.fmod 26+7 * (i:Int)).fmod 26=(c.fmod 26+7 * (j:Int)).fmod 26:=by omega
 generalize c.fmod 26=a at *
 rw [Int.fmod_eq_emod_of_nonneg (a+7 * (i:Int)) (by decide),Int.fmod_eq_emod_of_nonneg (a+7 * (j:Int)) (by decide)] at e2
 omega
section
variable {P:Program} {w:World} {K:PySem.W.Frag} {mg:Str->Option Value} {base:Heap} {f:Addr} {fd:FuncData}
local macro_rules | `(tactic| tm_at $s:str)=>namT ["_law_cell_here", "_law_letters"] s
theorem ok_l_names (F:Fun K "_law_names" "_law_names" s_l_names f fd) (h_tuple:mg "tuple" = none) (h_sorted:mg "sorted" = none) (h_range:mg "range" = none):FnOk P w K mg base CX0 1 f fd P_l_names (liftSp K spNames):=by
 refine fn_D F sc_l_names (fun ds M Q ⟨a,e,_⟩=>by subst e;rfl) fun cdv A outer s H EE ds M Q hr h=>?_
 have nd:=sc_l_names.nd
 try (refine let_X ?_;intro X)
 obtain ⟨c,rfl,hc,q⟩:=h
 have bc:=hc.bd
 refine exs_cons ?_
 repeat tm_at "d"
 with_reducible refine' ev_comp_range (own:=["_law_k"]) (js:=[1,0]) (N:=["_law_k", "_law_letters", "_law_cell_here"]) ?T ?xe ?ca ?hm (nameF c) (fun _=>true) ?_ ?hg ?hse ?hs
 case T=>exact compOk_freeB (fs:=["_law_letters", "_law_cell_here"]) rfl (by decide +kernel) (by decide +kernel) rfl rfl rfl rfl rfl
 case xe=>rfl
 case ca=>rfl
 case hm=>exact h_range
 case hg=>rfl
 case hse=>rfl
 case hs=>(intro _;rfl)
 repeat tm_at "d"
 have h3:=fmod_lt (a:=(c.fdiv 26)) (b:=3) (by decide)
 generalize hm:(c.fdiv 26).fmod 3=m at h3 ⊢
 refine ⟨by omega,by omega,?_,?_⟩
 ·rintro Y ⟨C',s',H',fp,rfl⟩ M' hM i hi
  refine gv_name 0 (by show (["_law_k", "_law_letters", "_law_cell_here"] : List Str).Nodup;decide +kernel) ?_
  refine ⟨rfl,fun i d e=>?_,tvs_nil ⟨rfl,rfl⟩,fun _=>?_⟩
  ·rcases i with _ | i
   ·simp [compG] at e
   ·exact e
  ·have hi':(i:Int) < 3:=by omega
   have bi:Bd (i:Int) 40:=.rng (by omega) (by omega)
   repeat first | (refine ev_var 0 ?_) | (refine ev_var 1 ?_) | (refine ev_var 2 ?_) | tm_at "d"
   have hr26:=fmod_lt (a:=c.fmod 26+7 * (i:Int)) (b:=26) (by decide)
   refine ix_as (by decide) (letters_at _ hr26.1 hr26.2) ?_
   exact ⟨rfl,rfl⟩
 ·intro p0 hp0
  have hmap:((((List.range (1+m).toNat).map fun i:Nat=>D.int i).filter fun _=>true).map (nameF c))=((List.range (1+m).toNat).map (nthL c)).map D.str:=by
   rw [List.filter_eq_self.mpr (by simp),List.map_map,List.map_map]
   rfl
  rw [hmap]
  have hnd:((List.range (1+m).toNat).map (nthL c)).Nodup:=by
   have hb:(1+m).toNat<=3:=by omega
   unfold List.Nodup
   rw [List.pairwise_map]
   refine List.Pairwise.imp_of_mem (R:=fun a b=>a≠b) (fun {a b} ha hb' hne e=>hne (nthL_inj (c:=c) (by have:=List.mem_range.mp ha;omega) (by have:=List.mem_range.mp hb';omega) e)) List.nodup_range
  generalize hss:(List.range (1+m).toNat).map (nthL c)=ss at hnd
  have hsl:ss.length=(1+m).toNat:=by rw [<- hss,List.length_map,List.length_range]
  repeat tm_at "d"
  refine ⟨p0,ss,rfl,mset_same,by omega,fun p1 ss' hp1 hperm hsort=>?_⟩
  repeat tm_at "d"
  refine ⟨_,rfl,_,mset_same,?_⟩
  refine q ss' _ ⟨by rw [hperm.length_eq];omega,by rw [hperm.length_eq];omega,hperm.nodup_iff.mpr hnd,fun s hs=>?_⟩ (by rw [hperm.length_eq];omega) (Ext.trans (ext_new hp0) (ext_new hp1))
  have:=hperm.mem_iff.mp hs
  rw [<- hss] at this
  obtain ⟨k,_,rfl⟩:=List.mem_map.mp this
  exact nthL_letter c k
end
section
variable {P:Program} {w:World} {K:PySem.W.Frag} {mg:Str->Option Value} {base:Heap} {f:Addr} {fd:FuncData}
local macro_rules | `(tactic| tm_at $s:str)=>namT ["_law_purse_here", "_law_names_here", "_law_word", "_law_terms_here"] s
theorem ok_l_row (F:Fun K "_law_row" "_law_row" s_l_row f fd) (C_l_take:Cal P w K mg base 1 "_law_take" spTake) (C_l_terms:Cal P w K mg base 3 "_law_terms" spTerms) (C_l_number:Cal P w K mg base 2 "_law_number" spNumber):FnOk P w K mg base CX0 4 f fd P_l_row (liftSp K spRow):=by
 refine fn_D F sc_l_row (fun ds M Q ⟨a,b,e,_⟩=>by subst e;rfl) fun cdv A outer s H EE ds M Q hr h=>?_
 have nd:=sc_l_row.nd
 try (refine let_X ?_;intro X)
 obtain ⟨p,ss,rfl,pu,hlen,q⟩:=h
 refine exs_cons ?_
 repeat tm_at "d"
 intro l hl
 repeat tm_at "d"
 refine ⟨_,_,rfl,pu.ext (ext_new hl),by decide,lim,fun r M1 h1 h2 pu1 k1=>?_⟩
 have hlp:l≠p:=(pu.ne hl).symm
 have hl1:M1 l=some (.lst [.str "least",.str "more"]):=k1.at mset_same (by simp [hlp])
 have hb:∃ k:Bool,atI [D.str "least",.str "more"] r=some (.str (word k)):=by
  have:r=0\/r=1:=by omega
  rcases this with rfl | rfl
  ·exact ⟨true,rfl⟩
  ·exact ⟨false,rfl⟩
 obtain ⟨k,eb⟩:=hb
 have k2:Kp [p] M M1:=(Kp.new hl).trans k1
 repeat tm_at "d"
 refine ix_al hl1 eb ?_
 repeat tm_at "d"
 refine ⟨_,_,rfl,pu1,hlen,fun ts M2 ht pu2 k3=>?_⟩
 repeat tm_at "d"
 refine ⟨_,rfl,pu2,fun n M3 ln pu3 k4=>?_⟩
 repeat tm_at "d"
 exact q k ts n M3 ht ln pu3 (k2.trans (k3.trans k4))
end
section
variable {P:Program} {w:World} {K:PySem.W.Frag} {mg:Str->Option Value} {base:Heap} {f:Addr} {fd:FuncData}
local macro_rules | `(tactic| tm_at $s:str)=>namT ["_law_state", "_law_at"] s
theorem ok_l_next (F:Fun K "_law_next" "_law_next" s_l_next f fd) (h_len:mg "len" = none) (C_l_purse:Cal P w K mg base 1 "_law_purse" spPurse):FnOk P w K mg base CX0 2 f fd P_l_next (liftSp K spNext):=by
 refine fn_D F sc_l_next (fun ds M Q ⟨a,b,c,d,e,h,_⟩=>by subst h;rfl) fun cdv A outer s H EE ds M Q hr h=>?_
 have nd:=sc_l_next.nd
 try (refine let_X ?_;intro X)
 obtain ⟨p,c,cs,i,n,rfl,st,hcs,q⟩:=h
 refine exs_cons ?_
 repeat tm_at "d"
 refine ix_al st.st rfl ?_
 repeat tm_at "d"
 refine set_ll st.st rfl ?_
 generalize hM2:mset M p _=M2
 obtain ⟨st2,k2,fr2⟩:=st.upd (j:=i+1) (m:=n) hM2 rfl
 refine exs_cons ?_
 repeat tm_at "d"
 refine ix_al st2.st rfl ?_
 repeat tm_at "d"
 refine ⟨_,_,rfl,Or.inl ⟨_,st2.cl,rfl⟩,?_⟩
 rw [List.length_map]
 repeat tm_at "d"
 refine ifD ?_ ?_
 ·intro hlt
  have hlt:i < cs.length:=by omega
  repeat tm_at "d"
  refine ix_al st2.st rfl ?_
  repeat tm_at "d"
  refine ix_al (d:=.int cs[i]) st2.cl (atI_nat (by rw [List.getElem?_map,List.getElem?_eq_getElem hlt]<;>rfl)) ?_
  repeat tm_at "d"
  refine ⟨_,rfl,hcs.2 _ (List.getElem_mem _),fun q2 M3 hq2 pu k3=>?_⟩
  exact q q2 M3 (fr2 _ hq2) pu (st2.ext k3) (k2.trans (Kp.ext k3))
 ·intro _
  repeat tm_at "d"
  intro q2 hq2
  exact q q2 _ (fr2 _ hq2) ⟨0,0,mset_same,by decide,by decide⟩ (st2.ext (ext_new hq2)) (k2.trans (Kp.new hq2))
end
section
variable {P:Program} {w:World} {K:PySem.W.Frag} {mg:Str->Option Value} {base:Heap} {f:Addr} {fd:FuncData}
theorem name_at {ss:List Str} (h:Names ss) {r:Int} (h0:0<=r) (h1:r < ss.length):∃ x,atI (ss.map D.str) r=some (.str x)/\x∈ss:=by
 obtain ⟨k,rfl⟩:=Int.eq_ofNat_of_zero_le h0
 have hk:k < ss.length:=by omega
 exact ⟨ss[k],atI_nat (by rw [List.getElem?_map,List.getElem?_eq_getElem hk]<;>rfl),List.getElem_mem hk⟩
local macro_rules | `(tactic| tm_at $s:str)=>namT ["_law_state", "_law_names_here", "_law_depth", "_law_purse_here", "_law_sort", "_law_row_here", "_law_many", "_law_name"] s
theorem ok_l_statement {d k:Nat} (hd1:1<=d) (hd:d<=4) (hk:4<=k) (F:Fun K "_law_statement" "_law_statement" s_l_statement f fd) (h_len:mg "len" = none) (h_tuple:mg "tuple" = none) (h_range:mg "range" = none) (h_min:mg "min" = none)
  (C_l_next:Cal P w K mg base 2 "_law_next" spNext) (C_l_take:Cal P w K mg base 1 "_law_take" spTake) (C_l_row:Cal P w K mg base 4 "_law_row" spRow) (C_l_sum:Cal P w K mg base 4 "_law_sum" spSum)
  (hL:d < 4->Cal P w K mg base k "_law_loop" (spLoop d)) (hB:d < 4->Cal P w K mg base k "_law_block" (spBlock (d+1))):FnOk P w K mg base CX0 (k+1) f fd P_l_statement (liftSp K (spStmt d)):=by
 refine fn_D F sc_l_statement (fun ds M Q ⟨a,b,c,d,e,g,h,_⟩=>by subst h;rfl) fun cdv A outer s H EE ds M Q hr h=>?_
 have nd:=sc_l_statement.nd
 try (refine let_X ?_;intro X)
 obtain ⟨p,c,cs,i,n,ss,rfl,st,hcs,hss,q⟩:=h
 refine exs_cons ?_
 repeat tm_at "d"
 refine ⟨p,c,cs,i,n,rfl,st,hcs,fun u M1 hu pu st1 k1=>?_⟩
 have hup:u≠p:=(ne_fresh st.st hu).symm
 have huc:u≠c:=(ne_fresh st.cl hu).symm
 repeat tm_at "d"
 refine ⟨_,_,rfl,pu,by decide,lim,fun r M2 h1 h2 pu2 k2=>?_⟩
 have st2:=st1.kp k2 (by simp [hup.symm]) (by simp [huc.symm])
 have kp2:∀ {M3:MH},Kp [p,u] M2 M3->Kp [p] M M3:=fun {M3} k3=>by
  intro b o hb e
  have hbu:b≠u:=ne_fresh e hu
  exact k3 b o (by simp at hb ⊢;exact ⟨hb,hbu⟩) (k2 b o (by simp [hbu]) (k1 b o hb e))
 repeat tm_at "d"
 refine exs_join (fun G' M'=>G'=[some (.ref p),some (nms ss),some (.int d),some (.ref u),some (.int r),none,none,none]/\M2=M') ?_ ?_
 ·repeat tm_at "d"
  refine ifD ?_ ?_
  ·intro _
   repeat tm_at "d"
   refine ifD ?_ ?_
   ·intro hd4
    have hd4:d < 4:=by omega
    repeat tm_at "d"
    refine ix_al st2.st rfl ?_
    repeat tm_at "d"
    refine ifD ?_ ?_
    ·intro hl
     have C_l_loop:=hL hd4
     repeat tm_at "d"
     refine ⟨p,c,cs,i+1,n,ss,u,rfl,st2,hcs,hss,pu2,hup,huc,by omega,fun st' j m M3 hj s3 hw hdp htk k3=>?_⟩
     exact q st' j m M3 (by omega) s3 hw hdp htk (kp2 k3)
    ·intro _
     refine exs_nil ?_
     exact ⟨rfl,rfl⟩
   ·intro _
    refine exs_nil ?_
    exact ⟨rfl,rfl⟩
  ·intro _
   refine exs_nil ?_
   exact ⟨rfl,rfl⟩
 rintro G' M' ⟨rfl,rfl⟩
 refine exs_join (fun G' M'=>G'=[some (.ref p),some (nms ss),some (.int d),some (.ref u),some (.int r),none,none,none]/\M2=M') ?_ ?_
 ·repeat tm_at "d"
  refine ifD ?_ ?_
  ·intro _
   repeat tm_at "d"
   refine ifD ?_ ?_
   ·intro hd4
    have hd4:d < 4:=by omega
    repeat tm_at "d"
    refine ix_al st2.st rfl ?_
    repeat tm_at "d"
    refine ifD ?_ ?_
    ·intro hl
     have C_l_block:=hB hd4
     repeat tm_at "d"
     refine ix_al st2.st rfl ?_
     repeat tm_at "d"
     refine set_ll st2.st rfl ?_
     rw [cast1 (by omega)]
     generalize hM3:mset M2 p _=M3
     obtain ⟨st3,k3,fr3⟩:=st2.upd (j:=i+1) (m:=⟨n.s,n.b - 1,n.l,n.a,n.n⟩) hM3 rfl
     repeat tm_at "d"
     have st4:=st3
     have kk4:Kp [p,u] M2 M3:=k3.mono (by simp)
     refine ⟨p,c,cs,i+1,_,ss,rfl,st4,hcs,hss,fun b1 j1 m1 M5 hj1 st5 hw1 hd1 tk1 k5=>?_⟩
     repeat tm_at "d"
     refine ⟨p,c,cs,j1,_,ss,rfl,st5,hcs,hss,fun b2 j2 m2 M6 hj2 st6 hw2 hd2 tk2 k6=>?_⟩
     repeat tm_at "d"
     obtain ⟨a1,a2,a3,a4,a5⟩:=tk1
     obtain ⟨c1,c2,c3,c4,c5⟩:=tk2
     have e1:=dps_le (n:=4 - d) fun s hs=>by have:=hd1 s hs;omega
     have e2:=dps_le (n:=4 - d) fun s hs=>by have:=hd2 s hs;omega
     refine q (.choose b1 b2) j2 m2 M6 (by omega) st6 (by simp only [wf];exact ⟨hw1,hw2⟩) (by simp only [dp];omega) ?_ (kp2 (kk4.trans ((k5.mono (by simp)).trans (k6.mono (by simp)))))
     simp only [Took,tt,Cnt.add] at *
     omega
    ·intro _
     refine exs_nil ?_
     exact ⟨rfl,rfl⟩
   ·intro _
    refine exs_nil ?_
    exact ⟨rfl,rfl⟩
  ·intro _
   refine exs_nil ?_
   exact ⟨rfl,rfl⟩
 rintro G' M' ⟨rfl,rfl⟩
 refine exs_join (fun G' M'=>G'=[some (.ref p),some (nms ss),some (.int d),some (.ref u),some (.int r),none,none,none]/\M2=M') ?_ ?_
 ·repeat tm_at "d"
  refine ifD ?_ ?_
  ·intro _
   repeat tm_at "d"
   refine ifD ?_ ?_
   ·intro hd4
    have hd4:d < 4:=by omega
    repeat tm_at "d"
    refine ix_al st2.st rfl ?_
    repeat tm_at "d"
    refine ifD ?_ ?_
    ·intro hl
     have C_l_block:=hB hd4
     repeat tm_at "d"
     refine ix_al st2.st rfl ?_
     repeat tm_at "d"
     refine set_ll st2.st rfl ?_
     rw [cast1 (by omega)]
     generalize hM3:mset M2 p _=M3
     obtain ⟨st3,k3,fr3⟩:=st2.upd (j:=i+1) (m:=⟨n.s,n.b - 1,n.l,n.a,n.n⟩) hM3 rfl
     repeat tm_at "d"
     refine ⟨u,ss,rfl,pu2.kp k3 (by simp [hup]),hss.le,fun kk ts wb M4 ht bw pu4 k4=>?_⟩
     have st4:=st3.kp k4 (by simp [hup.symm]) (by simp [huc.symm])
     have kk4:Kp [p,u] M2 M4:=(k3.mono (by simp)).trans (k4.mono (by simp))
     repeat tm_at "d"
     refine ⟨p,c,cs,i+1,_,ss,rfl,st4,hcs,hss,fun b1 j1 m1 M5 hj1 st5 hw1 hd1 tk1 k5=>?_⟩
     repeat tm_at "d"
     refine ⟨p,c,cs,j1,_,ss,rfl,st5,hcs,hss,fun b2 j2 m2 M6 hj2 st6 hw2 hd2 tk2 k6=>?_⟩
     repeat tm_at "d"
     obtain ⟨a1,a2,a3,a4,a5⟩:=tk1
     obtain ⟨c1,c2,c3,c4,c5⟩:=tk2
     have e1:=dps_le (n:=4 - d) fun s hs=>by have:=hd1 s hs;omega
     have e2:=dps_le (n:=4 - d) fun s hs=>by have:=hd2 s hs;omega
     refine q (.ite (kk,ts,wb) b1 b2) j2 m2 M6 (by omega) st6 (by simp only [wf];exact ⟨⟨ht,bw⟩,hw1,hw2⟩) (by simp only [dp];omega) ?_ (kp2 (kk4.trans ((k5.mono (by simp)).trans (k6.mono (by simp)))))
     simp only [Took,tt,Cnt.add] at *
     omega
    ·intro _
     refine exs_nil ?_
     exact ⟨rfl,rfl⟩
   ·intro _
    refine exs_nil ?_
    exact ⟨rfl,rfl⟩
  ·intro _
   refine exs_nil ?_
   exact ⟨rfl,rfl⟩
 rintro G' M' ⟨rfl,rfl⟩
 refine exs_join (fun G' M'=>G'=[some (.ref p),some (nms ss),some (.int d),some (.ref u),some (.int r),none,none,none]/\M2=M') ?_ ?_
 ·repeat tm_at "d"
  refine ifD ?_ ?_
  ·intro _
   repeat tm_at "d"
   refine ix_al st2.st rfl ?_
   repeat tm_at "d"
   refine ifD ?_ ?_
   ·intro hl
    repeat tm_at "d"
    refine ix_al st2.st rfl ?_
    repeat tm_at "d"
    refine set_ll st2.st rfl ?_
    rw [cast1 (by omega)]
    generalize hM3:mset M2 p _=M3
    obtain ⟨st3,k3,fr3⟩:=st2.upd (j:=i+1) (m:=⟨n.s,n.b,n.l,n.a - 1,n.n⟩) hM3 rfl
    repeat tm_at "d"
    refine ⟨_,_,rfl,rfl,?_⟩
    rw [List.length_map]
    repeat tm_at "d"
    have hs1:=hss.pos
    have hs3:=hss.le
    have bl:Bd (ss.length:Int) 40:=.rng (by omega) (by omega)
    refine ⟨_,_,rfl,pu2.kp k3 (by simp [hup]),by omega,lim,fun r2 M4 h3 h4 pu4 k4=>?_⟩
    obtain ⟨x,ex,hx⟩:=name_at hss h3 h4
    repeat tm_at "d"
    refine ix_at ex ?_
    repeat tm_at "d"
    refine q (.any x) (i+1) ⟨n.s,n.b,n.l,n.a - 1,n.n⟩ M4 (by omega) (st3.kp k4 (by simp [hup.symm]) (by simp [huc.symm])) (by simp only [wf];exact hx) (by simp only [dp];omega) ?_ (kp2 ((k3.mono (by simp)).trans (k4.mono (by simp))))
    refine ⟨?_,?_,?_,?_,?_⟩<;>simp only [tt]<;>omega
   ·intro _
    refine exs_nil ?_
    exact ⟨rfl,rfl⟩
  ·intro _
   refine exs_nil ?_
   exact ⟨rfl,rfl⟩
 rintro G' M' ⟨rfl,rfl⟩
 refine exs_join (fun G' M'=>G'=[some (.ref p),some (nms ss),some (.int d),some (.ref u),some (.int r),none,none,none]/\M2=M') ?_ ?_
 ·repeat tm_at "d"
  refine ifD ?_ ?_
  ·intro _
   repeat tm_at "d"
   refine ix_al st2.st rfl ?_
   repeat tm_at "d"
   refine ifD ?_ ?_
   ·intro hl
    repeat tm_at "d"
    refine ix_al st2.st rfl ?_
    repeat tm_at "d"
    refine ⟨_,_,rfl,pu2,by decide,lim,fun r2 M3 h3 h4 pu3 k3=>?_⟩
    have st3:=st2.kp k3 (by simp [hup.symm]) (by simp [huc.symm])
    repeat tm_at "d"
    obtain ⟨many,hmany⟩:∃ many:Nat,(many:Int)=(if 1+r2 < (n.n:Int) then 1+r2 else (n.n:Int)):=⟨(if 1+r2 < (n.n:Int) then 1+r2 else (n.n:Int)).toNat,by split<;>omega⟩
    have hm1:1<=many/\many<=2/\many<=n.n:=by split at hmany<;>omega
    rw [<- hmany]
    refine ix_al st3.st rfl ?_
    repeat tm_at "d"
    refine set_ll st3.st rfl ?_
    have ec:(n.n:Int) - (many:Int)=((n.n - many:Nat):Int):=by omega
    rw [ec]
    generalize hM4:mset M3 p _=M4
    obtain ⟨st4,k4,fr4⟩:=st3.upd (j:=i+1) (m:=⟨n.s,n.b,n.l,n.a,n.n - many⟩) hM4 rfl
    have pu4:=pu3.kp k4 (by simp [hup])
    repeat tm_at "d"
    with_reducible refine' ev_compR (own:=["_law_k"]) (js:=[3,1]) (N:=["_law_k", "_law_purse_here", "_law_names_here"]) ?T ?xe ?ca ?hm ?_ ?hg ?hse ?hs
    case T=>exact compOk_freeB (fs:=["_law_purse_here", "_law_names_here"]) rfl (by decide +kernel) (by decide +kernel) rfl rfl rfl rfl rfl
    case xe=>rfl
    case ca=>rfl
    case hm=>exact h_range
    case hg=>rfl
    case hse=>rfl
    case hs=>(intro _;rfl)
    repeat tm_at "d"
    refine ⟨_,fun q2 i2 acc M5=>∃ rs:List Rw,acc=rs.map rwD/\rs.length=i2/\(∀ x∈rs,WfR ss x)/\M4 q2=none/\Stt M5 p c cs (i+1) ⟨n.s,n.b,n.l,n.a,n.n - many⟩/\Pu M5 u/\Kp [p,u] M4 M5,rfl,by omega,by omega,?_,?_,?_⟩
    ·intro q2 hq2
     exact ⟨[],rfl,rfl,by simp,hq2,st4.ext (ext_new hq2),pu4.ext (ext_new hq2),Kp.new hq2⟩
    ·rintro Y ⟨C',s',H',fp,rfl⟩ q2 i2 acc M5 hi2 ⟨rs,rfl,hrl,hrw,hq2,st5,pu5,k5⟩ hacc
     refine gv_name 0 (by show (["_law_k", "_law_purse_here", "_law_names_here"] : List Str).Nodup;decide +kernel) ?_
     refine ⟨rfl,fun i d e=>?_,?_⟩
     ·rcases i with _ | i
      ·simp [compG] at e
      ·exact e
     repeat first | (refine ev_var 1 ?_) | (refine ev_var 2 ?_) | tm_at "d"
     refine ⟨u,ss,rfl,pu5,hss.le,fun kk ts wb M6 ht bw pu6 k6=>?_⟩
     have hqp:q2≠p:=fun z=>by rw [z,st4.st] at hq2;cases hq2
     have hqc:q2≠c:=fun z=>by rw [z,st4.cl] at hq2;cases hq2
     have hqu:q2≠u:=(pu4.ne hq2).symm
     have hrl2:rs.length<=2:=by omega
     refine ⟨k6.at hacc (by simp [hqu]),small1000 (by rw [List.length_map];omega),rs++[(kk,ts,wb)],by rw [List.map_append];rfl,by rw [List.length_append,hrl];rfl,fun x hx=>?_,hq2,?_,?_,?_⟩
     ·rcases List.mem_append.mp hx with hx | hx
      ·exact hrw x hx
      ·rw [List.mem_singleton.mp hx];exact ⟨ht,bw⟩
     ·have:=st5.kp k6 (by simp [hup.symm]) (by simp [huc.symm])
      exact ⟨by rw [mset_ne hqp.symm];exact this.st,by rw [mset_ne hqc.symm];exact this.cl⟩
     ·obtain ⟨a,b,e,ha,hb⟩:=pu6
      exact ⟨a,b,by rw [mset_ne hqu.symm];exact e,ha,hb⟩
     ·intro b o hb e
      rw [mset_ne (ne_fresh e hq2)]
      exact k6 b o (by simp at hb ⊢;exact hb.2) (k5 b o hb e)
    rintro q2 acc M5 ⟨rs,rfl,hrl,hrw,hq2,st5,pu5,k5⟩ hacc
    have hrl:rs.length=many:=by omega
    repeat tm_at "d"
    refine ⟨_,rfl,_,hacc,?_⟩
    repeat tm_at "d"
    refine q (.note rs) (i+1) ⟨n.s,n.b,n.l,n.a,n.n - many⟩ M5 (by omega) st5 (by simp only [wf];exact ⟨hrw,by omega,by omega⟩) (by simp only [dp];omega) ?_ (kp2 ((k3.mono (by simp)).trans ((k4.mono (by simp)).trans k5)))
    refine ⟨?_,?_,?_,?_,?_⟩<;>simp only [tt]<;>omega
   ·intro _
    refine exs_nil ?_
    exact ⟨rfl,rfl⟩
  ·intro _
   refine exs_nil ?_
   exact ⟨rfl,rfl⟩
 rintro G' M' ⟨rfl,rfl⟩
 repeat tm_at "d"
 refine ⟨_,_,rfl,rfl,?_⟩
 rw [List.length_map]
 repeat tm_at "d"
 have hs1:=hss.pos
 have hs3:=hss.le
 have bl:Bd (ss.length:Int) 40:=.rng (by omega) (by omega)
 refine ⟨_,_,rfl,pu2,by omega,lim,fun r2 M3 h3 h4 pu3 k3=>?_⟩
 obtain ⟨x,ex,hx⟩:=name_at hss h3 h4
 repeat tm_at "d"
 refine ix_at ex ?_
 repeat tm_at "d"
 refine ⟨u,ss,rfl,pu3,hss.le,fun ts wb by0 M4 ht bw hb lb pu4 k4=>?_⟩
 repeat tm_at "d"
 have st4:=(st2.kp k3 (by simp [hup.symm]) (by simp [huc.symm])).kp k4 (by simp [hup.symm]) (by simp [huc.symm])
 refine q (.set x (ts,wb,by0)) (i+1) n M4 (by omega) st4 (by simp only [wf];exact ⟨hx,ht,bw,hb,lb⟩) (by simp only [dp];omega) ?_ (kp2 ((k3.mono (by simp)).trans (k4.mono (by simp))))
 refine ⟨?_,?_,?_,?_,?_⟩<;>simp only [tt]<;>omega
end
section
variable {P:Program} {w:World} {K:PySem.W.Frag} {mg:Str->Option Value} {base:Heap} {f:Addr} {fd:FuncData}
local macro_rules | `(tactic| tm_at $s:str)=>namT ["_law_state", "_law_names_here", "_law_depth", "_law_purse_here", "_law_row_here", "_law_rows", "_law_measure", "_law_left", "_law_block_here"] s
theorem ok_l_loop {d k:Nat} (hd1:1<=d) (hd:d < 4) (hk:4<=k) (F:Fun K "_law_loop" "_law_loop" s_l_loop f fd) (h_tuple:mg "tuple" = none) (h_range:mg "range" = none) (h_abs:mg "abs" = none)
  (C_l_take:Cal P w K mg base 1 "_law_take" spTake) (C_l_row:Cal P w K mg base 4 "_law_row" spRow) (C_l_sum:Cal P w K mg base 4 "_law_sum" spSum) (C_l_number:Cal P w K mg base 2 "_law_number" spNumber)
  (C_l_block:Cal P w K mg base k "_law_block" (spBlock (d+1))):FnOk P w K mg base CX0 (k+1) f fd P_l_loop (liftSp K (spLoop d)):=by
 refine fn_D F sc_l_loop (fun ds M Q ⟨a,b,c,d,e,g,h,i,_⟩=>by subst i;rfl) fun cdv A outer s H EE ds M Q hr h=>?_
 have nd:=sc_l_loop.nd
 try (refine let_X ?_;intro X)
 obtain ⟨p,c,cs,i,n,ss,u,rfl,st,hcs,hss,pu,hup,huc,hnl,q⟩:=h
 refine exs_cons ?_
 repeat tm_at "d"
 refine ix_al st.st rfl ?_
 repeat tm_at "d"
 refine set_ll st.st rfl ?_
 rw [cast1 hnl]
 generalize hM1:mset M p _=M1
 obtain ⟨st1,k1,fr1⟩:=st.upd (j:=i) (m:=⟨n.s,n.b,n.l - 1,n.a,n.n⟩) hM1 rfl
 have pu1:=pu.kp k1 (by simp [hup])
 repeat tm_at "d"
 refine ⟨u,ss,rfl,pu1,hss.le,fun kk0 ts0 wb0 M2 ht0 bw0 pu2 k2=>?_⟩
 have st2:=st1.kp k2 (by simp [hup.symm]) (by simp [huc.symm])
 repeat tm_at "d"
 with_reducible refine' ex_compR 5 (own:=["_law_k"]) (js:=[3,1]) (N:=["_law_k", "_law_purse_here", "_law_names_here"]) ?T ?xe ?ca ?hm ?hN ?hj ?hy ?hyf ?hsw ?_ ?hg ?hse ?hs
 case T=>exact compOk_freeB (fs:=["_law_purse_here", "_law_names_here"]) rfl (by decide +kernel) (by decide +kernel) rfl rfl rfl rfl rfl
 case xe=>rfl
 case ca=>rfl
 case hm=>exact h_range
 case hN=>exact nd
 case hj=>rfl
 case hy=>first | exact Or.inl rfl | exact Or.inr rfl
 case hyf=>exact .inl rfl
 case hsw=>rfl
 case hg=>rfl
 case hse=>rfl
 case hs=>(intro _;rfl)
 repeat tm_at "d"
 refine ⟨_,_,rfl,pu2,by decide,lim,fun r M3 h1 h2 pu3 k3=>?_⟩
 have st3:=st2.kp k3 (by simp [hup.symm]) (by simp [huc.symm])
 repeat tm_at "d"
 refine ⟨_,fun q2 i2 acc M5=>∃ rs:List Rw,acc=rs.map rwD/\rs.length=i2/\(∀ x∈rs,WfR ss x)/\M3 q2=none/\Stt M5 p c cs i ⟨n.s,n.b,n.l - 1,n.a,n.n⟩/\Pu M5 u/\Kp [u] M3 M5,rfl,by omega,by omega,?_,?_,?_⟩
 ·intro q2 hq2
  exact ⟨[],rfl,rfl,by simp,hq2,st3.ext (ext_new hq2),pu3.ext (ext_new hq2),Kp.new hq2⟩
 ·rintro Y ⟨C',s',H',fp,rfl⟩ q2 i2 acc M5 hi2 ⟨rs,rfl,hrl,hrw,hq2,st5,pu5,k5⟩ hacc
  refine gv_name 0 (by show (["_law_k", "_law_purse_here", "_law_names_here"] : List Str).Nodup;decide +kernel) ?_
  refine ⟨rfl,fun i d e=>?_,?_⟩
  ·rcases i with _ | i
   ·simp [compG] at e
   ·exact e
  repeat first | (refine ev_var 1 ?_) | (refine ev_var 2 ?_) | tm_at "d"
  refine ⟨u,ss,rfl,pu5,hss.le,fun kk ts wb M6 ht bw pu6 k6=>?_⟩
  have hqu:q2≠u:=(pu3.ne hq2).symm
  have hrl2:rs.length<=2:=by omega
  refine ⟨k6.at hacc (by simp [hqu]),small1000 (by rw [List.length_map];omega),rs++[(kk,ts,wb)],by rw [List.map_append];rfl,by rw [List.length_append,hrl];rfl,fun x hx=>?_,hq2,?_,?_,?_⟩
  ·rcases List.mem_append.mp hx with hx | hx
   ·exact hrw x hx
   ·rw [List.mem_singleton.mp hx];exact ⟨ht,bw⟩
  ·have hqp:q2≠p:=fun z=>by rw [z,st3.st] at hq2;cases hq2
   have hqc:q2≠c:=fun z=>by rw [z,st3.cl] at hq2;cases hq2
   have:=st5.kp k6 (by simp [hup.symm]) (by simp [huc.symm])
   exact ⟨by rw [mset_ne hqp.symm];exact this.st,by rw [mset_ne hqc.symm];exact this.cl⟩
  ·obtain ⟨a,b,e,ha,hb⟩:=pu6
   exact ⟨a,b,by rw [mset_ne hqu.symm];exact e,ha,hb⟩
  ·intro b o hb e
   rw [mset_ne (ne_fresh e hq2)]
   exact k6 b o hb (k5 b o hb e)
 rintro q2 acc M5 ⟨rs,rfl,hrl,hrw,hq2,st5,pu5,k5⟩ hacc
 have hrl:rs.length<=2:=by omega
 have kq:∀ {M6:MH},Kp [p,u] M5 M6->M6 q2=some (.lst (rs.map rwD)):=fun {M6} k6=>k6.at hacc (by
  have hqp:q2≠p:=fun z=>by rw [z,st3.st] at hq2;cases hq2
  have hqu:q2≠u:=(pu3.ne hq2).symm
  simp [hqp,hqu])
 have kk5:Kp [p,u] M M5:=(k1.mono (by simp)).trans ((k2.mono (by simp)).trans ((k3.mono (by simp)).trans (k5.mono (by simp))))
 repeat tm_at "d"
 refine exs_join (fun G' M'=>∃ ms:Option (Sm × Int),G'=[some (.ref p),some (nms ss),some (.int d),some (.ref u),some (rowD kk0 ts0 wb0),some (.ref q2),some (msD ms),none,none]/\(∀ m,ms=some m->WfS ss m.1/\0 < m.2/\B 65 m.2)/\Stt M' p c cs i ⟨n.s,n.b,n.l - 1,n.a,n.n⟩/\Kp [p,u] M5 M') ?_ ?_
 ·repeat tm_at "d"
  refine ⟨_,_,rfl,pu5,by decide,lim,fun r2 M6 h3 h4 pu6 k6=>?_⟩
  have st6:=st5.kp k6 (by simp [hup.symm]) (by simp [huc.symm])
  repeat tm_at "d"
  refine ifD ?_ ?_
  ·intro _
   repeat tm_at "d"
   refine ⟨u,ss,rfl,pu6,hss.le,fun ts wb by0 M7 ht bw hb lb pu7 k7=>?_⟩
   have st7:=st6.kp k7 (by simp [hup.symm]) (by simp [huc.symm])
   repeat tm_at "d"
   refine ⟨u,rfl,pu7,fun nn M8 ln pu8 k8=>?_⟩
   have st8:=st7.kp k8 (by simp [hup.symm]) (by simp [huc.symm])
   repeat tm_at "d"
   rw [abs_eq]
   have ln:nn.natAbs < 2 ^ 64:=ln
   have bf:B 65 (1+(nn.natAbs:Int)):=by unfold B;omega
   refine ⟨some ((ts,wb,by0),1+(nn.natAbs:Int)),rfl,fun m e=>?_,st8,(k6.mono (by simp)).trans ((k7.mono (by simp)).trans (k8.mono (by simp)))⟩
   cases e
   exact ⟨⟨ht,bw,hb,lb⟩,by omega,bf⟩
  ·intro _
   refine exs_nil ?_
   exact ⟨none,rfl,(fun m e=>by cases e),st6,k6.mono (by simp)⟩
 rintro G' M' ⟨ms,rfl,hms,st7,k7⟩
 repeat tm_at "d"
 refine ix_al st7.st rfl ?_
 repeat tm_at "d"
 refine ⟨p,c,cs,i,_,ss,rfl,st7,hcs,hss,fun b j m M8 hj st8 hw hdb htk k8=>?_⟩
 obtain ⟨a1,a2,a3,a4,a5⟩:=htk
 simp only at a1 a2 a3 a4 a5
 have e1:=dps_le (n:=4 - d) fun s hs=>by have:=hdb s hs;omega
 have k78:Kp [p,u] M5 M8:=k7.trans (k8.mono (by simp))
 have fin:∀ ms:Option (Sm × Int),WfM ss b ms->Q (stD (.whl (kk0,ts0,wb0) rs ms b)) M8:=by
  intro ms hm
  refine q _ j m M8 hj st8 (by simp only [wf];exact ⟨⟨ht0,bw0⟩,hrw,hrl,hm,hw⟩) (by simp only [dp];omega) ?_ (kk5.trans k78)
  refine ⟨?_,?_,?_,?_,?_⟩<;>simp only [tt,Cnt.add]<;>omega
 repeat tm_at "d"
 refine exs_cons ?_
 repeat tm_at "d"
 refine ix_al st8.st rfl ?_
 repeat tm_at "d"
 refine ifD ?_ ?_
 ·intro _
  repeat tm_at "d"
  refine ⟨_,rfl,_,kq k78,?_⟩
  repeat tm_at "d"
  exact fin none trivial
 ·intro hl
  simp only at hl
  repeat tm_at "d"
  refine ⟨_,rfl,_,kq k78,?_⟩
  repeat tm_at "d"
  refine fin ms ?_
  cases ms with
  | none=>exact trivial
  | some m =>
   obtain ⟨h1,h2,h3⟩:=hms m rfl
   exact ⟨h1,h2,h3,by omega⟩
end
section
variable {P:Program} {w:World} {K:PySem.W.Frag} {mg:Str->Option Value} {base:Heap} {f:Addr} {fd:FuncData}
local macro_rules | `(tactic| tm_at $s:str)=>namT ["_law_state", "_law_names_here", "_law_depth", "_law_purse_here", "_law_found", "_law_k"] s
theorem ok_l_block {d k:Nat} (hk:4<=k) (F:Fun K "_law_block" "_law_block" s_l_block f fd) (h_tuple:mg "tuple" = none) (h_range:mg "range" = none)
  (C_l_next:Cal P w K mg base 2 "_law_next" spNext) (C_l_take:Cal P w K mg base 1 "_law_take" spTake) (C_l_statement:Cal P w K mg base k "_law_statement" (spStmt d)):FnOk P w K mg base CX0 (k+1) f fd P_l_block (liftSp K (spBlock d)):=by
 refine fn_D F sc_l_block (fun ds M Q ⟨a,b,c,d,e,g,h,_⟩=>by subst h;rfl) fun cdv A outer s H EE ds M Q hr h=>?_
 have nd:=sc_l_block.nd
 try (refine let_X ?_;intro X)
 obtain ⟨p,c,cs,i,n,ss,rfl,st,hcs,hss,q⟩:=h
 refine exs_cons ?_
 repeat tm_at "d"
 refine ⟨p,c,cs,i,n,rfl,st,hcs,fun u M1 hu pu st1 k1=>?_⟩
 have hup:u≠p:=(ne_fresh st.st hu).symm
 have huc:u≠c:=(ne_fresh st.cl hu).symm
 repeat tm_at "d"
 intro f0 hf0
 have hf0p:f0≠p:=(ne_fresh st1.st hf0).symm
 have hf0u:f0≠u:=(pu.ne hf0).symm
 have st2:=st1.ext (ext_new (o:=.lst []) hf0)
 refine exs_cons (ex_for_range PassesOwn.never rfl h_range ?_)
 repeat tm_at "d"
 intro l hl
 repeat tm_at "d"
 have pu2:=(pu.ext (ext_new (o:=.lst []) hf0)).ext (ext_new (o:=.lst [.int 0,.int 1,.int 2,.int 1,.int 3]) hl)
 refine ⟨_,_,rfl,pu2,by decide,lim,fun r M3 h1 h2 pu3 k3=>?_⟩
 have hlu:l≠u:=((pu.ext (ext_new (o:=.lst []) hf0)).ne hl).symm
 have hl3:M3 l=some (.lst [.int 0,.int 1,.int 2,.int 1,.int 3]):=k3.at mset_same (by simp [hlu])
 have hb:∃ b:Nat,atI [D.int 0,.int 1,.int 2,.int 1,.int 3] r=some (.int (b:Int))/\b<=3:=by
  have:r=0\/r=1\/r=2\/r=3\/r=4:=by omega
  rcases this with rfl | rfl | rfl | rfl | rfl
  ·exact ⟨0,rfl,by decide⟩
  ·exact ⟨1,rfl,by decide⟩
  ·exact ⟨2,rfl,by decide⟩
  ·exact ⟨1,rfl,by decide⟩
  ·exact ⟨3,rfl,by decide⟩
 obtain ⟨many,eb,hm3⟩:=hb
 have st3:Stt M3 p c cs (i+1) n:=(st2.ext (ext_new hl)).kp k3 (by simp [hup.symm]) (by simp [huc.symm])
 have hf3:M3 f0=some (.lst []):=k3.at (mset_old hl mset_same) (by simp [hf0u])
 have kk3:Kp [p] M M3:=fun b o hb e=>k3 b o (by simp;exact ne_fresh e hu) (ext_new hl _ _ (ext_new hf0 _ _ (k1 b o hb e)))
 repeat tm_at "d"
 refine ix_al hl3 eb ?_
 repeat tm_at "d"
 refine ⟨_,fun i2 G' M'=>∃ (b:List Stm) (j:Nat) (m:Cnt) (r5:Option D),G'=[some (.ref p),some (nms ss),some (.int d),some (.ref u),some (.ref f0),r5]/\M' f0=some (.lst (stDs b))/\b.length<=i2/\i<=j/\Stt M' p c cs j m/\wfs ss b/\(∀ s∈b,dp s+d<=5)/\Took n m (tts b)/\Kp [p,f0] M3 M',rfl,by omega,by omega,
  ⟨[],i+1,n,none,rfl,by simp only [stDs];exact hf3,Nat.zero_le _,by omega,st3,by simp only [wfs],by simp,by refine ⟨?_,?_,?_,?_,?_⟩<;>simp only [tts]<;>omega,Kp.refl _ _⟩,?_,?_⟩
 ·rintro i2 G' M' hi2 ⟨b,j,m,r5,rfl,hf,hbl,hij,st4,hwb,hdb,htk,k4⟩
  have hf0c:f0≠c:=by
   intro z;subst z
   exact absurd st1.cl (by rw [hf0];intro z;cases z)
  repeat tm_at "d"
  refine ix_al st4.st rfl ?_
  repeat tm_at "d"
  refine ifD ?_ ?_
  ·intro hs
   repeat tm_at "d"
   refine ix_al st4.st rfl ?_
   repeat tm_at "d"
   refine set_ll st4.st rfl ?_
   rw [cast1 (by omega)]
   generalize hM5:mset M' p _=M5
   obtain ⟨st5,k5,fr5⟩:=st4.upd (j:=j) (m:=⟨m.s - 1,m.b,m.l,m.a,m.n⟩) hM5 rfl
   have hf5:M5 f0=some (.lst (stDs b)):=k5.at hf (by simp [hf0p])
   repeat tm_at "d"
   refine ⟨f0,rfl,⟨_,hf5⟩,?_⟩
   repeat tm_at "d"
   refine ⟨p,c,cs,j,_,ss,rfl,st5,hcs,hss,fun s' j' m' M6 hj' st6 hw' hd' tk' k6=>?_⟩
   have hf6:M6 f0=some (.lst (stDs b)):=k6.at hf5 (by simp [hf0p])
   refine ⟨_,hf6,small1000 (by rw [stDs_map,List.length_map];omega),?_⟩
   obtain ⟨a1,a2,a3,a4,a5⟩:=htk
   obtain ⟨c1,c2,c3,c4,c5⟩:=tk'
   simp only at c1 c2 c3 c4 c5
   refine ⟨b++[s'],j',m',_,rfl,by rw [mset_same,stDs_snoc],by rw [List.length_append];show _+1<=_;omega,by omega,⟨by rw [mset_ne hf0p.symm];exact st6.st,by rw [mset_ne hf0c.symm];exact st6.cl⟩,wfs_snoc hwb hw',?_,?_,?_⟩
   ·intro x hx
    rcases List.mem_append.mp hx with hx | hx
    ·exact hdb x hx
    ·rw [List.mem_singleton.mp hx];exact hd'
   ·rw [tts_app]
    refine ⟨?_,?_,?_,?_,?_⟩<;>simp only [tts,Cnt.add]<;>omega
   ·exact k4.trans ((k5.mono (by simp)).trans ((k6.mono (by simp)).trans (Kp.put (by simp))))
  ·intro hs
   refine exs_nil ?_
   exact ⟨b,j,m,_,rfl,hf,by omega,hij,st4,hwb,hdb,htk,k4⟩
 ·rintro G' M' ⟨b,j,m,r5,rfl,hf,hbl,hij,st4,hwb,hdb,htk,k4⟩
  repeat tm_at "d"
  refine ⟨_,rfl,_,hf,?_⟩
  refine q b j m M' hij st4 hwb hdb htk ?_
  intro x o hx e
  have hxf:x≠f0:=by
   intro z;subst z
   have:=k1 _ _ hx e
   rw [hf0] at this;cases this
  exact k4 x o (by simp at hx ⊢;exact ⟨hx,hxf⟩) (kk3 x o hx e)
end
section
variable {P:Program} {w:World} {K:PySem.W.Frag} {mg:Str->Option Value} {base:Heap} {f:Addr} {fd:FuncData}
local macro_rules | `(tactic| tm_at $s:str)=>namT ["_law_cells", "_law_first", "_law_names_here", "_law_state", "_law_found", "_law_purse_here", "_law_rows"] s
theorem ok_l_plan {k:Nat} (hk:4<=k) (F:Fun K "_law_plan" "_law_plan" s_l_plan f fd) (h_tuple:mg "tuple" = none) (h_range:mg "range" = none) (h_len:mg "len" = none)
  (C_l_purse:Cal P w K mg base 1 "_law_purse" spPurse) (C_l_take:Cal P w K mg base 1 "_law_take" spTake) (C_l_row:Cal P w K mg base 4 "_law_row" spRow) (C_l_statement:Cal P w K mg base k "_law_statement" (spStmt 1)):FnOk P w K mg base CX0 (k+1) f fd P_l_plan (liftSp K spPlan):=by
 refine fn_D F sc_l_plan (fun ds M Q ⟨a,b,c,d,h,_⟩=>by subst h;rfl) fun cdv A outer s H EE ds M Q hr h=>?_
 have nd:=sc_l_plan.nd
 try (refine let_X ?_;intro X)
 obtain ⟨c,cs,first,ss,rfl,hc,hcs,hfirst,hss,q⟩:=h
 refine exs_cons ?_
 repeat tm_at "d"
 intro p hp
 have hpc:c≠p:=ne_fresh hc hp
 repeat tm_at "d"
 intro f0 hf0
 have st0:Stt (mset M p (.lst [.ref c,.int 0,.int 24,.int 2,.int 2,.int 1,.int 2])) p c cs 0 ⟨24,2,2,1,2⟩:=⟨mset_same,by rw [mset_ne hpc];exact hc⟩
 have hf0p:f0≠p:=(ne_fresh st0.st hf0).symm
 have hf0c:f0≠c:=(ne_fresh st0.cl hf0).symm
 have st1:=st0.ext (ext_new (o:=.lst []) hf0)
 have e1:Ext M (mset (mset M p (.lst [.ref c,.int 0,.int 24,.int 2,.int 2,.int 1,.int 2])) f0 (.lst [])):=Ext.trans (ext_new hp) (ext_new hf0)
 have hM0:∀ x o,M x=some o->x≠p/\x≠f0:=fun x o e=>⟨ne_fresh e hp,ne_fresh (ext_new hp _ _ e) hf0⟩
 have hf1:mset (mset M p (.lst [.ref c,.int 0,.int 24,.int 2,.int 2,.int 1,.int 2])) f0 (.lst []) f0=some (.lst []):=mset_same
 generalize mset (mset M p (.lst [.ref c,.int 0,.int 24,.int 2,.int 2,.int 1,.int 2])) f0 (.lst [])=M1 at st1 e1 hf1 ⊢
 refine exs_cons (ex_while (fun G' M'=>∃ (b:List Stm) (j:Nat) (m:Cnt),G'=[some (.ref c),some (.int first),some (nms ss),some (.ref p),some (.ref f0),none,none]/\M' f0=some (.lst (stDs b))/\b.length+m.s<=24/\Stt M' p c cs j m/\wfs ss b/\(∀ s∈b,dp s+1<=5)/\Took ⟨24,2,2,1,2⟩ m (tts b)/\Kp [p,f0] M1 M')
  (fun _ M'=>match M' p with | some (.lst [_,.int a,_,_,_,_,_])=>cs.length - a.toNat | _=>0) PassesOwn.never
  ⟨[],0,⟨24,2,2,1,2⟩,rfl,by simp only [stDs];exact hf1,by decide,st1,by simp only [wfs],by simp,by refine ⟨?_,?_,?_,?_,?_⟩<;>simp only [tts],Kp.refl _ _⟩ ?_)
 rintro G' M' ⟨b,j,m,rfl,hf,hbl,st2,hwb,hdb,htk,k2⟩
 have fin:EXs (cxOf CX0 P w K mg base N_l_plan "_law_plan" (defScope s_l_plan) f cdv A outer s H EE).nox [some (.ref c),some (.int first),some (nms ss),some (.ref p),some (.ref f0),none,none] M' ((defBody s_l_plan).drop 3) { nx:=fun _ M'=>Q .non M',rt:=Q }:=by
  refine exs_cons ?_
  repeat tm_at "d"
  refine ⟨_,rfl,hfirst,fun u M2 hu pu2 k3=>?_⟩
  repeat tm_at "d"
  with_reducible refine' ex_compR 6 (own:=["_law_k"]) (js:=[5,2]) (N:=["_law_k", "_law_purse_here", "_law_names_here"]) ?T ?xe ?ca ?hm ?hN ?hj ?hy ?hyf ?hsw ?_ ?hg ?hse ?hs
  case T=>exact compOk_freeB (fs:=["_law_purse_here", "_law_names_here"]) rfl (by decide +kernel) (by decide +kernel) rfl rfl rfl rfl rfl
  case xe=>rfl
  case ca=>rfl
  case hm=>exact h_range
  case hN=>exact nd
  case hj=>rfl
  case hy=>first | exact Or.inl rfl | exact Or.inr rfl
  case hyf=>exact .inl rfl
  case hsw=>rfl
  case hg=>rfl
  case hse=>rfl
  case hs=>(intro _;rfl)
  repeat tm_at "d"
  refine ⟨_,_,rfl,pu2,by decide,lim,fun r M3 h1 h2 pu3 k4=>?_⟩
  repeat tm_at "d"
  refine ⟨_,fun q2 i2 acc M5=>∃ rs:List Rw,acc=rs.map rwD/\rs.length=i2/\(∀ x∈rs,WfR ss x)/\M3 q2=none/\True/\Pu M5 u/\Kp [u] M3 M5,rfl,by omega,by omega,?_,?_,?_⟩
  ·intro q2 hq2
   exact ⟨[],rfl,rfl,by simp,hq2,trivial,pu3.ext (ext_new hq2),Kp.new hq2⟩
  ·rintro Y ⟨C',s',H',fp,rfl⟩ q2 i2 acc M5 hi2 ⟨rs,rfl,hrl,hrw,hq2,st5,pu5,k5⟩ hacc
   refine gv_name 0 (by show (["_law_k", "_law_purse_here", "_law_names_here"] : List Str).Nodup;decide +kernel) ?_
   refine ⟨rfl,fun i d e=>?_,?_⟩
   ·rcases i with _ | i
    ·simp [compG] at e
    ·exact e
   repeat first | (refine ev_var 1 ?_) | (refine ev_var 2 ?_) | tm_at "d"
   refine ⟨u,ss,rfl,pu5,hss.le,fun kk ts wb M6 ht bw pu6 k6=>?_⟩
   have hqu:q2≠u:=(pu3.ne hq2).symm
   have hrl2:rs.length<=2:=by omega
   refine ⟨k6.at hacc (by simp [hqu]),small1000 (by rw [List.length_map];omega),rs++[(kk,ts,wb)],by rw [List.map_append];rfl,by rw [List.length_append,hrl];rfl,fun x hx=>?_,hq2,?_,?_,?_⟩
   ·rcases List.mem_append.mp hx with hx | hx
    ·exact hrw x hx
    ·rw [List.mem_singleton.mp hx];exact ⟨ht,bw⟩
   ·trivial
   ·obtain ⟨a,b,e,ha,hb⟩:=pu6
    exact ⟨a,b,by rw [mset_ne hqu.symm];exact e,ha,hb⟩
   ·intro b o hb e
    rw [mset_ne (ne_fresh e hq2)]
    exact k6 b o hb (k5 b o hb e)
  rintro q2 acc M5 ⟨rs,rfl,hrl,hrw,hq2,st5,pu5,k5⟩ hacc
  have hf6:M5 f0=some (.lst (stDs b)):=k5.at (k4.at (k3 _ _ hf) (by simp [(ne_fresh hf hu)])) (by simp [(ne_fresh hf hu)])
  repeat tm_at "d"
  refine ⟨_,rfl,_,hacc,?_⟩
  repeat tm_at "d"
  refine ⟨_,rfl,_,hf6,?_⟩
  repeat tm_at "d"
  obtain ⟨a1,a2,a3,a4,a5⟩:=htk
  simp only at a1 a2 a3 a4 a5
  refine q ⟨ss,rs,b⟩ M5 ⟨hss,hrw,(by show rs.length<=2;omega),hwb,(fun s hs=>by have:=hdb s hs;omega),(by show (tts b).s<=24;omega),(by show (tts b).b<=2;omega),(by show (tts b).l<=2;omega),(by show (tts b).a<=1;omega),(by show (tts b).n<=2;omega)⟩ rfl ?_
  intro x o e
  obtain ⟨x1,x2⟩:=hM0 x o e
  have e2:M' x=some o:=k2 x o (by simp [x1,x2]) (e1 _ _ e)
  have hxu:x≠u:=ne_fresh e2 hu
  exact k5 x o (by simp [hxu]) (k4 x o (by simp [hxu]) (k3 _ _ e2))
 repeat tm_at "d"
 refine ix_al st2.st rfl ?_
 repeat tm_at "d"
 refine ⟨_,_,rfl,Or.inl ⟨_,st2.cl,rfl⟩,?_⟩
 rw [List.length_map]
 repeat tm_at "d"
 refine ifD ?_ ?_
 ·intro hj
  repeat tm_at "d"
  refine ix_al st2.st rfl ?_
  repeat tm_at "d"
  refine ifD ?_ ?_
  ·intro hs
   repeat tm_at "d"
   refine ix_al st2.st rfl ?_
   repeat tm_at "d"
   refine set_ll st2.st rfl ?_
   rw [cast1 (by omega)]
   generalize hM5:mset M' p _=M5
   obtain ⟨st5,k5,fr5⟩:=st2.upd (j:=j) (m:=⟨m.s - 1,m.b,m.l,m.a,m.n⟩) hM5 rfl
   have hf5:M5 f0=some (.lst (stDs b)):=k5.at hf (by simp [hf0p])
   repeat tm_at "d"
   refine ⟨f0,rfl,⟨_,hf5⟩,?_⟩
   repeat tm_at "d"
   refine ⟨p,c,cs,j,_,ss,rfl,st5,hcs,hss,fun s' j' m' M6 hj' st6 hw' hd' tk' k6=>?_⟩
   have hf6:M6 f0=some (.lst (stDs b)):=k6.at hf5 (by simp [hf0p])
   refine ⟨_,hf6,small1000 (by rw [stDs_map,List.length_map];omega),?_⟩
   obtain ⟨a1,a2,a3,a4,a5⟩:=htk
   obtain ⟨c1,c2,c3,c4,c5⟩:=tk'
   simp only at a1 a2 a3 a4 a5 c1 c2 c3 c4 c5
   have hc1:1<=(tt s').s:=by cases s'<;>simp only [tt,Cnt.add]<;>omega
   refine ⟨⟨b++[s'],j',m',rfl,by rw [mset_same,stDs_snoc],by rw [List.length_append];show _+1+_<=_;omega,⟨by rw [mset_ne hf0p.symm];exact st6.st,by rw [mset_ne hf0c.symm];exact st6.cl⟩,wfs_snoc hwb hw',?_,?_,?_⟩,?_⟩
   ·intro x hx
    rcases List.mem_append.mp hx with hx | hx
    ·exact hdb x hx
    ·rw [List.mem_singleton.mp hx];exact hd'
   ·rw [tts_app]
    refine ⟨?_,?_,?_,?_,?_⟩<;>simp only [tts,Cnt.add]<;>omega
   ·exact k2.trans ((k5.mono (by simp)).trans ((k6.mono (by simp)).trans (Kp.put (by simp))))
   ·rw [mset_ne hf0p.symm,st6.st,st2.st]
    show cs.length - Int.toNat (j':Int) < cs.length - Int.toNat (j:Int)
    omega
  ·intro _
   exact fin
 ·intro _
  exact fin
end
theorem in_letters {c:Nat} (h1:97<=c) (h2:c<=122):c∈(Str.ofString "abcdefghijklmnopqrstuvwxyz").cps.toList:=by
 have:∀ d < 26,97+d∈(Str.ofString "abcdefghijklmnopqrstuvwxyz").cps.toList:=by decide +kernel
 have:=this (c - 97) (by omega)
 rwa [show 97+(c - 97)=c from by omega] at this
theorem in_figures {c:Nat} (h1:48<=c) (h2:c<=57):c∈(Str.ofString "0123456789").cps.toList:=by
 have:∀ d < 10,48+d∈(Str.ofString "0123456789").cps.toList:=by decide +kernel
 have:=this (c - 48) (by omega)
 rwa [show 48+(c - 48)=c from by omega] at this
theorem has_one {x:Str} {c:Nat} (h:c∈x.cps.toList):Txt.contains x ⟨#[c]⟩=true:=by
 show (!(Builtin.Str.occurrences x ⟨#[c]⟩ 0 x.length 1).isEmpty)=true
 rw [StrLaws.found_one,decide_eq_true h]
section
variable {P:Program} {w:World} {K:PySem.W.Frag} {mg:Str->Option Value} {base:Heap} {f:Addr} {fd:FuncData} {tL tF:Tok}
local macro_rules | `(tactic| tm_at $s:str)=>namT ["holds", "number"] s
theorem ok_must (F:Fun K "must" "must" s_must f fd):FnOk P w K mg base CX0 1 f fd P_must (liftSp K spMustR):=by
 refine fn_D F sc_must (fun ds M Q ⟨a,h,_⟩=>by subst h;rfl) fun cdv A outer s H EE ds M Q hr h=>?_
 have nd:=sc_must.nd
 try (refine let_X ?_;intro X)
 obtain ⟨n,rfl,q⟩:=h
 refine exs_one ?_
 repeat tm_at "d"
 refine tv_of ?_ (by intro _;rfl)
 repeat tm_at "d"
 exact q
local macro_rules | `(tactic| tm_at $s:str)=>namT ["token"] s
local macro_rules | `(tactic| tm_at "d")=>`(tactic| first
 | ((with_reducible show EV _ _ _ (Expr.Name "LETTERS" _) _);(with_reducible refine' ev_gstr ?n0 ?_ ?n1 ?n2);(case n0=>exact gL);(case n1=>rfl);(case n2=>decide))
 | ((with_reducible show EV _ _ _ (Expr.Name "FIGURES" _) _);(with_reducible refine' ev_gstr ?n0 ?_ ?n1 ?n2);(case n0=>exact gF);(case n1=>rfl);(case n2=>decide))
 | ((with_reducible show EV _ _ _ (Expr.Compare _ [CmpOp.In] [Expr.Name "LETTERS" _] _) _);(with_reducible refine' ev_inS ?_ ?n0);(case n0=>rfl))
 | ((with_reducible show EV _ _ _ (Expr.Compare _ [CmpOp.In] [Expr.Name "FIGURES" _] _) _);(with_reducible refine' ev_inS ?_ ?n0);(case n0=>rfl)))
theorem ok_is_name (F:Fun K "is_name" "is_name" s_is_name f fd) (h_len:mg "len" = none) (gL:mg "LETTERS" = some (.str "abcdefghijklmnopqrstuvwxyz" tL)):FnOk P w K mg base CX0 1 f fd P_is_name (liftSp K spIsName):=by
 refine fn_D F sc_is_name (fun ds M Q ⟨a,h,_⟩=>by subst h;rfl) fun cdv A outer s H EE ds M Q hr h=>?_
 have nd:=sc_is_name.nd
 try (refine let_X ?_;intro X)
 obtain ⟨x,rfl,hx,q⟩:=h
 obtain ⟨c,h1,h2,rfl⟩:=hx
 refine exs_one ?_
 refine ex_ret ?_
 with_reducible refine ev_and ?_
 with_reducible refine' l_eq ?n0 ?_
 case n0=>exact hr.units
 with_reducible refine' ev_lenS ?n0 ?_ ?n1 ?n2 ?n3
 case n0=>exact h_len
 case n1=>rfl
 case n2=>rfl
 case n3=>rfl
 repeat tm_at "d"
 refine ⟨_,rfl,small (Nat.le_of_ble_eq_true rfl),?_⟩
 repeat first | tm_at "d" | refine ifDy rfl ?_
 refine ⟨_,_,rfl,rfl,?_⟩
 rw [has_one (in_letters h1 h2)]
 exact q
local macro_rules | `(tactic| tm_at $s:str)=>namT ["token"] s
theorem ok_is_above_nought (F:Fun K "is_above_nought" "is_above_nought" s_is_above_nought f fd) (h_all:mg "all" = none) (gF:mg "FIGURES" = some (.str "0123456789" tF)):FnOk P w K mg base CX0 1 f fd P_is_above_nought (liftSp K spAbove):=by
 refine fn_D F sc_is_above_nought (fun ds M Q ⟨a,h,_⟩=>by subst h;rfl) fun cdv A outer s H EE ds M Q hr h=>?_
 have nd:=sc_is_above_nought.nd
 try (refine let_X ?_;intro X)
 obtain ⟨m,rfl,h0,hm,q⟩:=h
 obtain ⟨c,r,ec,hc⟩:=nT_lead h0
 have hl:=nT_len640 (m:=m) (by omega)
 have hne:¬ nT (m:Int)=Str.ofString "" := fun z=>nT_ne m (by rw [z];rfl)
 have hz:¬ (⟨#[c]⟩:Str)=Str.ofString "0" := fun z=>hc (by
  have:=congrArg (fun x:Str=>x.cps.toList) z
  have h:[c]=[48]:=this
  simpa using h)
 refine exs_one ?_
 repeat first | tm_at "d" | refine ifNy hne ?_
 refine ix_as (small (by omega)) (by rw [ec];exact L2.atI_nat (j:=0) rfl) ?_
 repeat first | tm_at "d" | refine ifNy hz ?_
 with_reducible refine' ev_allL ?n0 ?n1 ?_ ?n2 ?n3 ?n4
 case n0=>rfl
 case n1=>exact h_all
 case n2=>rfl
 case n3=>rfl
 case n4=>rfl
 repeat tm_at "d"
 with_reducible refine' ev_comp_str (own:=["sign"]) (js:=[]) (N:=["sign"]) (cl:=[]) ?T ?xe ?ca (fun _=>D.bl true) (fun _=>true) ?_ ?hs
 case T=>exact compOk_plain (by decide +kernel) (by decide +kernel) rfl (by decide +kernel) rfl
 case xe=>rfl
 case ca=>rfl
 case hs=>(intro _;rfl)
 repeat tm_at "d"
 refine ⟨nT (m:Int),rfl,?_,by show (nT (m:Int)).length<=1000;omega,?_,fun q1 hq1=>?_⟩
 ·rw [<- Array.all_toList,List.all_eq_true]
  intro d hd
  have:=nT_digits m d hd
  exact decide_eq_true (by omega)
 ·rintro Y ⟨C',s',H',fp,rfl⟩ M' hM d hd
  have hdig:=nT_digits m d hd
  have nd2:(["sign"] : List Str).Nodup:=by decide +kernel
  refine gv_name 0 nd2 ?_
  refine ⟨rfl,fun i d e=>by rcases i with _ | i<;>simp [compG] at e,tvs_nil ⟨rfl,rfl⟩,fun _=>?_⟩
  repeat first | (refine ev_var 0 ?_) | tm_at "d"
  refine ⟨_,_,rfl,rfl,?_⟩
  rw [has_one (in_figures hdig.1 hdig.2)]
  exact ⟨rfl,rfl⟩
 ·have e:(((nT (m:Int)).cps.toList.map fun c=>D.str ⟨#[c]⟩).filter fun _=>true).map (fun _=>D.bl true)=(List.replicate (nT (m:Int)).cps.toList.length true).map D.bl:=by
   rw [List.filter_eq_self.mpr (by simp),List.map_map]
   generalize (nT (m:Int)).cps.toList=l
   induction l with
   | nil=>rfl
   | cons a l ih=>simp only [List.map_cons,List.length_cons,List.replicate_succ];rw [ih];rfl
  rw [e]
  repeat tm_at "d"
  refine ⟨q1,_,rfl,mset_same,?_⟩
  have e2:(List.replicate (nT (m:Int)).cps.toList.length true).all id=true:=by simp
  rw [e2]
  exact q _ (ext_new hq1)
end
section
variable {P:Program} {w:World} {K:PySem.W.Frag} {mg:Str->Option Value} {base:Heap} {f:Addr} {fd:FuncData}
local macro_rules | `(tactic| tm_at $s:str)=>namT ["token", "number", "figures"] s
local macro_rules | `(tactic| tm_at "d")=>`(tactic| first
 | ((with_reducible show EV _ _ _ (Expr.Call (Expr.Attribute _ "startswith" _) [_] [] _) _);(with_reducible refine' ev_starts ?_ ?n1 ?n2 ?n3 ?n4 ?n5);(case n1=>rfl);(case n2=>rfl);(case n3=>rfl);(case n4=>rfl);(case n5=>rfl))
 | ((with_reducible show EV _ _ _ (Expr.Call (Expr.Name "int" _) [_] [] _) _);(with_reducible refine' ev_intS ?n0 ?_ ?n1 ?n2 ?n3);(case n0=>exact h_int);(case n1=>rfl);(case n2=>rfl);(case n3=>rfl)))
theorem ok_read_whole (F:Fun K "read_whole" "read_whole" s_read_whole f fd) (h_int:mg "int" = none) (C_must:Cal P w K mg base 1 "must" spMustR) (C_is_above_nought:Cal P w K mg base 1 "is_above_nought" spAbove):FnOk P w K mg base CX0 2 f fd P_read_whole (liftSp K spWholeR):=by
 refine fn_D F sc_read_whole (fun ds M Q ⟨a,b,h,_⟩=>by subst h;rfl) fun cdv A outer s H EE ds M Q hr h=>?_
 have nd:=sc_read_whole.nd
 try (refine let_X ?_;intro X)
 obtain ⟨i,n,rfl,hb,q⟩:=h
 have hb':i.natAbs < 2 ^ 65:=hb
 have hl:=nT_len66 hb
 by_cases h0:i=0
 ·subst h0
  rw [nT_zero]
  refine exs_cons ?_
  repeat first | tm_at "d" | refine ifDy rfl ?_
  exact q M (Ext.refl _)
 ·refine exs_cons ?_
  repeat first | tm_at "d" | refine ifDn (nT_not0 hb h0) ?_ | refine exs_cons ?_
  refine ⟨_,rfl,?_⟩
  repeat tm_at "d"
  refine ⟨_,rfl,?_⟩
  obtain ⟨hpos,hneg⟩:=nT_sign h0
  rcases Int.lt_or_gt_of_ne h0 with hlt | hgt
  ·have e:=hneg hlt
   rw [e] at hl ⊢
   rw [start_neg]
   repeat tm_at "d"
   refine ev_slice sl_str ?_
   repeat tm_at "d"
   refine ov_some ?_
   repeat tm_at "d"
   refine ov_none ?_
   refine rs_str rfl (small (by omega)) ?_
   rw [cut_neg]
   repeat tm_at "d"
   refine ⟨i.natAbs,rfl,by omega,hb',fun M1 x1=>?_⟩
   repeat tm_at "d"
   refine ⟨n,rfl,?_⟩
   repeat tm_at "d"
   refine ⟨_,i,rfl,by rw [<- e];exact nT_reads hb,by omega,?_⟩
   exact q M1 x1
  ·have e:=hpos hgt
   rw [e] at hl ⊢
   have hr1:PySem.intText? (abT i)=some i:=by rw [<- e];exact nT_reads hb
   unfold abT at hr1 hl ⊢
   rw [start_pos]
   repeat tm_at "d"
   refine ⟨i.natAbs,rfl,by omega,hb',fun M1 x1=>?_⟩
   repeat tm_at "d"
   refine ⟨n,rfl,?_⟩
   repeat tm_at "d"
   refine ⟨_,i,rfl,hr1,by omega,?_⟩
   exact q M1 x1
theorem plus_ne:¬ Str.ofString "-" = Str.ofString "+" := by decide +kernel
theorem signs2:([D.str "+",D.str "-"] : List D)=[Str.ofString "+",Str.ofString "-"].map D.str:=rfl
local macro_rules | `(tactic| tm_at $s:str)=>namT ["tokens", "number", "weight"] s
theorem ok_read_weight (F:Fun K "read_weight" "read_weight" s_read_weight f fd) (h_int:mg "int" = none) (C_must:Cal P w K mg base 1 "must" spMustR) (C_is_above_nought:Cal P w K mg base 1 "is_above_nought" spAbove):FnOk P w K mg base CX0 2 f fd P_read_weight (liftSp K spWeightR):=by
 refine fn_D F sc_read_weight (fun ds M Q ⟨a,b,c,d,h,_⟩=>by subst h;rfl) fun cdv A outer s H EE ds M Q hr h=>?_
 have nd:=sc_read_weight.nd
 try (refine let_X ?_;intro X)
 obtain ⟨l,k,n,r,rfl,hl,h0,hb,q⟩:=h
 have hb':k.natAbs < 2 ^ 64:=hb
 have i0:atI ((sgn k :: abT k :: r).map D.str) 0=some (.str (sgn k)):=L2.atI_nat (j:=0) rfl
 have i1:atI ((sgn k :: abT k :: r).map D.str) 1=some (.str (abT k)):=L2.atI_nat (j:=1) rfl
 have hsg:sgn k∈[Str.ofString "+",Str.ofString "-"]:=by unfold sgn;split<;>simp
 have hrd:PySem.intText? (abT k)=some ((k.natAbs:Nat):Int):=nT_reads (by show ((k.natAbs:Nat):Int).natAbs < 2 ^ 65;omega)
 have hln:(abT k).length<=640:=by
  have:=nT_len640 (m:=k.natAbs) (by omega)
  unfold abT;omega
 refine exs_cons ?_
 repeat first | tm_at "d" | refine ix_al hl i0 ?_ | (rw [signs2];refine in_t ?_)
 refine ifDy hsg ?_
 repeat first | tm_at "d" | refine ix_al hl i1 ?_
 refine ⟨k.natAbs,rfl,by omega,by omega,fun M1 x1=>?_⟩
 have hl1:=x1 _ _ hl
 repeat tm_at "d"
 refine ⟨n,rfl,?_⟩
 repeat first | tm_at "d" | refine ix_al hl1 i1 ?_
 refine ⟨_,_,rfl,hrd,hln,?_⟩
 repeat first | tm_at "d" | refine ix_al hl1 i0 ?_ | refine exs_cons ?_
 by_cases hp:0 < k
 ·have e:sgn k=Str.ofString "+" := by unfold sgn;rw [if_pos hp]
  rw [e]
  refine ifDy rfl ?_
  repeat tm_at "d"
  rw [show ((k.natAbs:Nat):Int)=k from by omega]
  exact q M1 x1
 ·have e:sgn k=Str.ofString "-" := by unfold sgn;rw [if_neg hp]
  rw [e]
  refine ifDn plus_ne ?_
  repeat tm_at "d"
  rw [show -((k.natAbs:Nat):Int)=k from by omega]
  exact q M1 x1
local macro_rules | `(tactic| tm_at $s:str)=>namT ["tokens", "number"] s
theorem ok_read_term (F:Fun K "read_term" "read_term" s_read_term f fd) (C_must:Cal P w K mg base 1 "must" spMustR) (C_is_name:Cal P w K mg base 1 "is_name" spIsName) (C_read_weight:Cal P w K mg base 2 "read_weight" spWeightR):FnOk P w K mg base CX0 3 f fd P_read_term (liftSp K spTermR):=by
 refine fn_D F sc_read_term (fun ds M Q ⟨a,b,c,h,_⟩=>by subst h;rfl) fun cdv A outer s H EE ds M Q hr h=>?_
 have nd:=sc_read_term.nd
 try (refine let_X ?_;intro X)
 obtain ⟨l,t,n,rfl,hl,hx,h0,hb,q⟩:=h
 have i2:atI ((tkP (t.2,some t.1)).map D.str) 2=some (.str t.1):=L2.atI_nat (j:=2) rfl
 refine exs_cons ?_
 repeat first | tm_at "d" | refine ix_al hl i2 ?_
 refine ⟨_,rfl,hx,?_⟩
 repeat tm_at "d"
 refine ⟨n,rfl,?_⟩
 repeat first | tm_at "d" | refine ix_al hl i2 ?_
 refine ⟨l,t.2,n,[t.1],rfl,hl,h0,hb,fun M1 x1=>?_⟩
 repeat tm_at "d"
 exact q M1 x1
theorem imm_strs {xs:List Str} (h:∀ x∈xs,Letter x):immL (xs.map D.str)=true:=immL_of fun d hd=>by
 obtain ⟨x,hx,rfl⟩:=List.mem_map.mp hd
 simp only [imm]
 exact (h x hx).ok
theorem dep_strs (xs:List Str):PyData.depthAll (pdL (xs.map D.str))<=59:=Nat.le_trans (depthAll_le (n:=0) fun d hd=>by
 obtain ⟨x,hx,rfl⟩:=List.mem_map.mp hd
 simp [pd,PyData.depth]) (by decide)
local macro_rules | `(tactic| tm_at $s:str)=>namT ["names", "number"] s
local macro_rules | `(tactic| tm_at "d")=>`(tactic| ((with_reducible show EV _ _ _ (Expr.Compare (Expr.Name "names" _) [CmpOp.Eq] _ _) _);(with_reducible refine' lx_eq ?n0 ?_);(case n0=>exact hr.units)))
theorem ok_must_be_in_order (F:Fun K "must_be_in_order" "must_be_in_order" s_must_be_in_order f fd) (hSorted:mg "sorted" = none) (hSet:mg "set" = none) (C_must:Cal P w K mg base 1 "must" spMustR):FnOk P w K mg base CX0 2 f fd P_must_be_in_order (liftSp K spOrderR):=by
 refine fn_D F sc_must_be_in_order (fun ds M Q ⟨a,b,c,h,_⟩=>by subst h;rfl) fun cdv A outer s H EE ds M Q hr h=>?_
 have nd:=sc_must_be_in_order.nd
 try (refine let_X ?_;intro X)
 obtain ⟨l,xs,n,rfl,hl,hu,hz,q⟩:=h
 refine exs_one ?_
 repeat tm_at "d"
 with_reducible refine' ev_sortedSet0 ?n0 ?n1 ?_ ?n2 ?n3 ?n4
 case n0=>rfl
 case n1=>exact hSorted
 case n2=>rfl
 case n3=>rfl
 case n4=>rfl
 refine av_cons ?_ rfl
 with_reducible refine' ev_setL ?n0 ?n1 ?_ ?n2 ?n3 ?n4
 case n0=>rfl
 case n1=>exact hSet
 case n2=>rfl
 case n3=>rfl
 case n4=>rfl
 repeat tm_at "d"
 refine ⟨l,xs,rfl,hl,by omega,fun r ss hr1 hn hl2 hm=>?_⟩
 repeat tm_at "d"
 have x1:=ext_new (o:=.raw (SetW P w r ss)) hr1
 have hlen:ss.length<=xs.length:=len_sub hn fun y hy=>(hm y).mp hy
 refine ⟨r,ss,rfl,mset_same,by omega,fun r2 ss' hr2 hp hs=>?_⟩
 rw [up_sorted hu hn hm hp hs]
 have x2:=ext_new (o:=.lst (xs.map D.str)) hr2
 refine eqx_same (x2 _ _ (x1 _ _ hl)) mset_same (imm_strs hu.lett) (dep_strs xs) ?_
 repeat tm_at "d"
 refine ⟨n,rfl,?_⟩
 exact q _ (Ext.trans x1 x2)
end
theorem low_A {ts:List (Str × Int)} {w:Int} (h:RdT ts):∀ t∈tkA ts w,PyData.strOk t=true:=by
 have key:∀ x:Str,(∀ c∈x.cps.toList,c < 128)->PyData.strOk x=true:=fun x hx=>by
  show x.cps.all (· < 0x110000)=true
  rw [<- Array.all_toList,List.all_eq_true]
  intro c hc
  have:=hx c hc
  exact decide_eq_true (by omega)
 have num:∀ i:Int,PyData.strOk (nT i)=true:=fun i=>by
  refine key _ fun c hc=>?_
  have pos:∀ m:Nat,∀ c∈(nT (m:Int)).cps.toList,c < 128:=fun m c hc=>by have:=nT_digits m c hc;omega
  by_cases h0:i=0
  ·subst h0;exact pos 0 c hc
  ·obtain ⟨hp,hn⟩:=nT_sign h0
   rcases Int.lt_or_gt_of_ne h0 with hlt | hgt
   ·rw [hn hlt,cps_app] at hc
    rcases List.mem_append.mp hc with hc | hc
    ·have:c∈[45]:=hc
     simp at this
     omega
    ·exact pos _ c hc
   ·rw [hp hgt] at hc;exact pos _ c hc
 have sg:∀ i:Int,PyData.strOk (sgn i)=true:=fun i=>by unfold sgn;split<;>decide +kernel
 have opt:∀ p∈ptO ts w,∀ t∈p.2.toList,PyData.strOk t=true:=fun p hp t htt=>by
  have:=ptO_letter h.lett p hp t (by cases e:p.2 with
   | none=>rw [e] at htt;cases htt
   | some x=>rw [e] at htt;rw [List.mem_singleton.mp htt])
  exact this.ok
 intro t htt
 unfold tkA at htt
 cases e:ptO ts w with
 | nil=>rw [e] at htt;cases htt
 | cons p r =>
  rw [e] at htt opt
  rcases List.mem_append.mp htt with htt | htt
  ·rcases List.mem_cons.mp htt with rfl | htt
   ·exact num _
   ·exact opt p (List.mem_cons_self ..) t htt
  ·obtain ⟨q,hq,htt⟩:=List.mem_flatMap.mp htt
   rcases List.mem_cons.mp htt with rfl | htt
   ·exact sg _
   ·rcases List.mem_cons.mp htt with rfl | htt
    ·exact num _
    ·exact opt q (List.mem_cons_of_mem _ hq) t htt
theorem imm_toks {xs:List Str} (h:∀ x∈xs,PyData.strOk x=true):immL (xs.map D.str)=true:=immL_of fun d hd=>by
 obtain ⟨x,hx,rfl⟩:=List.mem_map.mp hd
 simp only [imm]
 exact h x hx
def fst1:D->D
 | .tup (d :: _)=>d
 | d=>d
theorem start_k {k:Int} (hk:0 < k):Txt.startswith (nT k) (Str.ofString "-")=false:=by
 rw [(nT_sign (by omega)).1 hk];exact start_pos _
section
variable {P:Program} {w:World} {K:PySem.W.Frag} {mg:Str->Option Value} {base:Heap} {f:Addr} {fd:FuncData}
local macro_rules | `(tactic| tm_at $s:str)=>namT ["tokens", "number", "signed", "behind", "terms"] s
local macro_rules | `(tactic| tm_at "d")=>`(tactic| first
 | ((with_reducible show TV _ _ _ (Expr.Compare (Expr.Name "tokens" _) [CmpOp.Eq] _ _) _);(with_reducible refine' lxt_eq ?n0 ?_);(case n0=>exact hr.units))
 | ((with_reducible show EV _ _ _ (Expr.Call (Expr.Attribute _ "startswith" _) [_] [] _) _);(with_reducible refine' ev_starts ?_ ?n1 ?n2 ?n3 ?n4 ?n5);(case n1=>rfl);(case n2=>rfl);(case n3=>rfl);(case n4=>rfl);(case n5=>rfl)))
theorem ok_read_added (F:Fun K "read_added" "read_added" s_read_added f fd) (h_len:mg "len" = none) (h_range:mg "range" = none) (h_tuple:mg "tuple" = none) (C_must:Cal P w K mg base 1 "must" spMustR) (C_read_weight:Cal P w K mg base 2 "read_weight" spWeightR) (C_read_term:Cal P w K mg base 3 "read_term" spTermR) (C_must_be_in_order:Cal P w K mg base 2 "must_be_in_order" spOrderR):FnOk P w K mg base CX0 4 f fd P_read_added (liftSp K spAddedR):=by
 refine fn_D F sc_read_added (fun ds M Q ⟨a,b,c,d,h,_⟩=>by subst h;rfl) fun cdv A outer s H EE ds M Q hr h=>?_
 have nd:=sc_read_added.nd
 try (refine let_X ?_;intro X)
 obtain ⟨l,ts,w',n,rfl,hl,ht,hb,q⟩:=h
 have htl:=ht.len
 by_cases hz:ts=[]/\w'=0
 ·obtain ⟨rfl,rfl⟩:=hz
  rw [tkA_zero] at hl
  refine exs_cons ?_
  repeat tm_at "d"
  intro p0 hp0
  have x0:=ext_new (o:=.lst [.str "0"]) hp0
  refine eqx_same (x0 _ _ hl) mset_same (by decide +kernel) (by decide +kernel) ?_
  repeat tm_at "d"
  exact q _ x0
 ·obtain ⟨k,r,hk,eA,eS,hkw⟩:=sgd_head (fun t h=>(ht.wt t h).1) hz
  have hbk:B 64 k:=by
   rcases hkw with rfl | ⟨t,h1,rfl⟩
   ·exact hb
   ·exact (ht.wt t h1).2
  rw [eA] at hl
  have i0:atI ((nT k :: r).map D.str) 0=some (.str (nT k)):=L2.atI_nat (j:=0) rfl
  refine exs_cons ?_
  repeat tm_at "d"
  intro p0 hp0
  have x0:=ext_new (o:=.lst [.str "0"]) hp0
  refine eqx_l (ys:=[.str "0"]) (x0 _ _ hl) mset_same ?im1 (by decide +kernel) ?dep ?_
  case im1=>exact imm_toks (by have:=low_A (w:=w') ht;rw [eA] at this;exact this)
  case dep=>exact dep_strs _
  have hne:PyData.eqvAll (pdL ((nT k :: r).map D.str)) (pdL [D.str "0"])=false:=by
   have h0:=nT_not0 (i:=k) (by have:k.natAbs < 2 ^ 64:=hbk;show k.natAbs < 2 ^ 65;omega) hk
   simp [pdL,pd,PyData.eqvAll,PyData.eqv,h0]
  rw [hne]
  repeat first | tm_at "d" | refine exs_cons ?_
  intro p1 hp1
  have x1:=ext_new (o:=.lst [.str "+"]) hp1
  repeat tm_at "d"
  have hsl:(sgd ts w').length=3 * ts.length+(if w'≠0 then 2 else 0):=by
   rw [sgd_app hz,List.length_append,tks_len]
   split<;>rfl
  have hrl:r.length<=30:=by
   have:(sgd ts w').length=r.length+2:=by rw [eS];rfl
   split at hsl<;>omega
  refine add_ll mset_same (x1 _ _ (x0 _ _ hl)) (small (by rw [List.length_map];show 1+(_+1)<=_;omega)) fun p2 hp2=>?_
  have x2:=ext_new (o:=.lst ([D.str "+"]++(nT k :: r).map D.str)) hp2
  have xx:=Ext.trans x0 (Ext.trans x1 x2)
  have hl2:=xx _ _ hl
  have hp22:mset (mset (mset M p0 (.lst [.str "0"])) p1 (.lst [.str "+"])) p2 (.lst ([D.str "+"]++(nT k :: r).map D.str)) p2=some (strsL (Str.ofString "+" :: nT k :: r)):=mset_same
  generalize mset (mset (mset M p0 (.lst [.str "0"])) p1 (.lst [.str "+"])) p2 (.lst ([D.str "+"]++(nT k :: r).map D.str))=M2 at xx hl2 hp22 ⊢
  refine exs_join (fun G' M'=>∃ p3,G'=[some (.ref l),some (.int n),some (.ref p3),none,none]/\M' p3=some (strsL (sgd ts w'))/\Ext M M') ?_ ?_
  ·repeat first | tm_at "d" | refine ix_al hl2 i0 ?_
   refine ⟨_,rfl,?_⟩
   repeat tm_at "d"
   refine ⟨_,rfl,?_⟩
   rcases Int.lt_or_gt_of_ne hk with hlt | hgt
   ·have e:=(nT_sign hk).2 hlt
    have hnl:(nT k).length<=31:=nT_len66 (by have:k.natAbs < 2 ^ 64:=hbk;show k.natAbs < 2 ^ 65;omega)
    rw [e,start_neg]
    repeat tm_at "d"
    refine ev_slice sl_str ?_
    repeat first | tm_at "d" | refine ix_al hl2 i0 ?_
    refine ov_some ?_
    repeat tm_at "d"
    refine ov_none ?_
    refine rs_str rfl (small (by omega)) ?_
    rw [e,cut_neg]
    repeat tm_at "d"
    intro p3 hp3
    have x3:=ext_new (o:=.lst [.str "-",.str (abT k)]) hp3
    refine ev_slice sl_list ?_
    repeat tm_at "d"
    refine ov_some ?_
    repeat tm_at "d"
    refine ov_none ?_
    refine rs_list rfl (Or.inl (x3 _ _ hl2)) fun p4 hp4=>?_
    have ec:D3.cutD ((nT k :: r).map D.str) (some 1) none=r.map D.str:=cut_from _ 1 (by simp)
    rw [ec]
    have x4:=ext_new (o:=.lst (r.map D.str)) hp4
    refine add_ll (x4 _ _ mset_same) mset_same (small (by rw [List.length_map];show 2+_<=_;omega)) fun p5 hp5=>?_
    repeat tm_at "d"
    refine ⟨p5,rfl,?_,Ext.trans xx (Ext.trans x3 (Ext.trans x4 (ext_new hp5)))⟩
    rw [mset_same,eS]
    have es:sgn k=Str.ofString "-" := by unfold sgn;rw [if_neg (by omega)]
    rw [es]
    all_goals (try rfl)
   ·rw [start_k hgt]
    repeat tm_at "d"
    refine ⟨p2,rfl,?_,xx⟩
    rw [hp22,eS]
    have es:sgn k=Str.ofString "+" := by unfold sgn;rw [if_pos hgt]
    rw [es,(nT_sign hk).1 hgt]
    all_goals (try rfl)
  ·rintro G' M3 ⟨p3,rfl,hp3,x3⟩
   have hL:(sgd ts w').length<=40:=by split at hsl<;>omega
   have b1:Bd (((sgd ts w').map D.str).length:Nat) 10:=⟨by rw [List.length_map];show (((sgd ts w').length:Nat):Int).natAbs < 2 ^ 10;omega⟩
   repeat tm_at "d"
   refine ⟨_,_,rfl,Or.inl ⟨_,hp3,rfl⟩,?_⟩
   repeat tm_at "d"
   have e3:((((sgd ts w').map D.str).length:Nat):Int).fdiv 3 * 3=((3 * ts.length:Nat):Int):=by
    rw [List.length_map,hsl]
    rw [Int.fdiv_eq_ediv_of_nonneg _ (by decide)]
    split<;>omega
   rw [e3]
   repeat tm_at "d"
   with_reducible refine' ex_compR3 4 (own:=["at"]) (js:=[1,2]) (N:=["at", "number", "signed"]) ?T ?xe ?ca ?hm ?hN ?hj ?hy ?hyf ?hsw ?_ ?hg ?hse ?hse2 ?hs
   case T=>exact compOk_freeB (fs:=["number", "signed"]) rfl (by decide +kernel) (by decide +kernel) rfl rfl rfl rfl rfl
   case xe=>rfl
   case ca=>rfl
   case hm=>exact h_range
   case hN=>exact nd
   case hj=>rfl
   case hy=>first | exact Or.inl rfl | exact Or.inr rfl
   case hyf=>exact .inl rfl
   case hsw=>rfl
   case hg=>rfl
   case hse=>rfl
   case hse2=>rfl
   case hs=>(intro _;rfl)
   repeat tm_at "d"
   have em:many3 0 ((3 * ts.length:Nat):Int)=ts.length:=by unfold many3;omega
   refine ⟨_,fun q2 i2 acc M5=>acc=((ts.take i2).map fun t=>D.tup [.str t.1,.int t.2])/\M3 q2=none/\∀ c o,M3 c=some o->M5 c=some o,rfl,by omega,by omega,?_,?_,?_⟩
   ·intro q2 hq2
    exact ⟨by simp,hq2,ext_new hq2⟩
   ·rintro Y ⟨C',s',H',fp,rfl⟩ q2 i2 acc M5 hi ⟨rfl,hq2,hx5⟩ hacc
    rw [em] at hi
    obtain ⟨t,hti⟩:∃ t,ts[i2]?=some t:=⟨_,List.getElem?_eq_getElem hi⟩
    have hmem:=List.mem_of_getElem? hti
    have nd2:(["at", "number", "signed"] : List Str).Nodup:=by decide +kernel
    refine gv_name 0 nd2 ?_
    refine ⟨rfl,fun i d e=>?_,?_⟩
    ·rcases i with _ | i
     ·simp [compG] at e
     ·exact e
    repeat first | (refine ev_var 0 ?_) | (refine ev_var 1 ?_) | (refine ev_var 2 ?_) | tm_at "d"
    refine ev_slice sl_list ?_
    repeat first | (refine ev_var 0 ?_) | (refine ev_var 1 ?_) | (refine ev_var 2 ?_) | tm_at "d"
    refine ov_some ?_
    repeat first | (refine ev_var 0 ?_) | (refine ev_var 1 ?_) | (refine ev_var 2 ?_) | tm_at "d"
    refine ov_some ?_
    repeat first | (refine ev_var 0 ?_) | (refine ev_var 1 ?_) | (refine ev_var 2 ?_) | tm_at "d"
    refine rs_list rfl (Or.inl (hx5 _ _ hp3)) fun p6 hp6=>?_
    have ec:D3.cutD ((sgd ts w').map D.str) (some ((3 * i2:Nat):Int)) (some (((3 * i2:Nat):Int)+3))=(tkP (t.2,some t.1)).map D.str:=by
     rw [show ((3 * i2:Nat):Int)+3=((3 * i2+3:Nat):Int) from by omega,cut_at _ _ _ (by rw [List.length_map,hsl];omega),<- List.map_drop,<- List.map_take,sgd_app hz,tks_at hti]
    rw [ec]
    repeat first | (refine ev_var 0 ?_) | (refine ev_var 1 ?_) | (refine ev_var 2 ?_) | tm_at "d"
    refine ⟨p6,t,n,rfl,mset_same,ht.lett t hmem,(ht.wt t hmem).1,(ht.wt t hmem).2,fun M7 x7=>?_⟩
    refine ⟨x7 _ _ (ext_new hp6 _ _ hacc),small1000 (by rw [List.length_map,List.length_take];omega),?_,hq2,fun c o e=>by rw [mset_ne (ne_fresh e hq2)];exact x7 _ _ (ext_new hp6 _ _ (hx5 c o e))⟩
    rw [List.take_succ,hti,List.map_append]
    rfl
   ·rintro q2 acc M5 ⟨rfl,hq2,hx5⟩ hacc
    rw [em,List.take_length] at hacc
    have hp5:=hx5 _ _ hp3
    repeat first | tm_at "d" | refine exs_cons ?_
    with_reducible refine' ev_comp_list (own:=["term"]) (js:=[]) (N:=["term"]) (cl:=[]) ?T ?xe ?ca fst1 (fun _=>true) ?_ ?hs
    case T=>exact compOk_plain (by decide +kernel) (by decide +kernel) rfl (by decide +kernel) rfl
    case xe=>rfl
    case ca=>rfl
    case hs=>(intro _;rfl)
    repeat tm_at "d"
    refine ⟨q2,_,rfl,.inl hacc,small (by rw [List.length_map];omega),?_,fun q6 hq6=>?_⟩
    ·rintro Y ⟨C',s',H',fp,rfl⟩ M' hM d hd
     obtain ⟨t,htm,rfl⟩:=List.mem_map.mp hd
     have nd2:(["term"] : List Str).Nodup:=by decide +kernel
     refine gv_name 0 nd2 ?_
     refine ⟨rfl,fun i d e=>by rcases i with _ | i<;>simp [compG] at e,tvs_nil ⟨rfl,rfl⟩,fun _=>?_⟩
     repeat first | (refine ev_var 0 ?_) | tm_at "d"
     exact ⟨rfl,rfl⟩
    have ef:(((ts.map fun t=>D.tup [.str t.1,.int t.2]).filter fun _=>true).map fst1)=(ts.map (·.1)).map D.str:=by
     rw [List.filter_eq_self.mpr (by simp),List.map_map,List.map_map]
     rfl
    rw [ef]
    have x6:=ext_new (o:=.lst ((ts.map (·.1)).map D.str)) hq6
    repeat tm_at "d"
    refine ⟨q6,ts.map (·.1),n,rfl,mset_same,ht.up,by rw [List.length_map];omega,fun M8 x8=>?_⟩
    have y8:=Ext.trans x6 x8
    have hp8:=y8 _ _ hp5
    have ha8:=y8 _ _ hacc
    have xM:Ext M M8:=fun c o e=>y8 _ _ (hx5 _ _ (x3 _ _ e))
    repeat first | tm_at "d" | refine exs_cons ?_
    refine ⟨_,_,rfl,Or.inl ⟨_,hp8,rfl⟩,?_⟩
    repeat tm_at "d"
    by_cases hw:w'=0
    ·refine ifDy (by rw [List.length_map,hsl,if_neg (by simp [hw])];rfl) ?_
     repeat tm_at "d"
     refine ⟨_,rfl,_,ha8,?_⟩
     repeat tm_at "d"
     rw [hw] at q
     exact q M8 xM
    ·have hl2':(sgd ts w').length=3 * ts.length+2:=by rw [hsl,if_pos hw]
     refine ifDn (by rw [List.length_map,hl2'];omega) ?_
     repeat first | tm_at "d" | refine exs_cons ?_
     refine ⟨_,_,rfl,Or.inl ⟨_,hp8,rfl⟩,?_⟩
     repeat tm_at "d"
     refine ⟨n,by rw [decide_eq_true (by rw [List.length_map,hl2'];omega)],?_⟩
     repeat first | tm_at "d" | refine exs_cons ?_
     refine ⟨_,rfl,_,ha8,?_⟩
     repeat tm_at "d"
     refine ev_slice sl_list ?_
     repeat tm_at "d"
     refine ov_some ?_
     repeat tm_at "d"
     refine ov_none ?_
     refine rs_list rfl (Or.inl hp8) fun p9 hp9=>?_
     have ec:D3.cutD ((sgd ts w').map D.str) (some ((3 * ts.length:Nat):Int)) none=[sgn w',abT w'].map D.str:=by
      rw [cut_from _ _ (by rw [List.length_map,hl2'];omega),<- List.map_drop,sgd_app hz,if_pos hw]
      congr 1
      rw [<- tks_len ts,List.drop_left]
     rw [ec]
     repeat tm_at "d"
     refine ⟨p9,w',n,[],rfl,mset_same,hw,hb,fun M9 x9=>?_⟩
     repeat tm_at "d"
     exact q M9 (Ext.trans xM (Ext.trans (ext_new hp9) x9))
end
theorem low_num (i:Int):∀ c∈(nT i).cps.toList,c < 58:=by
 have pos:∀ m:Nat,∀ c∈(nT (m:Int)).cps.toList,c < 58:=fun m c hc=>by have:=nT_digits m c hc;omega
 intro c hc
 by_cases h0:i=0
 ·subst h0;exact pos 0 c hc
 ·obtain ⟨hp,hn⟩:=nT_sign h0
  rcases Int.lt_or_gt_of_ne h0 with hlt | hgt
  ·rw [hn hlt,cps_app] at hc
   rcases List.mem_append.mp hc with hc | hc
   ·have:c∈[45]:=hc
    simp at this
    omega
   ·exact pos _ c hc
  ·rw [hp hgt] at hc;exact pos _ c hc
theorem tkA_word {ts:List (Str × Int)} {w:Int} {x:Str} (h:∀ t∈ts,Letter t.1) (h1:2<=x.length) (h2:∃ c∈x.cps.toList,97<=c):∀ t∈tkA ts w,t≠x:=by
 obtain ⟨c,hc,hc97⟩:=h2
 have num:∀ i:Int,nT i≠x:=fun i z=>by
  have:=low_num i c (by rw [z];exact hc)
  omega
 have sg:∀ i:Int,sgn i≠x:=fun i z=>by
  have e:(sgn i).length=1:=by unfold sgn;split<;>decide +kernel
  rw [z] at e
  omega
 have opt:∀ p∈ptO ts w,∀ t∈p.2.toList,t≠x:=fun p hp t htt=>by
  have:=ptO_letter h p hp t (by cases e:p.2 with
   | none=>rw [e] at htt;cases htt
   | some x=>rw [e] at htt;rw [List.mem_singleton.mp htt])
  obtain ⟨d,_,_,rfl⟩:=this
  intro z
  rw [<- z] at h1
  have h3:2<=1:=h1
  omega
 intro t htt
 unfold tkA at htt
 cases e:ptO ts w with
 | nil=>rw [e] at htt;cases htt
 | cons p r =>
  rw [e] at htt opt
  rcases List.mem_append.mp htt with htt | htt
  ·rcases List.mem_cons.mp htt with rfl | htt
   ·exact num _
   ·exact opt p (List.mem_cons_self ..) t htt
  ·obtain ⟨q,hq,htt⟩:=List.mem_flatMap.mp htt
   rcases List.mem_cons.mp htt with rfl | htt
   ·exact sg _
   ·rcases List.mem_cons.mp htt with rfl | htt
    ·exact num _
    ·exact opt q (List.mem_cons_of_mem _ hq) t htt
theorem tkA_len {ts:List (Str × Int)} {w:Int} (h:ts.length<=6):(tkA ts w).length<=30:=by
 have hp:(ptO ts w).length<=7:=by
  unfold ptO
  rw [List.length_append,List.length_map]
  split<;>simp<;>omega
 have h3:∀ l:List Pn,(l.flatMap tkP).length<=3 * l.length:=fun l=>by
  induction l with
  | nil=>exact Nat.le_refl _
  | cons p l ih =>
   rw [List.flatMap_cons,List.length_append,List.length_cons]
   have:(tkP p).length<=3:=by unfold tkP;cases p.2<;>simp
   omega
 unfold tkA
 cases e:ptO ts w with
 | nil=>simp
 | cons p r =>
  rw [e,List.length_cons] at hp
  have:=h3 r
  show (nT p.1 :: p.2.toList++r.flatMap tkP).length<=30
  rw [List.length_append,List.length_cons]
  have:p.2.toList.length<=1:=by cases p.2<;>simp
  omega
theorem tkA_pos (ts:List (Str × Int)) (w:Int):1<=(tkA ts w).length:=List.length_pos_iff.mpr (tkA_ne ts w)
section
variable {P:Program} {w:World} {K:PySem.W.Frag} {mg:Str->Option Value} {base:Heap} {f:Addr} {fd:FuncData} {aW:Addr}
local macro_rules | `(tactic| tm_at "d")=>`(tactic| ((with_reducible show EV _ _ _ (Expr.BinOp _ Operator.Add (Expr.Tuple _ _ _) _) _);with_reducible refine ev_addT ?_))
local macro_rules | `(tactic| tm_at $s:str)=>namT ["tokens", "number", "by"] s
theorem ok_read_sum (F:Fun K "read_sum" "read_sum" s_read_sum f fd) (h_len:mg "len" = none) (C_must:Cal P w K mg base 1 "must" spMustR) (C_read_whole:Cal P w K mg base 2 "read_whole" spWholeR) (C_read_added:Cal P w K mg base 4 "read_added" spAddedR):FnOk P w K mg base CX0 5 f fd P_read_sum (liftSp K spSumR):=by
 refine fn_D F sc_read_sum (fun ds M Q ⟨a,b,c,h,_⟩=>by subst h;rfl) fun cdv A outer s H EE ds M Q hr h=>?_
 have nd:=sc_read_sum.nd
 try (refine let_X ?_;intro X)
 obtain ⟨l,sm,n,rfl,hl,hs,q⟩:=h
 obtain ⟨ht,hw,hp,hb⟩:=hs
 have hA:=tkA_len (w:=sm.2.1) ht.len
 have hA1:=tkA_pos sm.1 sm.2.1
 have hb':sm.2.2.natAbs < 2 ^ 64:=hb
 have eD:smD sm=.tup [trm sm.1,.int sm.2.1,.int sm.2.2]:=rfl
 by_cases h1:sm.2.2 > 1
 ·have eT:tkS sm=tkA sm.1 sm.2.1++[Str.ofString "over",nT sm.2.2]:=by unfold tkS;rw [if_pos h1]
  rw [eT] at hl
  have e2:strsL (tkA sm.1 sm.2.1++[Str.ofString "over",nT sm.2.2])=.lst ((tkA sm.1 sm.2.1).map D.str++[.str "over",.str (nT sm.2.2)]):=by unfold strsL;rw [List.map_append];rfl
  rw [e2] at hl
  refine exs_cons ?_
  repeat tm_at "d"
  refine ⟨_,_,rfl,Or.inl ⟨_,hl,rfl⟩,?_⟩
  repeat tm_at "d"
  refine ifDn (by rw [List.length_append,List.length_map];simp only [List.length_cons,List.length_nil];omega) ?_
  repeat first | tm_at "d" | refine ix_al hl (at_end2 _ _ _) ?_ | refine ifNn rfl ?_ | refine exs_cons ?_ | refine ix_al hl (at_end1 _ _ _) ?_
  refine ⟨sm.2.2,n,rfl,by show sm.2.2.natAbs < 2 ^ 65;omega,fun M1 x1=>?_⟩
  repeat first | tm_at "d" | refine exs_cons ?_
  refine ⟨n,by rw [decide_eq_true h1],?_⟩
  repeat first | tm_at "d" | refine exs_cons ?_
  refine ev_slice sl_list ?_
  repeat tm_at "d"
  refine ov_none ?_
  refine ov_some ?_
  repeat tm_at "d"
  refine rs_list rfl (Or.inl (x1 _ _ hl)) fun p2 hp2=>?_
  rw [cut_end]
  repeat tm_at "d"
  refine ⟨p2,sm.1,sm.2.1,n,rfl,mset_same,ht,hw,fun M3 x3=>?_⟩
  repeat tm_at "d"
  refine ⟨_,_,rfl,rfl,small (Nat.le_of_ble_eq_true rfl),?_⟩
  exact q M3 (Ext.trans x1 (Ext.trans (ext_new hp2) x3))
 ·have h1':sm.2.2=1:=by omega
  have eT:tkS sm=tkA sm.1 sm.2.1:=by unfold tkS;rw [if_neg h1,List.append_nil]
  rw [eT] at hl
  refine exs_cons ?_
  repeat tm_at "d"
  refine ⟨_,_,rfl,Or.inl ⟨_,hl,rfl⟩,?_⟩
  repeat tm_at "d"
  rw [List.length_map]
  refine ifD ?_ ?_
  ·intro _
   repeat tm_at "d"
   refine ⟨l,sm.1,sm.2.1,n,rfl,hl,ht,hw,fun M3 x3=>?_⟩
   repeat tm_at "d"
   refine ⟨_,_,rfl,rfl,small (Nat.le_of_ble_eq_true rfl),?_⟩
   rw [eD,h1'] at q
   exact q M3 x3
  ·intro hge
   obtain ⟨xs,a,b,e3⟩:∃ xs a b,tkA sm.1 sm.2.1=xs++[a,b]:=by
    have hge':3<=(tkA sm.1 sm.2.1).length:=by omega
    generalize tkA sm.1 sm.2.1=ys at hge'
    obtain ⟨y1,b,rfl⟩:∃ y1 b,ys=y1++[b]:=⟨ys.dropLast,ys.getLast (by intro z;rw [z] at hge';simp at hge'),(List.dropLast_concat_getLast _).symm⟩
    obtain ⟨y2,a,rfl⟩:∃ y2 a,y1=y2++[a]:=⟨y1.dropLast,y1.getLast (by intro z;rw [z] at hge';simp at hge'),(List.dropLast_concat_getLast _).symm⟩
    exact ⟨y2,a,b,by rw [List.append_assoc];rfl⟩
   have hwd:¬ a=Str.ofString "over" := tkA_word ht.lett (by decide +kernel) ⟨111,by decide +kernel,by decide⟩ a (by rw [e3];simp)
   have hl2:=hl
   rw [e3] at hl2
   have e2:strsL (xs++[a,b])=.lst (xs.map D.str++[.str a,.str b]):=by unfold strsL;rw [List.map_append];rfl
   rw [e2] at hl2
   repeat first | tm_at "d" | refine ix_al hl2 (at_end2 _ _ _) ?_ | refine ifNy hwd ?_
   refine ⟨l,sm.1,sm.2.1,n,rfl,hl,ht,hw,fun M3 x3=>?_⟩
   repeat tm_at "d"
   refine ⟨_,_,rfl,rfl,small (Nat.le_of_ble_eq_true rfl),?_⟩
   rw [eD,h1'] at q
   exact q M3 x3
local macro_rules | `(tactic| tm_at $s:str)=>namT ["tokens", "number", "fall"] s
theorem ok_read_measure (F:Fun K "read_measure" "read_measure" s_read_measure f fd) (h_len:mg "len" = none) (C_must:Cal P w K mg base 1 "must" spMustR) (C_read_whole:Cal P w K mg base 2 "read_whole" spWholeR) (C_read_sum:Cal P w K mg base 5 "read_sum" spSumR):FnOk P w K mg base CX0 6 f fd P_read_measure (liftSp K spMeasR):=by
 refine fn_D F sc_read_measure (fun ds M Q ⟨a,b,c,h,_⟩=>by subst h;rfl) fun cdv A outer s H EE ds M Q hr h=>?_
 have nd:=sc_read_measure.nd
 try (refine let_X ?_;intro X)
 obtain ⟨l,m,n,rfl,hl,hs,hp,hb,q⟩:=h
 have hS1:1<=(tkS m.1).length:=List.length_pos_iff.mpr (tkS_ne m.1)
 have e2:strsL (tkS m.1++[Str.ofString "by",nT m.2])=.lst ((tkS m.1).map D.str++[.str "by",.str (nT m.2)]):=by unfold strsL;rw [List.map_append];rfl
 rw [e2] at hl
 refine exs_cons ?_
 repeat tm_at "d"
 refine ⟨_,_,rfl,Or.inl ⟨_,hl,rfl⟩,?_⟩
 repeat tm_at "d"
 refine ifDy (by rw [List.length_append,List.length_map];simp only [List.length_cons,List.length_nil];omega) ?_
 repeat first | tm_at "d" | refine ix_al hl (at_end2 _ _ _) ?_
 refine ⟨n,by rw [decide_eq_true rfl],?_⟩
 repeat first | tm_at "d" | refine exs_cons ?_ | refine ix_al hl (at_end1 _ _ _) ?_
 refine ⟨m.2,n,rfl,hb,fun M1 x1=>?_⟩
 repeat first | tm_at "d" | refine exs_cons ?_
 refine ⟨n,by rw [decide_eq_true hp],?_⟩
 repeat first | tm_at "d" | refine exs_cons ?_
 refine ev_slice sl_list ?_
 repeat tm_at "d"
 refine ov_none ?_
 refine ov_some ?_
 repeat tm_at "d"
 refine rs_list rfl (Or.inl (x1 _ _ hl)) fun p2 hp2=>?_
 rw [cut_end]
 repeat tm_at "d"
 refine ⟨p2,m.1,n,rfl,mset_same,hs,fun M3 x3=>?_⟩
 repeat tm_at "d"
 exact q M3 (Ext.trans x1 (Ext.trans (ext_new hp2) x3))
local macro_rules | `(tactic| tm_at $s:str)=>namT ["tokens", "number", "added"] s
local macro_rules | `(tactic| tm_at "d")=>`(tactic| first
 | ((with_reducible show EV _ _ _ (Expr.Compare _ [CmpOp.In] [Expr.Name "WORDS" _] _) _);(with_reducible refine' ev_inTwo ?n0 ?n1 ?n2 ?n3 ?_ ?n4 ?n5 ?n6);(case n0=>exact hW);(case n1=>decide +kernel);(case n2=>exact hsys);(case n3=>exact gW);(case n4=>rfl);(case n5=>decide);(case n6=>rfl))
 | ((with_reducible show EV _ _ _ (Expr.Subscript (Expr.Name "WORDS" _) _ _) _);(with_reducible refine' ev_two ?n0 ?n1 ?n2 ?_ ?n3 ?n4 ?n5);(case n0=>exact hW);(case n1=>decide +kernel);(case n2=>exact gW);(case n3=>rfl);(case n4=>decide);(case n5=>(intro _ _;rfl))))
theorem ok_read_row (F:Fun K "read_row" "read_row" s_read_row f fd) (h_len:mg "len" = none) (hW:Two K w aW ">=" "least" ">" "more") (hsys:(aW == sysModules)=false) (gW:mg "WORDS" = some (.ref aW)) (C_must:Cal P w K mg base 1 "must" spMustR) (C_read_whole:Cal P w K mg base 2 "read_whole" spWholeR) (C_read_added:Cal P w K mg base 4 "read_added" spAddedR):FnOk P w K mg base CX0 5 f fd P_read_row (liftSp K spRowR):=by
 refine fn_D F sc_read_row (fun ds M Q ⟨a,b,c,h,_⟩=>by subst h;rfl) fun cdv A outer s H EE ds M Q hr h=>?_
 have nd:=sc_read_row.nd
 try (refine let_X ?_;intro X)
 obtain ⟨l,r,n,rfl,hl,⟨ht,hb⟩,q⟩:=h
 have hA1:=tkA_pos r.2.1 0
 have hb':r.2.2.natAbs < 2 ^ 64:=hb
 have e2:strsL (tkR r)=.lst ((tkA r.2.1 0).map D.str++[.str (sigT r.1),.str (nT r.2.2)]):=by unfold strsL tkR;rw [List.map_append];rfl
 rw [e2] at hl
 have hsig:(decide (sigT r.1=Str.ofString ">=") || decide (sigT r.1=Str.ofString ">"))=true:=by cases r.1<;>decide +kernel
 refine exs_cons ?_
 repeat tm_at "d"
 refine ⟨_,_,rfl,Or.inl ⟨_,hl,rfl⟩,?_⟩
 repeat tm_at "d"
 refine ifDy (by rw [List.length_append,List.length_map];simp only [List.length_cons,List.length_nil];omega) ?_
 repeat first | tm_at "d" | refine ix_al hl (at_end2 _ _ _) ?_
 refine ⟨_,rfl,?_⟩
 rw [hsig]
 repeat tm_at "d"
 refine ⟨n,rfl,?_⟩
 repeat first | tm_at "d" | refine exs_cons ?_
 refine ev_slice sl_list ?_
 repeat tm_at "d"
 refine ov_none ?_
 refine ov_some ?_
 repeat tm_at "d"
 refine rs_list rfl (Or.inl hl) fun p2 hp2=>?_
 rw [cut_end]
 repeat tm_at "d"
 refine ⟨p2,r.2.1,0,n,rfl,mset_same,ht,by show (0:Int).natAbs < 2 ^ 64;decide,fun M3 x3=>?_⟩
 have xM:=Ext.trans (ext_new (o:=.lst ((tkA r.2.1 0).map D.str)) hp2) x3
 have hl3:=xM _ _ hl
 repeat first | tm_at "d" | refine exs_cons ?_
 refine ⟨n,by rw [decide_eq_true rfl],?_⟩
 repeat first | tm_at "d" | refine exs_cons ?_ | refine ix_al hl3 (at_end2 _ _ _) ?_
 refine ⟨_,rfl,?_,?_⟩
 ·cases r.1
  ·exact .inr (by decide +kernel)
  ·exact .inl (by decide +kernel)
 have ew:(if sigT r.1=Str.ofString ">=" then Str.ofString "least" else Str.ofString "more")=word r.1:=by cases r.1<;>decide +kernel
 rw [ew]
 repeat first | tm_at "d" | refine ix_al hl3 (at_end1 _ _ _) ?_
 refine ⟨r.2.2,n,rfl,by show r.2.2.natAbs < 2 ^ 65;omega,fun M4 x4=>?_⟩
 repeat tm_at "d"
 exact q M4 (Ext.trans xM x4)
end
def ad (gs:List (List Str)) (t:Str):List (List Str):=if t=Str.ofString "and" then gs++[[]] else gs.dropLast++[gs.getLastD []++[t]]
theorem ad_and (gs:List (List Str)):ad gs (Str.ofString "and")=gs++[[]]:=by unfold ad;rw [if_pos rfl]
theorem ad_tok {gs:List (List Str)} {g:List Str} {t:Str} (h:t≠Str.ofString "and"):ad (gs++[g]) t=gs++[g++[t]]:=by
 unfold ad
 rw [if_neg h,List.dropLast_concat]
 simp
theorem ad_run:∀ {xs:List Str},(∀ t∈xs,t≠Str.ofString "and")->∀ (gs:List (List Str)) (g:List Str),xs.foldl ad (gs++[g])=gs++[g++xs]
 | [],_,gs,g=>by simp
 | x :: xs,h,gs,g=>by
  rw [List.foldl_cons,ad_tok (h x (List.mem_cons_self ..)),ad_run (fun t ht=>h t (List.mem_cons_of_mem _ ht)),List.append_assoc]
  rfl
theorem tkR_and {r:Rw} (h:RdR r):∀ t∈tkR r,t≠Str.ofString "and" := by
 intro t ht
 unfold tkR at ht
 rcases List.mem_append.mp ht with ht | ht
 ·exact tkA_word h.1.lett (by decide +kernel) ⟨97,by decide +kernel,by decide⟩ t ht
 ·simp only [List.mem_cons,List.not_mem_nil,or_false] at ht
  rcases ht with rfl | rfl
  ·cases r.1<;>decide +kernel
  ·intro z
   have:=low_num r.2.2 97 (by rw [z];decide +kernel)
   omega
theorem ad_rows:∀ {rs:List Rw},rs≠[]->(∀ r∈rs,RdR r)->∀ gs:List (List Str),(tkRs rs).foldl ad (gs++[[]])=gs++rs.map tkR
 | [],h,_,_=>absurd rfl h
 | [r],_,h,gs=>ad_run (tkR_and (h r (List.mem_cons_self ..))) gs []
 | r :: s :: l,_,h,gs=>by
  show (tkR r++Str.ofString "and" :: tkRs (s :: l)).foldl ad (gs++[[]])=_
  rw [List.foldl_append,ad_run (tkR_and (h r (List.mem_cons_self ..))) gs [],List.foldl_cons,ad_and,List.nil_append,ad_rows (by simp) (fun q hq=>h q (List.mem_cons_of_mem _ hq)),List.append_assoc]
  rfl
theorem tkR_len {r:Rw} (h:RdR r):(tkR r).length<=32:=by
 have:=tkA_len (w:=0) h.1.len
 unfold tkR
 rw [List.length_append]
 show _+2<=32
 omega
theorem tkRs_len {rs:List Rw} (h:RdRs rs):(tkRs rs).length<=70:=by
 obtain ⟨h1,h2⟩:=h
 match rs,h1,h2 with
 | [],_,_=>simp [tkRs]
 | [r],_,h2=>exact Nat.le_trans (tkR_len (h2 r (List.mem_cons_self ..))) (by decide)
 | [r,s],_,h2 =>
  have a:=tkR_len (h2 r (List.mem_cons_self ..))
  have b:=tkR_len (h2 s (by simp))
  show (tkR r++Str.ofString "and" :: tkR s).length<=70
  rw [List.length_append,List.length_cons]
  omega
theorem noneR {M M':MH} {p:Addr} (h:Ext M M') (e:M' p=none):M p=none:=by
 cases z:M p with
 | none=>rfl
 | some o=>rw [h _ _ z] at e;cases e
def Gz (M:MH):List Addr->List (List Str)->Prop
 | [],gs=>gs=[]
 | a :: as,gs=>∃ g r,gs=g :: r/\M a=some (strsL g)/\Gz M as r
theorem Gz.len {M:MH}:∀ {as:List Addr} {gs:List (List Str)},Gz M as gs->as.length=gs.length
 | [],gs,h=>by rw [show gs=[] from h];rfl
 | a :: as,gs,h=>by
  obtain ⟨g,r,rfl,_,h2⟩:=h
  rw [List.length_cons,List.length_cons,h2.len]
theorem Gz.keep {M M':MH}:∀ {as:List Addr} {gs:List (List Str)},Gz M as gs->(∀ a∈as,∀ o,M a=some o->M' a=some o)->Gz M' as gs
 | [],gs,h,_=>h
 | a :: as,gs,h,k=>by
  obtain ⟨g,r,rfl,h1,h2⟩:=h
  exact ⟨g,r,rfl,k a (List.mem_cons_self ..) _ h1,h2.keep fun b hb=>k b (List.mem_cons_of_mem _ hb)⟩
theorem Gz.snoc {M:MH} {a:Addr} {g:List Str} (ha:M a=some (strsL g)):∀ {as:List Addr} {gs:List (List Str)},Gz M as gs->Gz M (as++[a]) (gs++[g])
 | [],gs,h=>by rw [show gs=[] from h];exact ⟨g,[],rfl,ha,rfl⟩
 | b :: as,gs,h=>by
  obtain ⟨g',r,rfl,h1,h2⟩:=h
  exact ⟨g',_,rfl,h1,h2.snoc ha⟩
theorem Gz.get {M:MH}:∀ {as:List Addr} {gs:List (List Str)} {i:Nat} {a:Addr},Gz M as gs->as[i]?=some a->∃ g,gs[i]?=some g/\M a=some (strsL g)
 | [],_,_,_,_,e=>by simp at e
 | b :: as,gs,0,a,h,e=>by
  obtain ⟨g,r,rfl,h1,_⟩:=h
  simp at e;subst e
  exact ⟨g,rfl,h1⟩
 | b :: as,gs,i+1,a,h,e=>by
  obtain ⟨g,r,rfl,_,h2⟩:=h
  exact h2.get (by simpa using e)
theorem Gz.has {M:MH} {as:List Addr} {gs:List (List Str)} (h:Gz M as gs):∀ a∈as,∃ o,M a=some o:=fun a ha=>by
 obtain ⟨i,hi⟩:=List.mem_iff_getElem?.mp ha
 obtain ⟨g,_,e⟩:=h.get hi
 exact ⟨_,e⟩
section
variable {P:Program} {w:World} {K:PySem.W.Frag} {mg:Str->Option Value} {base:Heap} {f:Addr} {fd:FuncData} {tM:Tok}
local macro_rules | `(tactic| tm_at $s:str)=>namT ["tokens", "number", "parts", "token"] s
local macro_rules | `(tactic| tm_at "d")=>`(tactic| ((with_reducible show EV _ _ _ (Expr.Name "MOST_ROWS" _) _);(with_reducible refine' ev_gint ?n0 ?_ ?n1 ?n2);(case n0=>exact gM);(case n1=>rfl);(case n2=>decide)))
theorem ok_read_rows (F:Fun K "read_rows" "read_rows" s_read_rows f fd) (h_len:mg "len" = none) (h_tuple:mg "tuple" = none) (gM:mg "MOST_ROWS" = some (.int 2 tM)) (C_must:Cal P w K mg base 1 "must" spMustR) (C_read_row:Cal P w K mg base 5 "read_row" spRowR):FnOk P w K mg base CX0 6 f fd P_read_rows (liftSp K spRowsR):=by
 refine fn_D F sc_read_rows (fun ds M Q ⟨a,b,c,h,_⟩=>by subst h;rfl) fun cdv A outer s H EE ds M Q hr h=>?_
 have nd:=sc_read_rows.nd
 try (refine let_X ?_;intro X)
 obtain ⟨l,rs,n,rfl,hl,hne,hrs,q⟩:=h
 have hlen:=tkRs_len hrs
 refine exs_cons ?_
 repeat tm_at "d"
 intro a0 ha0
 repeat tm_at "d"
 intro p0 hp0
 have x0:=ext_new (o:=.lst []) ha0
 have x1:=ext_new (o:=.lst [.ref a0]) hp0
 have hap:a0≠p0:=ne_fresh (mset_same (M:=M) (a:=a0) (o:=.lst [])) hp0
 refine exs_cons ?_
 with_reducible refine' ex_for_list ?n0 ?n1 ?_ ?n2
 case n0=>exact PassesOwn.never
 case n1=>rfl
 case n2=>(intro _;rfl)
 repeat tm_at "d"
 refine ⟨l,(tkRs rs).map D.str,fun i G' M'=>∃ (as:List Addr) (a:Addr) (gs:List (List Str)) (g:List Str) (r3:Option D),G'=[some (.ref l),some (.int n),some (.ref p0),r3]/\M' p0=some (.lst ((as++[a]).map D.ref))/\Gz M' as gs/\M' a=some (strsL g)/\((tkRs rs).take i).foldl ad [[]]=gs++[g]/\(∀ b∈as++[a],M b=none/\b≠p0)/\a∉as/\g.length+gs.length<=i+1/\∀ c o,M c=some o->M' c=some o,rfl,.inl (x1 _ _ (x0 _ _ hl)),?_,?_,?_,?_⟩
 ·exact ⟨[],a0,[],[],none,rfl,mset_same,rfl,x1 _ _ mset_same,rfl,fun b hb=>by rw [List.mem_singleton.mp hb];exact ⟨ha0,hap⟩,by simp,by simp,fun c o e=>x1 _ _ (x0 _ _ e)⟩
 ·rintro i G' M' _ ⟨as,a,gs,g,r3,rfl,h1,h2,h3,h4,h5,h6,h7,h8⟩
  rw [h8 _ _ hl,x1 _ _ (x0 _ _ hl)]
 ·rintro i d G' M' hd ⟨as,a,gs,g,r3,rfl,h1,h2,h3,h4,h5,h6,h7,h8⟩
  rw [List.getElem?_map] at hd
  obtain ⟨t,hti,rfl⟩:=Option.map_eq_some_iff.mp hd
  have hil:=(List.getElem?_eq_some_iff.mp hti).1
  have hp0M:M p0=none:=noneR x0 hp0
  have hgl:=h2.len
  have step:((tkRs rs).take (i+1)).foldl ad [[]]=ad (gs++[g]) t:=by rw [List.take_succ,hti,List.foldl_append,h4];rfl
  repeat tm_at "d"
  by_cases hand:t=Str.ofString "and"
  ·refine ifDy hand ?_
   repeat tm_at "d"
   refine ⟨p0,rfl,⟨_,h1⟩,?_⟩
   repeat tm_at "d"
   intro a2 ha2
   have x2:=ext_new (o:=.lst []) ha2
   have hne2:p0≠a2:=ne_fresh h1 ha2
   refine ⟨_,x2 _ _ h1,small1000 (by rw [List.length_map,List.length_append];show _+1<=_;omega),?_⟩
   refine ⟨as++[a],a2,gs++[g],[],_,rfl,?_,?_,?_,?_,?_,?_,?_,?_⟩
   ·rw [mset_same,List.map_append (l₁:=as++[a])];rfl
   ·refine Gz.snoc ?_ (h2.keep fun b hb o e=>?_)
    ·rw [mset_ne (h5 a (by simp)).2];exact x2 _ _ h3
    ·rw [mset_ne (h5 b (by simp [hb])).2];exact x2 _ _ e
   ·rw [mset_ne hne2.symm];exact mset_same
   ·rw [step,hand,ad_and]
   ·intro b hb
    rcases List.mem_append.mp hb with hb | hb
    ·exact h5 b hb
    ·rw [List.mem_singleton.mp hb]
     refine ⟨?_,hne2.symm⟩
     cases e:M a2 with
     | none=>rfl
     | some o=>rw [h8 _ _ e] at ha2;cases ha2
   ·intro hb
    rcases List.mem_append.mp hb with hb | hb
    ·obtain ⟨o,e⟩:=h2.has a2 hb
     rw [e] at ha2;cases ha2
    ·rw [List.mem_singleton.mp hb] at ha2
     rw [h3] at ha2;cases ha2
   ·rw [List.length_append];show 0+(_+1)<=_;omega
   ·intro c o e
    rw [mset_ne (ne_fresh e hp0M)];exact x2 _ _ (h8 _ _ e)
  ·refine ifDn hand ?_
   repeat tm_at "d"
   have el:atI ((as++[a]).map D.ref) (-1)=some (.ref a):=by rw [List.map_append];exact L2.atI_last _ _
   refine ix_al h1 el ?_
   refine ⟨a,rfl,⟨_,h3⟩,?_⟩
   repeat tm_at "d"
   refine ⟨_,h3,small1000 (by rw [List.length_map];omega),?_⟩
   have haM:=(h5 a (by simp)).1
   have hap2:=(h5 a (by simp)).2
   refine ⟨as,a,gs,g++[t],_,rfl,?_,?_,?_,?_,h5,h6,?_,?_⟩
   ·rw [mset_ne hap2.symm];exact h1
   ·exact h2.keep fun b hb o e=>by rw [mset_ne (fun z=>h6 (by rw [<- z];exact hb))];exact e
   ·rw [mset_same];unfold strsL;rw [List.map_append];rfl
   ·rw [step,ad_tok hand]
   ·rw [List.length_append];show _+1+_<=_;omega
   ·intro c o e
    rw [mset_ne (ne_fresh e haM)];exact h8 _ _ e
 ·rintro G' M' ⟨as,a,gs,g,r3,rfl,h1,h2,h3,h4,h5,h6,h7,h8⟩
  rw [List.length_map,List.take_length,show ([[]] : List (List Str))=[]++[[]] from rfl,ad_rows hne hrs.2,List.nil_append] at h4
  have hG:=Gz.snoc h3 h2
  rw [<- h4] at hG
  have hGl:=hG.len
  rw [List.length_map] at hGl
  have hrl:=hrs.1
  repeat first | tm_at "d" | refine exs_cons ?_
  refine ⟨_,_,rfl,Or.inl ⟨_,h1,rfl⟩,?_⟩
  repeat tm_at "d"
  refine ⟨n,by rw [decide_eq_true (by rw [List.length_map,hGl];omega)],?_⟩
  repeat first | tm_at "d" | refine exs_cons ?_
  with_reducible refine' ev_compLI (own:=["part"]) (js:=[1]) (N:=["part", "number"]) ?T ?xe ?ca ?_ ?hs
  case T=>exact compOk_freeB (fs:=["number"]) rfl (by decide +kernel) (by decide +kernel) rfl rfl rfl rfl rfl
  case xe=>rfl
  case ca=>rfl
  case hs=>(intro _;rfl)
  repeat tm_at "d"
  refine ⟨p0,_,fun q2 i2 acc M5=>acc=(rs.take i2).map rwD/\M' q2=none/\∀ c o,M' c=some o->M5 c=some o,rfl,h1,fun q2 i2 acc M5 ⟨_,_,k5⟩=>k5 _ _ h1,fun q2 hq2=>⟨by simp,hq2,ext_new hq2⟩,?_,?_⟩
  ·rintro Y ⟨C',s',H',fp,rfl⟩ q2 i2 acc M5 d hd ⟨rfl,hq2,k5⟩ hacc
   rw [List.getElem?_map] at hd
   obtain ⟨ai,hai,rfl⟩:=Option.map_eq_some_iff.mp hd
   obtain ⟨g2,hg2,hm2⟩:=hG.get hai
   rw [List.getElem?_map] at hg2
   obtain ⟨r,hri,rfl⟩:=Option.map_eq_some_iff.mp hg2
   have nd2:(["part", "number"] : List Str).Nodup:=by decide +kernel
   refine gv_name 0 nd2 ?_
   refine ⟨rfl,fun i d e=>?_,?_⟩
   ·rcases i with _ | i
    ·simp [compG] at e
    ·exact e
   repeat first | (refine ev_var 0 ?_) | (refine ev_var 1 ?_) | tm_at "d"
   refine ⟨ai,r,n,rfl,k5 _ _ hm2,hrs.2 r (List.mem_of_getElem? hri),fun M7 x7=>?_⟩
   refine ⟨x7 _ _ hacc,small1000 (by rw [List.length_map,List.length_take];omega),?_,hq2,fun c o e=>by rw [mset_ne (ne_fresh e hq2)];exact x7 _ _ (k5 c o e)⟩
   rw [List.take_succ,hri,List.map_append]
   rfl
  ·rintro q2 acc M5 ⟨rfl,hq2,k5⟩ hacc
   have e9:rs.take ((as++[a]).map D.ref).length=rs:=by rw [List.length_map,hGl,List.take_length]
   rw [e9] at hacc
   repeat tm_at "d"
   refine ⟨_,rfl,_,hacc,?_⟩
   exact q M5 fun c o e=>k5 _ _ (h8 _ _ e)
end
section
variable {P:Program} {w:World} {K:PySem.W.Frag} {mg:Str->Option Value} {base:Heap} {f:Addr} {fd:FuncData}
local macro_rules | `(tactic| tm_at $s:str)=>namT ["tokens", "number"] s
theorem ok_read_names (F:Fun K "read_names" "read_names" s_read_names f fd) (h_len:mg "len" = none) (h_all:mg "all" = none) (h_tuple:mg "tuple" = none) (C_must:Cal P w K mg base 1 "must" spMustR) (C_is_name:Cal P w K mg base 1 "is_name" spIsName) (C_must_be_in_order:Cal P w K mg base 2 "must_be_in_order" spOrderR):FnOk P w K mg base CX0 3 f fd P_read_names (liftSp K spNamesR):=by
 refine fn_D F sc_read_names (fun ds M Q ⟨a,b,c,h,_⟩=>by subst h;rfl) fun cdv A outer s H EE ds M Q hr h=>?_
 have nd:=sc_read_names.nd
 try (refine let_X ?_;intro X)
 obtain ⟨l,ss,n,rfl,hl,hu,h1,h6,q⟩:=h
 refine exs_cons ?_
 repeat tm_at "d"
 refine ⟨_,_,rfl,Or.inl ⟨_,hl,rfl⟩,?_⟩
 repeat tm_at "d"
 refine ifDy (by rw [List.length_map];omega) ?_
 repeat tm_at "d"
 with_reducible refine' ev_allL ?n0 ?n1 ?_ ?n2 ?n3 ?n4
 case n0=>rfl
 case n1=>exact h_all
 case n2=>rfl
 case n3=>rfl
 case n4=>rfl
 repeat tm_at "d"
 with_reducible refine' ev_comp_list (own:=["token"]) (js:=[]) (N:=["token"]) (cl:=[]) ?T ?xe ?ca (fun _=>D.bl true) (fun _=>true) ?_ ?hs
 case T=>exact compOk_plain (by decide +kernel) (by decide +kernel) rfl (by decide +kernel) rfl
 case xe=>rfl
 case ca=>rfl
 case hs=>(intro _;rfl)
 repeat tm_at "d"
 refine ⟨l,_,rfl,.inl hl,small (by rw [List.length_map];omega),?_,fun q1 hq1=>?_⟩
 ·rintro Y ⟨C',s',H',fp,rfl⟩ M' hM d hd
  obtain ⟨x,hx,rfl⟩:=List.mem_map.mp hd
  have nd2:(["token"] : List Str).Nodup:=by decide +kernel
  refine gv_name 0 nd2 ?_
  refine ⟨rfl,fun i d e=>by rcases i with _ | i<;>simp [compG] at e,tvs_nil ⟨rfl,rfl⟩,fun _=>?_⟩
  repeat first | (refine ev_var 0 ?_) | tm_at "d"
  exact ⟨x,rfl,hu.lett x hx,rfl,rfl⟩
 have e:((ss.map D.str).filter fun _=>true).map (fun _=>D.bl true)=(List.replicate ss.length true).map D.bl:=by
  rw [List.filter_eq_self.mpr (by simp),List.map_map]
  clear hl hu h1 h6 q
  induction ss with
  | nil=>rfl
  | cons a l ih=>simp only [List.map_cons,List.length_cons,List.replicate_succ];rw [ih];rfl
 rw [e]
 have x1:=ext_new (o:=.lst ((List.replicate ss.length true).map D.bl)) hq1
 repeat tm_at "d"
 refine ⟨q1,_,rfl,mset_same,?_⟩
 have e2:(List.replicate ss.length true).all id=true:=by simp
 rw [e2]
 repeat tm_at "d"
 refine ⟨n,rfl,?_⟩
 repeat first | tm_at "d" | refine exs_cons ?_
 refine ⟨l,ss,n,rfl,x1 _ _ hl,hu,by omega,fun M2 x2=>?_⟩
 repeat first | tm_at "d" | refine exs_cons ?_
 refine ⟨_,rfl,_,x2 _ _ (x1 _ _ hl),?_⟩
 exact q M2 (Ext.trans x1 x2)
theorem words2:([D.str "set",D.str "any"] : List D)=[Str.ofString "set",Str.ofString "any"].map D.str:=rfl
local macro_rules | `(tactic| tm_at $s:str)=>namT ["tokens", "number", "word"] s
theorem ok_read_plain (F:Fun K "read_plain" "read_plain" s_read_plain f fd) (h_len:mg "len" = none) (C_must:Cal P w K mg base 1 "must" spMustR) (C_is_name:Cal P w K mg base 1 "is_name" spIsName) (C_read_rows:Cal P w K mg base 6 "read_rows" spRowsR) (C_read_sum:Cal P w K mg base 5 "read_sum" spSumR):FnOk P w K mg base CX0 7 f fd P_read_plain (liftSp K spPlainR):=by
 refine fn_D F sc_read_plain (fun ds M Q ⟨a,b,c,h,_⟩=>by subst h;rfl) fun cdv A outer s H EE ds M Q hr h=>?_
 have nd:=sc_read_plain.nd
 try (refine let_X ?_;intro X)
 obtain ⟨l,st,n,rfl,hl,hk,q⟩:=h
 cases st with
 | choose a b=>exact hk.elim
 | ite r a b=>exact hk.elim
 | whl r rs m b=>exact hk.elim
 | note rs =>
  obtain ⟨hne,hrs⟩:=hk
  have e0:stD (.note rs)=.tup [.str "note",.tup (rs.map rwD)]:=by simp only [stD]
  rw [e0] at q
  have i0:atI ((tkL (.note rs)).map D.str) 0=some (.str "note"):=L2.atI_nat (j:=0) rfl
  refine exs_cons ?_
  repeat first | tm_at "d" | refine ix_al hl i0 ?_ | refine exs_cons ?_ | refine ifDy rfl ?_
  refine ev_slice sl_list ?_
  repeat tm_at "d"
  refine ov_some ?_
  repeat tm_at "d"
  refine ov_none ?_
  refine rs_list rfl (Or.inl hl) fun p2 hp2=>?_
  have ec:D3.cutD ((tkL (.note rs)).map D.str) (some 1) none=(tkRs rs).map D.str:=cut_from _ 1 (by simp [tkL])
  rw [ec]
  repeat tm_at "d"
  refine ⟨p2,rs,n,rfl,mset_same,hne,hrs,fun M3 x3=>?_⟩
  repeat tm_at "d"
  exact q M3 (Ext.trans (ext_new hp2) x3)
 | any x =>
  have hx:Letter x:=hk
  have e0:stD (.any x)=.tup [.str "any",.str x]:=by simp only [stD]
  rw [e0] at q
  have i0:atI ((tkL (.any x)).map D.str) 0=some (.str "any"):=L2.atI_nat (j:=0) rfl
  have i1:atI ((tkL (.any x)).map D.str) 1=some (.str x):=L2.atI_nat (j:=1) rfl
  refine exs_cons ?_
  repeat first | tm_at "d" | refine ix_al hl i0 ?_ | refine exs_cons ?_ | refine ifDn (by decide +kernel) ?_ | (rw [words2];refine in_t ?_)
  refine ifDy (by decide +kernel) ?_
  repeat tm_at "d"
  refine ⟨_,_,rfl,Or.inl ⟨_,hl,rfl⟩,?_⟩
  repeat tm_at "d"
  refine ifDy (by simp [tkL]) ?_
  repeat first | tm_at "d" | refine ix_al hl i1 ?_
  refine ⟨x,rfl,hx,?_⟩
  repeat tm_at "d"
  refine ⟨n,rfl,?_⟩
  repeat first | tm_at "d" | refine exs_cons ?_ | refine ifDy rfl ?_
  refine ⟨_,_,rfl,Or.inl ⟨_,hl,rfl⟩,?_⟩
  repeat tm_at "d"
  refine ⟨n,by rw [decide_eq_true (by simp [tkL])],?_⟩
  repeat first | tm_at "d" | refine exs_cons ?_ | refine ix_al hl i1 ?_
  exact q M (Ext.refl _)
 | set x sm =>
  obtain ⟨hx,hs⟩:=hk
  have e0:stD (.set x sm)=.tup [.str "set",.str x,smD sm]:=by simp only [stD]
  rw [e0] at q
  have hS1:1<=(tkS sm).length:=List.length_pos_iff.mpr (tkS_ne sm)
  have i0:atI ((tkL (.set x sm)).map D.str) 0=some (.str "set"):=L2.atI_nat (j:=0) rfl
  have i1:atI ((tkL (.set x sm)).map D.str) 1=some (.str x):=L2.atI_nat (j:=1) rfl
  have i2:atI ((tkL (.set x sm)).map D.str) 2=some (.str "="):=L2.atI_nat (j:=2) rfl
  have hll:((tkL (.set x sm)).map D.str).length=(tkS sm).length+3:=by rw [List.length_map];rfl
  refine exs_cons ?_
  repeat first | tm_at "d" | refine ix_al hl i0 ?_ | refine exs_cons ?_ | refine ifDn (by decide +kernel) ?_ | (rw [words2];refine in_t ?_)
  refine ifDy (by decide +kernel) ?_
  repeat tm_at "d"
  refine ⟨_,_,rfl,Or.inl ⟨_,hl,rfl⟩,?_⟩
  repeat tm_at "d"
  refine ifDy (by rw [hll];omega) ?_
  repeat first | tm_at "d" | refine ix_al hl i1 ?_
  refine ⟨x,rfl,hx,?_⟩
  repeat tm_at "d"
  refine ⟨n,rfl,?_⟩
  repeat first | tm_at "d" | refine exs_cons ?_ | refine ifDn (by decide +kernel) ?_
  refine ⟨_,_,rfl,Or.inl ⟨_,hl,rfl⟩,?_⟩
  repeat tm_at "d"
  refine ifDy (by rw [hll];omega) ?_
  repeat first | tm_at "d" | refine ix_al hl i2 ?_
  refine ⟨n,by rw [decide_eq_true rfl],?_⟩
  repeat first | tm_at "d" | refine exs_cons ?_ | refine ix_al hl i1 ?_
  refine ev_slice sl_list ?_
  repeat tm_at "d"
  refine ov_some ?_
  repeat tm_at "d"
  refine ov_none ?_
  refine rs_list rfl (Or.inl hl) fun p2 hp2=>?_
  have ec:D3.cutD ((tkL (.set x sm)).map D.str) (some 3) none=(tkS sm).map D.str:=cut_from _ 3 (by rw [hll];omega)
  rw [ec]
  repeat tm_at "d"
  refine ⟨p2,sm,n,rfl,mset_same,hs,fun M3 x3=>?_⟩
  repeat tm_at "d"
  exact q M3 (Ext.trans (ext_new hp2) x3)
local macro_rules | `(tactic| tm_at $s:str)=>namT ["tokens", "number", "word", "row"] s
theorem ok_read_opening (F:Fun K "read_opening" "read_opening" s_read_opening f fd) (h_len:mg "len" = none) (C_must:Cal P w K mg base 1 "must" spMustR) (C_read_row:Cal P w K mg base 5 "read_row" spRowR):FnOk P w K mg base CX0 6 f fd P_read_opening (liftSp K spOpenR):=by
 refine fn_D F sc_read_opening (fun ds M Q ⟨a,b,c,h,_⟩=>by subst h;rfl) fun cdv A outer s H EE ds M Q hr h=>?_
 have nd:=sc_read_opening.nd
 try (refine let_X ?_;intro X)
 obtain ⟨l,o,n,rfl,hl,hk,q⟩:=h
 cases o with
 | choose =>
  have i0:atI ((tkO .choose).map D.str) 0=some (.str "choose"):=L2.atI_nat (j:=0) rfl
  refine exs_cons ?_
  repeat first | tm_at "d" | refine ix_al hl i0 ?_ | refine exs_cons ?_ | refine ifDy rfl ?_
  refine ⟨_,_,rfl,Or.inl ⟨_,hl,rfl⟩,?_⟩
  repeat tm_at "d"
  refine ⟨n,by simp [tkO],?_⟩
  repeat first | tm_at "d" | refine exs_cons ?_
  intro p hp
  exact q p _ hp mset_same (ext_new hp)
 | ite r =>
  have i0:atI ((tkO (.ite r)).map D.str) 0=some (.str "if"):=L2.atI_nat (j:=0) rfl
  refine exs_cons ?_
  repeat first | tm_at "d" | refine ix_al hl i0 ?_ | refine exs_cons ?_ | refine ifDn (by decide +kernel) ?_
  refine ev_slice sl_list ?_
  repeat tm_at "d"
  refine ov_some ?_
  repeat tm_at "d"
  refine ov_none ?_
  refine rs_list rfl (Or.inl hl) fun p2 hp2=>?_
  have ec:D3.cutD ((tkO (.ite r)).map D.str) (some 1) none=(tkR r).map D.str:=cut_from _ 1 (by simp [tkO])
  rw [ec]
  repeat tm_at "d"
  refine ⟨p2,r,n,rfl,mset_same,hk,fun M3 x3=>?_⟩
  repeat first | tm_at "d" | refine exs_cons ?_ | refine ifDy rfl ?_
  intro p hp
  exact q p _ (noneR (Ext.trans (ext_new hp2) x3) hp) mset_same (Ext.trans (Ext.trans (ext_new hp2) x3) (ext_new hp))
 | whl r =>
  have i0:atI ((tkO (.whl r)).map D.str) 0=some (.str "while"):=L2.atI_nat (j:=0) rfl
  refine exs_cons ?_
  repeat first | tm_at "d" | refine ix_al hl i0 ?_ | refine exs_cons ?_ | refine ifDn (by decide +kernel) ?_
  refine ev_slice sl_list ?_
  repeat tm_at "d"
  refine ov_some ?_
  repeat tm_at "d"
  refine ov_none ?_
  refine rs_list rfl (Or.inl hl) fun p2 hp2=>?_
  have ec:D3.cutD ((tkO (.whl r)).map D.str) (some 1) none=(tkR r).map D.str:=cut_from _ 1 (by simp [tkO])
  rw [ec]
  repeat tm_at "d"
  refine ⟨p2,r,n,rfl,mset_same,hk,fun M3 x3=>?_⟩
  repeat first | tm_at "d" | refine exs_cons ?_ | refine ifDn (by decide +kernel) ?_
  intro p hp
  exact q p _ (noneR (Ext.trans (ext_new hp2) x3) hp) mset_same (Ext.trans (Ext.trans (ext_new hp2) x3) (ext_new hp))
end
abbrev Frm:=List D × List (List D)
structure FrA where
 o:Addr
 pp:Addr
 pb:Addr
 bs:List Addr
def FrA.fp (a:FrA):List Addr:=a.o :: a.pp :: a.pb :: a.bs
def Lz (M:MH):List Addr->List (List D)->Prop
 | [],gs=>gs=[]
 | a :: as,gs=>∃ g r,gs=g :: r/\M a=some (.lst g)/\Lz M as r
theorem Lz.len {M:MH}:∀ {as:List Addr} {gs:List (List D)},Lz M as gs->as.length=gs.length
 | [],gs,h=>by rw [show gs=[] from h];rfl
 | a :: as,gs,h=>by
  obtain ⟨g,r,rfl,_,h2⟩:=h
  rw [List.length_cons,List.length_cons,h2.len]
theorem Lz.keep {M M':MH}:∀ {as:List Addr} {gs:List (List D)},Lz M as gs->(∀ a∈as,∀ o,M a=some o->M' a=some o)->Lz M' as gs
 | [],gs,h,_=>h
 | a :: as,gs,h,k=>by
  obtain ⟨g,r,rfl,h1,h2⟩:=h
  exact ⟨g,r,rfl,k a (List.mem_cons_self ..) _ h1,h2.keep fun b hb=>k b (List.mem_cons_of_mem _ hb)⟩
theorem Lz.snoc {M:MH} {a:Addr} {g:List D} (ha:M a=some (.lst g)):∀ {as:List Addr} {gs:List (List D)},Lz M as gs->Lz M (as++[a]) (gs++[g])
 | [],gs,h=>by rw [show gs=[] from h];exact ⟨g,[],rfl,ha,rfl⟩
 | b :: as,gs,h=>by
  obtain ⟨g',r,rfl,h1,h2⟩:=h
  exact ⟨g',_,rfl,h1,h2.snoc ha⟩
theorem Lz.split {M:MH} {a:Addr} {g:List D} {gs:List (List D)}:∀ {as:List Addr},Lz M (as++[a]) (gs++[g])->Lz M as gs/\M a=some (.lst g):=by
 intro as
 induction as generalizing gs with
 | nil =>
  rintro ⟨g',r,e,h1,h2⟩
  have hr:r=[]:=h2
  subst hr
  cases gs with
  | nil=>cases e;exact ⟨rfl,h1⟩
  | cons x l=>simp at e
 | cons b as ih =>
  rintro ⟨g',r,e,h1,h2⟩
  cases gs with
  | nil =>
   cases e
   have hl:(as++[a]).length=0:=h2.len
   rw [List.length_append] at hl
   simp at hl
  | cons x l =>
   rw [List.cons_append] at e
   injection e with e1 e2
   subst e1
   subst e2
   obtain ⟨k1,k2⟩:=ih h2
   exact ⟨⟨x,l,rfl,h1,k1⟩,k2⟩
theorem Lz.get {M:MH}:∀ {as:List Addr} {gs:List (List D)} {i:Nat} {a:Addr},Lz M as gs->as[i]?=some a->∃ g,gs[i]?=some g/\M a=some (.lst g)
 | [],_,_,_,_,e=>by simp at e
 | b :: as,gs,0,a,h,e=>by
  obtain ⟨g,r,rfl,h1,_⟩:=h
  simp at e;subst e
  exact ⟨g,rfl,h1⟩
 | b :: as,gs,i+1,a,h,e=>by
  obtain ⟨g,r,rfl,_,h2⟩:=h
  exact h2.get (by simpa using e)
def flds (a:FrA):List (Str × D):=[("parts",.ref a.pp),("blocks",.ref a.pb)]
structure FrOk (C:Addr) (M:MH) (a:FrA) (f:Frm):Prop where
 o:M a.o=some (.ins C (flds a))
 pp:M a.pp=some (.lst f.1)
 pb:M a.pb=some (.lst (a.bs.map D.ref))
 bs:Lz M a.bs f.2
theorem FrOk.keep {C:Addr} {M M':MH} {a:FrA} {f:Frm} (h:FrOk C M a f) (k:∀ b∈a.fp,∀ o,M b=some o->M' b=some o):FrOk C M' a f :=
 ⟨k _ (by simp [FrA.fp]) _ h.o,k _ (by simp [FrA.fp]) _ h.pp,k _ (by simp [FrA.fp]) _ h.pb,h.bs.keep fun b hb=>k b (by simp [FrA.fp,hb])⟩
structure OpK (K:PySem.W.Frag) (C:Addr):Prop where
 cls:Cls K C
 p:NoAttr K C "parts"
 b:NoAttr K C "blocks"
def spInitO (C:Addr):SpD:=fun ds M Q=>∃ (a pp:Addr),ds=[.ref a,.ref pp]/\M a=some (.ins C [])/\∀ (b pb:Addr) M',M b=none->M pb=none->b≠pb->M' a=some (.ins C (flds ⟨a,pp,pb,[b]⟩))->M' pb=some (.lst [.ref b])->M' b=some (.lst [])->(∀ c o,c≠a->M c=some o->M' c=some o)->Q .non M'
def spClosed (C:Addr):SpD:=fun ds M Q=>∃ (a:FrA) (f:Frm),ds=[.ref a.o]/\FrOk C M a f/\f.1.length<=10/\f.2.length<=10/\∀ M',Ext M M'->Q (.tup (f.1++f.2.map D.tup)) M'
section
variable {P:Program} {w:World} {K:PySem.W.Frag} {mg:Str->Option Value} {base:Heap} {f:Addr} {fd:FuncData} {C:Addr}
local macro_rules | `(tactic| tm_at $s:str)=>namT ["self", "parts"] s
theorem ok_Opened_init (F:Fun K "__init__" "Opened.__init__" s_Opened_init f fd) (k:OpK K C):FnOk P w K mg base CX0 1 f fd P_Opened_init (liftSp K (spInitO C)):=by
 refine fn_D F sc_Opened_init (fun ds M Q ⟨a,b,h,_⟩=>by subst h;rfl) fun cdv A outer s H EE ds M Q hr h=>?_
 have nd:=sc_Opened_init.nd
 try (refine let_X ?_;intro X)
 obtain ⟨a,pp,rfl,ha,q⟩:=h
 refine exs_cons ?_
 with_reducible refine' ex_fld ?_ ?n0
 case n0=>rfl
 repeat tm_at "d"
 refine ⟨a,C,[],rfl,ha,k.cls,k.p,by decide,?_⟩
 refine exs_one ?_
 with_reducible refine' ex_fld ?_ ?n0
 case n0=>rfl
 repeat tm_at "d"
 intro b hb
 repeat tm_at "d"
 intro pb hpb
 have x1:=ext_new (o:=.lst []) hb
 have x2:=ext_new (o:=.lst [.ref b]) hpb
 have na:∀ c,mset M a (.ins C (putD9 "parts" (.ref pp) [])) c=none->M c=none/\c≠a:=fun c hc=>by
  by_cases z:c=a
  ·subst z;rw [mset_same] at hc;cases hc
  ·rw [mset_ne z] at hc;exact ⟨hc,z⟩
 have hbM:=na b hb
 have hpbM:=na pb (noneR x1 hpb)
 have hbp:b≠pb:=ne_fresh (mset_same (M:=mset M a (.ins C (putD9 "parts" (.ref pp) []))) (a:=b) (o:=.lst [])) hpb
 repeat tm_at "d"
 refine ⟨a,C,putD9 "parts" (.ref pp) [],rfl,x2 _ _ (x1 _ _ mset_same),k.cls,k.b,Nat.le_of_ble_eq_true rfl,?_⟩
 refine q b pb _ hbM.1 hpbM.1 hbp ?_ ?_ ?_ ?_
 ·rw [mset_same];rfl
 ·rw [mset_ne hpbM.2,mset_same]
 ·rw [mset_ne hbM.2,mset_ne hbp,mset_same]
 ·intro c o hc e
  rw [mset_ne hc]
  exact x2 _ _ (x1 _ _ (by rw [mset_ne hc];exact e))
local macro_rules | `(tactic| tm_at $s:str)=>namT ["self"] s
def tupIn (M:MH):D->D
 | .ref a=>match M a with
  | some (.lst ds)=>.tup ds
  | _=>.non
 | d=>d
theorem ok_Opened_closed (F:Fun K "closed" "Opened.closed" s_Opened_closed f fd) (h_tuple:mg "tuple" = none) (k:OpK K C):FnOk P w K mg base CX0 1 f fd P_Opened_closed (liftSp K (spClosed C)):=by
 refine fn_D F sc_Opened_closed (fun ds M Q ⟨a,b,h,_⟩=>by subst h;rfl) fun cdv A outer s H EE ds M Q hr h=>?_
 have nd:=sc_Opened_closed.nd
 try (refine let_X ?_;intro X)
 obtain ⟨a,fr,rfl,hf,h1,h2,q⟩:=h
 have hbl:=hf.bs.len
 refine exs_one ?_
 repeat tm_at "d"
 with_reducible refine' ev_fld ?_ ?n0
 case n0=>rfl
 repeat tm_at "d"
 refine ⟨a.o,C,flds a,_,rfl,hf.o,k.cls,k.p,rfl,?_⟩
 with_reducible refine' ev_comp_list (own:=["block"]) (js:=[]) (N:=["block"]) (cl:=[]) ?T ?xe ?ca (tupIn M) (fun _=>true) ?_ ?hs
 case T=>exact compOk_plain (by decide +kernel) (by decide +kernel) rfl (by decide +kernel) rfl
 case xe=>rfl
 case ca=>rfl
 case hs=>(intro _;rfl)
 with_reducible refine' ev_fld ?_ ?n0
 case n0=>rfl
 repeat tm_at "d"
 refine ⟨a.o,C,flds a,_,rfl,hf.o,k.cls,k.b,rfl,?_⟩
 refine ⟨a.pb,_,rfl,.inl hf.pb,small (by rw [List.length_map];omega),?_,fun q1 hq1=>?_⟩
 ·rintro Y ⟨C',s',H',fp,rfl⟩ M' hM d hd
  obtain ⟨b,hb,rfl⟩:=List.mem_map.mp hd
  obtain ⟨i,hi⟩:=List.mem_iff_getElem?.mp hb
  obtain ⟨g,hg,hm⟩:=hf.bs.get hi
  have nd2:(["block"] : List Str).Nodup:=by decide +kernel
  refine gv_name 0 nd2 ?_
  refine ⟨rfl,fun i d e=>by rcases i with _ | i<;>simp [compG] at e,tvs_nil ⟨rfl,rfl⟩,fun _=>?_⟩
  repeat first | (refine ev_var 0 ?_) | tm_at "d"
  refine ⟨_,rfl,_,hM _ _ hm,?_⟩
  exact ⟨rfl,by simp only [tupIn,hm]⟩
 have e:((a.bs.map D.ref).filter fun _=>true).map (tupIn M)=fr.2.map D.tup:=by
  rw [List.filter_eq_self.mpr (by simp),List.map_map]
  have:∀ (as:List Addr) (gs:List (List D)),Lz M as gs->as.map (tupIn M ∘ D.ref)=gs.map D.tup:=fun as=>by
   induction as with
   | nil=>intro gs h;rw [show gs=[] from h];rfl
   | cons x l ih =>
    rintro gs ⟨g,r,rfl,h1,h2⟩
    rw [List.map_cons,List.map_cons,ih r h2]
    simp only [Function.comp,tupIn,h1]
  exact this _ _ hf.bs
 rw [e]
 have x1:=ext_new (o:=.lst (fr.2.map D.tup)) hq1
 refine add_ll (x1 _ _ hf.pp) mset_same (small (by rw [List.length_map];omega)) fun q2 hq2=>?_
 have x2:=ext_new (o:=.lst (fr.1++fr.2.map D.tup)) hq2
 repeat tm_at "d"
 refine ⟨_,rfl,_,mset_same,?_⟩
 exact q _ (Ext.trans x1 x2)
end
inductive Hdg where
 | given (rs:List Rw)
 | keep (rs:List Rw)
 | fall (m:Sm × Int)
def tkH:Hdg->List Str
 | .given rs=>Str.ofString "given" :: tkRs rs
 | .keep rs=>Str.ofString "keep" :: tkRs rs
 | .fall m=>Str.ofString "fall" :: (tkS m.1++[Str.ofString "by",nT m.2])
def ixH:Hdg->Nat
 | .given _=>1
 | .keep _=>2
 | .fall _=>3
def vlH:Hdg->D
 | .given rs=>.tup (rs.map rwD)
 | .keep rs=>.tup (rs.map rwD)
 | .fall m=>.tup [smD m.1,.int m.2]
def wdH:Hdg->Str
 | .given _=>Str.ofString "given"
 | .keep _=>Str.ofString "keep"
 | .fall _=>Str.ofString "fall"
def RdH:Hdg->Str->Prop
 | .given rs,last=>last=Str.ofString "plan" /\ rs≠[]/\RdRs rs
 | .keep rs,last=>last=Str.ofString "while" /\ rs≠[]/\RdRs rs
 | .fall m,last=>last∈[Str.ofString "while",Str.ofString "keep"]/\RdS m.1/\0 < m.2/\B 65 m.2
def spHeading (C:Addr):SpD:=fun ds M Q=>∃ (a:FrA) (f:Frm) (h:Hdg) (last:Str) (l:Addr) (n:Int),ds=[.ref a.o,.str last,.ref l,.int n]/\M l=some (strsL (tkH h))/\RdH h last/\FrOk C M a f/\ixH h < f.1.length/\f.1.length<=10/\∀ M',M' a.pp=some (.lst (f.1.set (ixH h) (vlH h)))->Kp [a.pp] M M'->Q .non M'
theorem ixN_nat {n j:Nat} (h:j < n):ixN n (j:Int)=some j:=by
 unfold ixN
 rw [if_pos (by omega),if_pos (by omega)]
 congr 1
section
variable {P:Program} {w:World} {K:PySem.W.Frag} {mg:Str->Option Value} {base:Heap} {f:Addr} {fd:FuncData} {C:Addr}
theorem lasts2:([D.str "while",D.str "keep"] : List D)=[Str.ofString "while",Str.ofString "keep"].map D.str:=rfl
local macro_rules | `(tactic| tm_at $s:str)=>namT ["inner", "last", "tokens", "number", "word"] s
local macro_rules | `(tactic| tm_at "d")=>`(tactic| ((with_reducible show EV _ _ _ (Expr.Attribute _ _ _) _);(with_reducible refine' ev_fld ?_ ?n0);(case n0=>rfl)))
theorem ok_read_heading (F:Fun K "read_heading" "read_heading" s_read_heading f fd) (k:OpK K C) (C_must:Cal P w K mg base 1 "must" spMustR) (C_read_rows:Cal P w K mg base 6 "read_rows" spRowsR) (C_read_measure:Cal P w K mg base 6 "read_measure" spMeasR):FnOk P w K mg base CX0 7 f fd P_read_heading (liftSp K (spHeading C)):=by
 refine fn_D F sc_read_heading (fun ds M Q ⟨a,b,c,d,e,g,h,_⟩=>by subst h;rfl) fun cdv A outer s H EE ds M Q hr h=>?_
 have nd:=sc_read_heading.nd
 try (refine let_X ?_;intro X)
 obtain ⟨a,fr,hd,last,l,n,rfl,hl,hk,hf,hix,h10,q⟩:=h
 have fin:∀ (M2:MH) (v:D),v=vlH hd->Ext M M2->Q .non (mset M2 a.pp (.lst (fr.1.set (ixH hd) v))):=fun M2 v e x=>by
  subst e
  exact q _ mset_same fun b o hb e=>by rw [mset_ne (by simpa using hb)];exact x _ _ e
 cases hd with
 | given rs =>
  obtain ⟨rfl,hne,hrs⟩:=hk
  have i0:atI ((tkH (.given rs)).map D.str) 0=some (.str "given"):=L2.atI_nat (j:=0) rfl
  refine exs_cons ?_
  repeat first | tm_at "d" | refine ix_al hl i0 ?_ | refine exs_cons ?_ | refine ifDy rfl ?_
  refine ⟨n,by rw [decide_eq_true rfl],?_⟩
  repeat first | tm_at "d" | refine exs_cons ?_
  refine ev_slice sl_list ?_
  repeat tm_at "d"
  refine ov_some ?_
  repeat tm_at "d"
  refine ov_none ?_
  refine rs_list rfl (Or.inl hl) fun p2 hp2=>?_
  have ec:D3.cutD ((tkH (.given rs)).map D.str) (some 1) none=(tkRs rs).map D.str:=cut_from _ 1 (by simp [tkH])
  rw [ec]
  repeat tm_at "d"
  refine ⟨p2,rs,n,rfl,mset_same,hne,hrs,fun M3 x3=>?_⟩
  have xM:=Ext.trans (ext_new hp2) x3
  repeat tm_at "d"
  refine ⟨a.o,C,flds a,_,rfl,xM _ _ hf.o,k.cls,k.p,rfl,?_⟩
  repeat tm_at "d"
  refine set_ll (xM _ _ hf.pp) (ixN_nat hix) ?_
  first | exact fin M3 _ rfl xM | exact exs_nil (fin M3 _ rfl xM)
 | keep rs =>
  obtain ⟨rfl,hne,hrs⟩:=hk
  have i0:atI ((tkH (.keep rs)).map D.str) 0=some (.str "keep"):=L2.atI_nat (j:=0) rfl
  refine exs_cons ?_
  repeat first | tm_at "d" | refine ix_al hl i0 ?_ | refine exs_cons ?_ | refine ifDy rfl ?_ | refine ifDn (by decide +kernel) ?_
  refine ⟨n,by rw [decide_eq_true rfl],?_⟩
  repeat first | tm_at "d" | refine exs_cons ?_
  refine ev_slice sl_list ?_
  repeat tm_at "d"
  refine ov_some ?_
  repeat tm_at "d"
  refine ov_none ?_
  refine rs_list rfl (Or.inl hl) fun p2 hp2=>?_
  have ec:D3.cutD ((tkH (.keep rs)).map D.str) (some 1) none=(tkRs rs).map D.str:=cut_from _ 1 (by simp [tkH])
  rw [ec]
  repeat tm_at "d"
  refine ⟨p2,rs,n,rfl,mset_same,hne,hrs,fun M3 x3=>?_⟩
  have xM:=Ext.trans (ext_new hp2) x3
  repeat tm_at "d"
  refine ⟨a.o,C,flds a,_,rfl,xM _ _ hf.o,k.cls,k.p,rfl,?_⟩
  repeat tm_at "d"
  refine set_ll (xM _ _ hf.pp) (ixN_nat hix) ?_
  first | exact fin M3 _ rfl xM | exact exs_nil (fin M3 _ rfl xM)
 | fall m =>
  obtain ⟨hlast,hs,hp,hb⟩:=hk
  have i0:atI ((tkH (.fall m)).map D.str) 0=some (.str "fall"):=L2.atI_nat (j:=0) rfl
  refine exs_cons ?_
  repeat first | tm_at "d" | refine ix_al hl i0 ?_ | refine exs_cons ?_ | refine ifDn (by decide +kernel) ?_ | (rw [lasts2];refine in_t ?_)
  refine ⟨n,by rw [decide_eq_true hlast],?_⟩
  repeat first | tm_at "d" | refine exs_cons ?_
  refine ev_slice sl_list ?_
  repeat tm_at "d"
  refine ov_some ?_
  repeat tm_at "d"
  refine ov_none ?_
  refine rs_list rfl (Or.inl hl) fun p2 hp2=>?_
  have ec:D3.cutD ((tkH (.fall m)).map D.str) (some 1) none=(tkS m.1++[Str.ofString "by",nT m.2]).map D.str:=cut_from _ 1 (by simp [tkH])
  rw [ec]
  repeat tm_at "d"
  refine ⟨p2,m,n,rfl,mset_same,hs,hp,hb,fun M3 x3=>?_⟩
  have xM:=Ext.trans (ext_new hp2) x3
  repeat tm_at "d"
  refine ⟨a.o,C,flds a,_,rfl,xM _ _ hf.o,k.cls,k.p,rfl,?_⟩
  repeat tm_at "d"
  refine set_ll (xM _ _ hf.pp) (ixN_nat hix) ?_
  first | exact fin M3 _ rfl xM | exact exs_nil (fin M3 _ rfl xM)
end
def Stk (C:Addr) (M:MH):List FrA->List Frm->Prop
 | [],fs=>fs=[]
 | a :: as,fs=>∃ f r,fs=f :: r/\FrOk C M a f/\Stk C M as r
def fpS (as:List FrA):List Addr:=as.flatMap FrA.fp
theorem Stk.len {C:Addr} {M:MH}:∀ {as:List FrA} {fs:List Frm},Stk C M as fs->as.length=fs.length
 | [],fs,h=>by rw [show fs=[] from h];rfl
 | a :: as,fs,h=>by
  obtain ⟨g,r,rfl,_,h2⟩:=h
  rw [List.length_cons,List.length_cons,h2.len]
theorem Stk.keep {C:Addr} {M M':MH}:∀ {as:List FrA} {fs:List Frm},Stk C M as fs->(∀ b∈fpS as,∀ o,M b=some o->M' b=some o)->Stk C M' as fs
 | [],fs,h,_=>h
 | a :: as,fs,h,k=>by
  obtain ⟨g,r,rfl,h1,h2⟩:=h
  exact ⟨g,r,rfl,h1.keep fun b hb=>k b (by simp [fpS,hb]),h2.keep fun b hb=>k b (by simp only [fpS,List.flatMap_cons,List.mem_append];exact .inr hb)⟩
theorem Stk.snoc {C:Addr} {M:MH} {a:FrA} {f:Frm} (ha:FrOk C M a f):∀ {as:List FrA} {fs:List Frm},Stk C M as fs->Stk C M (as++[a]) (fs++[f])
 | [],fs,h=>by rw [show fs=[] from h];exact ⟨f,[],rfl,ha,rfl⟩
 | b :: as,fs,h=>by
  obtain ⟨g',r,rfl,h1,h2⟩:=h
  exact ⟨g',_,rfl,h1,h2.snoc ha⟩
theorem Stk.split {C:Addr} {M:MH} {a:FrA} {g:Frm} {gs:List Frm}:∀ {as:List FrA},Stk C M (as++[a]) (gs++[g])->Stk C M as gs/\FrOk C M a g:=by
 intro as
 induction as generalizing gs with
 | nil =>
  rintro ⟨g',r,e,h1,h2⟩
  have hr:r=[]:=h2
  subst hr
  cases gs with
  | nil=>cases e;exact ⟨rfl,h1⟩
  | cons x l=>simp at e
 | cons b as ih =>
  rintro ⟨g',r,e,h1,h2⟩
  cases gs with
  | nil =>
   cases e
   have hl:(as++[a]).length=0:=h2.len
   rw [List.length_append] at hl
   simp at hl
  | cons x l =>
   rw [List.cons_append] at e
   injection e with e1 e2
   subst e1
   subst e2
   obtain ⟨k1,k2⟩:=ih h2
   exact ⟨⟨x,l,rfl,h1,k1⟩,k2⟩
theorem fpS_snoc (as:List FrA) (a:FrA):fpS (as++[a])=fpS as++a.fp:=by unfold fpS;rw [List.flatMap_append];simp
structure Rep (C:Addr) (M:MH) (p:Addr) (as:List FrA) (fs:List Frm):Prop where
 at_:M p=some (.lst (as.map fun a=>D.ref a.o))
 st:Stk C M as fs
 nd:(p :: fpS as).Nodup
theorem Rep.top {C:Addr} {M:MH} {p:Addr} {as:List FrA} {f:Frm} {fs:List Frm} (h:Rep C M p as (fs++[f])):∃ bs a,as=bs++[a]/\Stk C M bs fs/\FrOk C M a f:=by
 have hl:=h.st.len
 have hne:as≠[]:=by intro z;rw [z] at hl;simp at hl
 obtain ⟨bs,a,rfl⟩:∃ bs a,as=bs++[a]:=⟨as.dropLast,as.getLast hne,(List.dropLast_concat_getLast hne).symm⟩
 obtain ⟨h1,h2⟩:=h.st.split
 exact ⟨bs,a,rfl,h1,h2⟩
theorem Rep.last {C:Addr} {M:MH} {p:Addr} {bs:List FrA} {a:FrA} {fs:List Frm} (h:Rep C M p (bs++[a]) fs):atI ((bs++[a]).map fun a=>D.ref a.o) (-1)=some (.ref a.o):=by
 rw [List.map_append];exact L2.atI_last _ _
theorem Rep.put {C:Addr} {M M':MH} {p:Addr} {bs:List FrA} {a a':FrA} {f f':Frm} {fs:List Frm} (h:Rep C M p (bs++[a]) (fs++[f])) (ho:a'.o=a.o) (hf:FrOk C M' a' f') (hk:∀ b o,b∉a.fp->M b=some o->M' b=some o) (hn:∀ b∈a'.fp,b∈a.fp\/M b=none) (hnd:a'.fp.Nodup):Rep C M' p (bs++[a']) (fs++[f']):=by
 obtain ⟨h1,h2⟩:=h.st.split
 have nd:=h.nd
 rw [fpS_snoc,List.nodup_cons,List.nodup_append] at nd
 obtain ⟨np,n1,n2,n3⟩:=nd
 have hp:p∉a.fp:=fun z=>np (List.mem_append_right _ z)
 have hbs:∀ b∈fpS bs,∃ o,M b=some o:=by
  clear n1 n3 np hk
  have key:∀ {as:List FrA} {fs:List Frm},Stk C M as fs->∀ b∈fpS as,∃ o,M b=some o:=by
   intro as
   induction as with
   | nil=>intro fs _ b hb;simp [fpS] at hb
   | cons x l ih =>
    rintro fs ⟨g,r,rfl,k1,k2⟩ b hb
    simp only [fpS,List.flatMap_cons,List.mem_append] at hb
    rcases hb with hb | hb
    ·simp only [FrA.fp,List.mem_cons] at hb
     rcases hb with rfl | rfl | rfl | hb
     ·exact ⟨_,k1.o⟩
     ·exact ⟨_,k1.pp⟩
     ·exact ⟨_,k1.pb⟩
     ·obtain ⟨i,hi⟩:=List.mem_iff_getElem?.mp hb
      obtain ⟨g',_,e⟩:=k1.bs.get hi
      exact ⟨_,e⟩
    ·exact ih k2 b hb
  exact key h1
 refine ⟨?_,Stk.snoc hf (h1.keep fun b hb o e=>hk b o (fun z=>n3 b hb b z rfl) e),?_⟩
 ·have:=hk p _ hp h.at_
  rw [this]
  simp [ho]
 ·rw [fpS_snoc,List.nodup_cons,List.nodup_append]
  refine ⟨fun z=>?_,n1,hnd,fun b hb c hc e=>?_⟩
  ·rcases List.mem_append.mp z with z | z
   ·exact np (List.mem_append_left _ z)
   ·rcases hn p z with z | z
    ·exact hp z
    ·rw [h.at_] at z;cases z
  ·subst e
   rcases hn b hc with z | z
   ·exact n3 b hb b z rfl
   ·obtain ⟨o,e⟩:=hbs b hb
    rw [e] at z;cases z
theorem FrOk.has {C:Addr} {M:MH} {a:FrA} {f:Frm} (h:FrOk C M a f):∀ b∈a.fp,∃ o,M b=some o:=fun b hb=>by
 simp only [FrA.fp,List.mem_cons] at hb
 rcases hb with rfl | rfl | rfl | hb
 ·exact ⟨_,h.o⟩
 ·exact ⟨_,h.pp⟩
 ·exact ⟨_,h.pb⟩
 ·obtain ⟨i,hi⟩:=List.mem_iff_getElem?.mp hb
  obtain ⟨g',_,e⟩:=h.bs.get hi
  exact ⟨_,e⟩
theorem Rep.nd1 {C:Addr} {M:MH} {p:Addr} {bs:List FrA} {a:FrA} {fs:List Frm} (h:Rep C M p (bs++[a]) fs):a.fp.Nodup/\p∉a.fp:=by
 have nd:=h.nd
 rw [fpS_snoc,List.nodup_cons,List.nodup_append] at nd
 exact ⟨nd.2.2.1,fun z=>nd.1 (List.mem_append_right _ z)⟩
theorem FrOk.lastB {C:Addr} {M:MH} {a:FrA} {p1:List D} {bl:List (List D)} {lb:List D} (h:FrOk C M a (p1,bl++[lb])):∃ ds b,a.bs=ds++[b]/\Lz M ds bl/\M b=some (.lst lb):=by
 have hl:=h.bs.len
 have hne:a.bs≠[]:=by intro z;rw [z] at hl;simp at hl
 have e:a.bs=a.bs.dropLast++[a.bs.getLast hne]:=(List.dropLast_concat_getLast hne).symm
 have hb:=h.bs
 rw [e] at hb
 exact ⟨_,_,e,hb.split⟩
theorem FrOk.putB {C:Addr} {M M':MH} {a:FrA} {p1:List D} {bl:List (List D)} {lb lb':List D} {ds:List Addr} {b:Addr} (h:FrOk C M a (p1,bl++[lb])) (e:a.bs=ds++[b]) (nd:a.fp.Nodup) (k:∀ c o,c≠b->M c=some o->M' c=some o) (hb:M' b=some (.lst lb')):FrOk C M' a (p1,bl++[lb']):=by
 have nb:∀ c,c∈a.o :: a.pp :: a.pb :: ds->c≠b:=by
  rw [FrA.fp,e,show a.o :: a.pp :: a.pb :: (ds++[b])=(a.o :: a.pp :: a.pb :: ds)++[b] from rfl,List.nodup_append] at nd
  exact fun c hc z=>nd.2.2 c hc b (by simp) z
 have hz:=h.bs
 rw [e] at hz
 refine ⟨k _ _ (nb _ (by simp)) h.o,k _ _ (nb _ (by simp)) h.pp,k _ _ (nb _ (by simp)) h.pb,?_⟩
 rw [e]
 exact Lz.snoc hb (hz.split.1.keep fun c hc o eo=>k _ _ (nb _ (by simp [hc])) eo)
theorem Stk.has {C:Addr} {M:MH}:∀ {as:List FrA} {fs:List Frm},Stk C M as fs->∀ b∈fpS as,∃ o,M b=some o:=by
 intro as
 induction as with
 | nil=>intro fs _ b hb;simp [fpS] at hb
 | cons x l ih =>
  rintro fs ⟨g,r,rfl,k1,k2⟩ b hb
  simp only [fpS,List.flatMap_cons,List.mem_append] at hb
  rcases hb with hb | hb
  ·exact k1.has b hb
  ·exact ih k2 b hb
theorem Rep.pop {C:Addr} {M:MH} {p:Addr} {bs:List FrA} {a:FrA} {fs:List Frm} {f:Frm} (h:Rep C M p (bs++[a]) (fs++[f])):Rep C (mset M p (.lst (bs.map fun a=>D.ref a.o))) p bs fs:=by
 have nd:=h.nd
 rw [fpS_snoc,List.nodup_cons,List.nodup_append] at nd
 refine ⟨mset_same,h.st.split.1.keep fun b hb o e=>?_,?_⟩
 ·rw [mset_ne (fun z=>nd.1 (by subst z;exact List.mem_append_left _ hb))];exact e
 ·exact List.nodup_cons.mpr ⟨fun z=>nd.1 (List.mem_append_left _ z),nd.2.1⟩
structure Stp (C:Addr) (M M':MH) (p:Addr) (as:List FrA) (fs':List Frm):Prop where
 rep:∃ as',Rep C M' p as' fs'/\∀ b∈fpS as',b∈fpS as\/M b=none
 kp:∀ c o,c∉p :: fpS as->M c=some o->M' c=some o
def spTurn (C : Addr) : SpD := fun ds M Q => ∃ (p : Addr) (wd : Str) (n : Int) (as : List FrA) (fs : List Frm) (f : Frm) (kind : Str) (pr : List D), ds = [.ref p, .str wd, .int n] ∧ Rep C M p as (fs ++ [f]) ∧ f.1 = .str kind :: pr ∧ f.1.length ≤ 10 ∧ f.2.length ≤ 5 ∧ as.length ≤ 20 ∧
  ((wd = Str.ofString "end" ∧ (kind = Str.ofString "while" ∨ (kind ∈ [Str.ofString "choose", Str.ofString "if"] ∧ f.2.length = 2)) ∧ ∃ fs1 p1 bl lb, fs = fs1 ++ [(p1, bl ++ [lb])] ∧ lb.length ≤ 100 ∧ ∀ M', Stp C M M' p as (fs1 ++ [(p1, bl ++ [lb ++ [.tup (f.1 ++ f.2.map D.tup)]])]) → Q .non M') ∨
   (((wd = Str.ofString "or" ∧ kind = Str.ofString "choose") ∨ (wd = Str.ofString "else" ∧ kind = Str.ofString "if")) ∧ f.2.length = 1 ∧ ∀ M', Stp C M M' p as (fs ++ [(f.1, f.2 ++ [[]])]) → Q .non M'))
section
variable {P:Program} {w:World} {K:PySem.W.Frag} {mg:Str->Option Value} {base:Heap} {f:Addr} {fd:FuncData} {C:Addr}
theorem kinds2:([D.str "choose",D.str "if"] : List D)=[Str.ofString "choose",Str.ofString "if"].map D.str:=rfl
local macro_rules | `(tactic| tm_at $s:str)=>namT ["opened", "word", "number", "inner", "kind", "count"] s
local macro_rules | `(tactic| tm_at "d")=>`(tactic| first
 | ((with_reducible show EV _ _ _ (Expr.Attribute _ _ _) _);(with_reducible refine' ev_fld ?_ ?n0);(case n0=>rfl))
 | ((with_reducible show EV _ _ _ (Expr.Call (Expr.Attribute _ "closed" _) [] [] _) _);(with_reducible refine' ev_meth0 ?n0 ?n1 ?n2 ?_ ?n3);(case n0=>exact C_closed);(case n1=>exact hr);(case n2=>first | decide | omega);(case n3=>rfl)))
theorem ok_read_turning (F:Fun K "read_turning" "read_turning" s_read_turning f fd) (k:OpK K C) (h_len:mg "len" = none) (C_must:Cal P w K mg base 1 "must" spMustR) (C_closed:CalM P w K mg base 1 C "closed" (spClosed C)):FnOk P w K mg base CX0 2 f fd P_read_turning (liftSp K (spTurn C)):=by
 refine fn_D F sc_read_turning (fun ds M Q ⟨a,b,c,d,e,g,i,j,h,_⟩=>by subst h;rfl) fun cdv A outer s H EE ds M Q hr h=>?_
 have nd:=sc_read_turning.nd
 try (refine let_X ?_;intro X)
 obtain ⟨p,wd,n,as,fs,fr,kind,pr,rfl,hR,hkd,h10,h5,h20,hcase⟩:=h
 obtain ⟨bs,a,rfl,hS,hf⟩:=hR.top
 have hbl:=hf.bs.len
 obtain ⟨nda,npa⟩:=hR.nd1
 have i0:atI fr.1 0=some (.str kind):=by rw [hkd];exact L2.atI_nat (j:=0) rfl
 refine exs_cons ?_
 repeat first | tm_at "d" | refine ix_al hR.at_ hR.last ?_
 refine ⟨a.o,C,flds a,_,rfl,hf.o,k.cls,k.p,rfl,?_⟩
 repeat first | tm_at "d" | refine ix_al hf.pp i0 ?_ | refine exs_cons ?_
 refine ⟨a.o,C,flds a,_,rfl,hf.o,k.cls,k.b,rfl,?_⟩
 repeat tm_at "d"
 refine ⟨_,_,rfl,Or.inl ⟨_,hf.pb,rfl⟩,?_⟩
 rw [List.length_map,hbl]
 repeat first | tm_at "d" | refine exs_cons ?_
 rcases hcase with ⟨rfl,hkind,fs1,p1,bl,lb,rfl,hlb,q⟩ | ⟨hwk,hone,q⟩
 ·refine ifDy rfl ?_
  have hR1:=hR.pop
  obtain ⟨cs,c,rfl,hS1,hc⟩:=hR1.top
  obtain ⟨ndc,npc⟩:=hR1.nd1
  obtain ⟨ds,b,eb,hz,hb⟩:=hc.lastB
  have nbp:b≠p:=fun z=>npc (by subst z;simp [FrA.fp,eb])
  have hf1:FrOk C (mset M p (.lst ((cs++[c]).map fun a=>D.ref a.o))) a fr:=hf.keep fun x hx o e=>by rw [mset_ne (fun z=>npa (by subst z;exact hx))];exact e
  have fin:∀ M2,Ext (mset M p (.lst ((cs++[c]).map fun a=>D.ref a.o))) M2->Q .non (mset M2 b (.lst (lb++[.tup (fr.1++fr.2.map D.tup)]))):=fun M2 x=>by
   refine q _ ⟨⟨cs++[c],hR1.put rfl (hc.putB eb ndc (fun d o hd e=>?_) mset_same) (fun d o hd e=>?_) (fun d hd=>.inl hd) ndc,fun d hd=>.inl (by rw [fpS_snoc];exact List.mem_append_left _ hd)⟩,fun d o hd e=>?_⟩
   ·rw [mset_ne hd];exact x _ _ e
   ·rw [mset_ne (fun z=>hd (by subst z;simp [FrA.fp,eb]))];exact x _ _ e
   ·have d1:d≠p:=fun z=>hd (by subst z;simp)
    have d2:d≠b:=fun z=>hd (by subst z;rw [fpS_snoc,fpS_snoc];simp [FrA.fp,eb])
    rw [mset_ne d2]
    exact x _ _ (by rw [mset_ne d1];exact e)
  have ib:atI (c.bs.map D.ref) (-1)=some (.ref b):=by rw [eb,List.map_append];exact L2.atI_last _ _
  have ep:M p=some (.lst (((cs++[c]).map fun a=>D.ref a.o)++[.ref a.o])):=by rw [hR.at_];simp
  refine exs_cons ?_
  by_cases hw:kind=Str.ofString "while"
  ·repeat first | tm_at "d" | refine ifDy hw ?_
   refine ⟨n,by first | rfl | rw [decide_eq_true hw],?_⟩
   repeat first | tm_at "d" | refine exs_cons ?_
   refine ⟨p,_,_,rfl,ep,?_⟩
   repeat first | tm_at "d" | refine ix_al hR1.at_ hR1.last ?_
   refine ⟨c.o,C,flds c,_,rfl,hc.o,k.cls,k.b,rfl,?_⟩
   repeat first | tm_at "d" | refine ix_al hc.pb ib ?_
   refine ⟨b,rfl,⟨_,hb⟩,?_⟩
   repeat tm_at "d"
   exact ⟨a.o,flds a,rfl,hf1.o,rfl,a,fr,rfl,hf1,h10,by omega,fun M2 x=>⟨_,x _ _ hb,Nat.lt_of_lt_of_le (Nat.lt_succ_of_le hlb) (small (by decide)),fin M2 x⟩⟩
  ·obtain ⟨hk1,hk2⟩:=hkind.resolve_left hw
   repeat first | tm_at "d" | refine ifDn hw ?_ | (rw [kinds2];refine in_t ?_) | refine ifDy hk1 ?_
   refine ⟨n,by first | rfl | (rw [hk2];rfl) | rw [decide_eq_true (by rw [hk2];rfl)],?_⟩
   repeat first | tm_at "d" | refine exs_cons ?_
   refine ⟨p,_,_,rfl,ep,?_⟩
   repeat first | tm_at "d" | refine ix_al hR1.at_ hR1.last ?_
   refine ⟨c.o,C,flds c,_,rfl,hc.o,k.cls,k.b,rfl,?_⟩
   repeat first | tm_at "d" | refine ix_al hc.pb ib ?_
   refine ⟨b,rfl,⟨_,hb⟩,?_⟩
   repeat tm_at "d"
   exact ⟨a.o,flds a,rfl,hf1.o,rfl,a,fr,rfl,hf1,h10,by omega,fun M2 x=>⟨_,x _ _ hb,Nat.lt_of_lt_of_le (Nat.lt_succ_of_le hlb) (small (by decide)),fin M2 x⟩⟩
 ·have hwe:¬ wd=Str.ofString "end" := by rcases hwk with ⟨rfl,_⟩ | ⟨rfl,_⟩<;>decide +kernel
  refine ifDn hwe ?_
  have fin:∀ x,M x=none->Q .non (mset (mset M x (.lst [])) a.pb (.lst (a.bs.map D.ref++[.ref x]))):=fun x hx=>by
   have xn:x∉a.fp:=fun z=>by obtain ⟨o,e⟩:=hf.has x z;rw [e] at hx;cases hx
   have x1:=ext_new (o:=.lst []) hx
   have npb:∀ c∈a.o :: a.pp :: a.bs,c≠a.pb:=fun c hc z=>by
    subst z
    have nd:=nda
    simp only [FrA.fp,List.nodup_cons,List.mem_cons,not_or] at nd hc
    rcases hc with e | e | e
    ·exact nd.1.2.1 e.symm
    ·exact nd.2.1.1 e.symm
    ·exact nd.2.2.1 e
   have xpb:x≠a.pb:=fun z=>xn (by subst z;simp [FrA.fp])
   have kp:∀ c o,c≠a.pb->M c=some o->mset (mset M x (.lst [])) a.pb (.lst (a.bs.map D.ref++[.ref x])) c=some o:=fun c o hc e=>by rw [mset_ne hc];exact x1 _ _ e
   have fp':(FrA.mk a.o a.pp a.pb (a.bs++[x])).fp=a.fp++[x]:=rfl
   refine q _ ⟨⟨bs++[⟨a.o,a.pp,a.pb,a.bs++[x]⟩],hR.put rfl ⟨kp _ _ (npb _ (by simp)) hf.o,kp _ _ (npb _ (by simp)) hf.pp,?_,?_⟩ (fun d o hd e=>kp _ _ (fun z=>hd (by subst z;simp [FrA.fp])) e) (fun d hd=>?_) ?_,fun d hd=>?_⟩,fun d o hd e=>?_⟩
   ·rw [mset_same];simp
   ·exact Lz.snoc (by rw [mset_ne xpb,mset_same]) (hf.bs.keep fun c hc o e=>kp _ _ (npb _ (by simp [hc])) e)
   ·rw [fp'] at hd
    rcases List.mem_append.mp hd with z | z
    ·exact .inl z
    ·rw [List.mem_singleton.mp z];exact .inr hx
   ·rw [fp',List.nodup_append]
    exact ⟨nda,by simp,fun c hc d hd z=>by rw [List.mem_singleton.mp hd] at z;subst z;exact xn hc⟩
   ·rw [fpS_snoc,fp'] at hd
    rcases List.mem_append.mp hd with z | z
    ·exact .inl (by rw [fpS_snoc];exact List.mem_append_left _ z)
    ·rcases List.mem_append.mp z with z | z
     ·exact .inl (by rw [fpS_snoc];exact List.mem_append_right _ z)
     ·rw [List.mem_singleton.mp z];exact .inr hx
   ·exact kp _ _ (fun z=>hd (by subst z;rw [fpS_snoc];simp [FrA.fp])) e
  rcases hwk with ⟨rfl,rfl⟩ | ⟨rfl,rfl⟩
  all_goals
   repeat first | tm_at "d" | refine exs_cons ?_ | refine ifDy rfl ?_ | refine ifDn (by decide +kernel) ?_
   refine ⟨n,by first | rfl | (rw [hone];rfl) | rw [decide_eq_true (by rw [hone];rfl)],?_⟩
   repeat tm_at "d"
   refine ⟨a.o,C,flds a,_,rfl,hf.o,k.cls,k.b,rfl,?_⟩
   refine ⟨a.pb,rfl,⟨_,hf.pb⟩,?_⟩
   repeat tm_at "d"
   intro x hx
   refine ⟨_,ext_new (o:=.lst []) hx _ _ hf.pb,Nat.lt_of_lt_of_le (Nat.lt_succ_of_le (show _<=20 by rw [List.length_map];omega)) (small (by decide)),fin x hx⟩
end
theorem big {n:Nat} (h:n<=10000000):n<=sizeLine:=Nat.le_trans h (by unfold sizeLine;decide)
def wdO:Opn->Str
 | .choose=>Str.ofString "choose"
 | .ite _=>Str.ofString "if"
 | .whl _=>Str.ofString "while"
def wdL:Stm->Str
 | .set _ _=>Str.ofString "set"
 | .any _=>Str.ofString "any"
 | _=>Str.ofString "note"
inductive Stx (last:Str) (fs:List Frm) (d:Nat) (tk:List Str) (wd:Str) (fs':List Frm):Prop
 | plan (ss:List Str) (hl:last=Str.ofString "") (h0:fs=[]) (hd:d=0) (ht:tk=Str.ofString "plan" :: ss) (hw:wd=Str.ofString "plan") (hu:Up1 ss) (h1:1<=ss.length) (h6:ss.length<=6) (e:fs'=[([nms ss,.tup []],[[]])])
 | head (h:Hdg) (gs:List Frm) (f:Frm) (hl:¬ last=Str.ofString "") (e0:fs=gs++[f]) (hd:d=gs.length) (ht:tk=tkH h) (hw:wd=wdH h) (hr:RdH h last) (hi:ixH h < f.1.length) (h10:f.1.length<=10) (e:fs'=gs++[(f.1.set (ixH h) (vlH h),f.2)])
 | opn (o:Opn) (hl:¬ last=Str.ofString "") (hd:d+1=fs.length) (ht:tk=tkO o) (hw:wd=wdO o) (hr:RdO o) (e:fs'=fs++[(ptOp o,[[]])])
 | turn (gs:List Frm) (f:Frm) (kind:Str) (pr:List D) (hl:¬ last=Str.ofString "") (e0:fs=gs++[f]) (hd:d+1=gs.length) (ht:tk=[wd]) (hk:f.1=.str kind :: pr) (h10:f.1.length<=10) (h5:f.2.length<=5)
  (hc:(wd=Str.ofString "end" /\ (kind=Str.ofString "while" \/ (kind∈[Str.ofString "choose",Str.ofString "if"]/\f.2.length=2))/\∃ fs1 p1 bl lb,gs=fs1++[(p1,bl++[lb])]/\lb.length<=100/\fs'=fs1++[(p1,bl++[lb++[.tup (f.1++f.2.map D.tup)]])]) \/
   (((wd=Str.ofString "or" /\ kind=Str.ofString "choose")\/(wd=Str.ofString "else" /\ kind=Str.ofString "if"))/\f.2.length=1/\fs'=gs++[(f.1,f.2++[[]])]))
 | plain (s:Stm) (gs:List Frm) (p1:List D) (bl:List (List D)) (lb:List D) (hl:¬ last=Str.ofString "") (e0:fs=gs++[(p1,bl++[lb])]) (hd:d=gs.length) (ht:tk=tkL s) (hw:wd=wdL s) (hr:RdL s) (hb:lb.length<=100) (h5:bl.length<=5) (e:fs'=gs++[(p1,bl++[lb++[stD s]])])
theorem tok_plan:Tok1 (Str.ofString "plan"):=⟨by decide +kernel,by decide +kernel⟩
theorem tok_given:Tok1 (Str.ofString "given"):=⟨by decide +kernel,by decide +kernel⟩
theorem tok_keep:Tok1 (Str.ofString "keep"):=⟨by decide +kernel,by decide +kernel⟩
theorem tok_fall:Tok1 (Str.ofString "fall"):=⟨by decide +kernel,by decide +kernel⟩
theorem tok_by:Tok1 (Str.ofString "by"):=⟨by decide +kernel,by decide +kernel⟩
theorem tok_choose:Tok1 (Str.ofString "choose"):=⟨by decide +kernel,by decide +kernel⟩
theorem tok_if:Tok1 (Str.ofString "if"):=⟨by decide +kernel,by decide +kernel⟩
theorem tok_while:Tok1 (Str.ofString "while"):=⟨by decide +kernel,by decide +kernel⟩
theorem tok_or:Tok1 (Str.ofString "or"):=⟨by decide +kernel,by decide +kernel⟩
theorem tok_else:Tok1 (Str.ofString "else"):=⟨by decide +kernel,by decide +kernel⟩
theorem tok_end:Tok1 (Str.ofString "end"):=⟨by decide +kernel,by decide +kernel⟩
theorem tok_set:Tok1 (Str.ofString "set"):=⟨by decide +kernel,by decide +kernel⟩
theorem tok_any:Tok1 (Str.ofString "any"):=⟨by decide +kernel,by decide +kernel⟩
theorem tok_note:Tok1 (Str.ofString "note"):=⟨by decide +kernel,by decide +kernel⟩
theorem tok_eq:Tok1 (Str.ofString "="):=⟨by decide +kernel,by decide +kernel⟩
theorem Stx.tks {last:Str} {fs:List Frm} {d:Nat} {tk:List Str} {wd:Str} {fs':List Frm} (h:Stx last fs d tk wd fs'):Toks tk/\∃ r,tk=wd :: r:=by
 have trs:∀ {rs:List Rw},RdRs rs->Toks (tkRs rs):=fun hr=>toks_Rs fun r hr'=>(hr.2 r hr').1.lett
 cases h with
 | plan ss hl h0 hd ht hw hu=>subst ht;subst hw;exact ⟨Toks.cons tok_plan fun t h=>Tok1.letter (hu.lett t h),_,rfl⟩
 | head h gs f hl e0 hd ht hw hr =>
  subst ht;subst hw
  cases h with
  | given rs=>exact ⟨Toks.cons tok_given (trs hr.2.2),_,rfl⟩
  | keep rs=>exact ⟨Toks.cons tok_keep (trs hr.2.2),_,rfl⟩
  | fall m=>exact ⟨Toks.cons tok_fall (Toks.app (toks_S hr.2.1.1.lett) (Toks.cons tok_by (Toks.cons (Tok1.num _) Toks.nil))),_,rfl⟩
 | opn o hl hd ht hw hr =>
  subst ht;subst hw
  cases o with
  | choose=>exact ⟨Toks.cons tok_choose Toks.nil,_,rfl⟩
  | ite r=>exact ⟨Toks.cons tok_if (toks_R hr.1.lett),_,rfl⟩
  | whl r=>exact ⟨Toks.cons tok_while (toks_R hr.1.lett),_,rfl⟩
 | turn gs f kind pr hl e0 hd ht hk h10 h5 hc =>
  subst ht
  refine ⟨Toks.cons ?_ Toks.nil,_,rfl⟩
  rcases hc with ⟨rfl,_⟩ | ⟨⟨rfl,_⟩ | ⟨rfl,_⟩,_⟩
  ·exact tok_end
  ·exact tok_or
  ·exact tok_else
 | plain s gs p1 bl lb hl e0 hd ht hw hr =>
  subst ht;subst hw
  cases s with
  | set x s=>exact ⟨Toks.cons tok_set (Toks.cons (Tok1.letter hr.1) (Toks.cons tok_eq (toks_S hr.2.1.lett))),_,rfl⟩
  | any x=>exact ⟨Toks.cons tok_any (Toks.cons (Tok1.letter hr) Toks.nil),_,rfl⟩
  | note rs=>exact ⟨Toks.cons tok_note (trs hr.2),_,rfl⟩
  | choose a b=>exact hr.elim
  | ite r a b=>exact hr.elim
  | whl r rs m b=>exact hr.elim
def spLine (C:Addr):SpD:=fun ds M Q=>∃ (p:Addr) (last:Str) (d:Nat) (tk:List Str) (n:Int) (as:List FrA) (fs fs':List Frm) (wd:Str),ds=[.ref p,.str last,.str (ind d++jn tk),.int n]/\Rep C M p as fs/\Stx last fs d tk wd fs'/\fs.length<=20/\(ind d++jn tk).length<=100000/\∀ M',Stp C M M' p as fs'->Q (.str wd) M'
theorem Rep.push {C:Addr} {M M1:MH} {p:Addr} {as:List FrA} {fs:List Frm} {a:FrA} {f:Frm} (h:Rep C M p as fs) (x:Ext M M1) (hf:FrOk C M1 a f) (fr:∀ b∈a.fp,M b=none) (nd:a.fp.Nodup):Stp C M (mset M1 p (.lst ((as.map fun a=>D.ref a.o)++[.ref a.o]))) p as (fs++[f]):=by
 have hp:p∉a.fp:=fun z=>by have:=fr p z;rw [h.at_] at this;cases this
 have np:=(List.nodup_cons.mp h.nd).1
 have nd1:=(List.nodup_cons.mp h.nd).2
 refine ⟨⟨as++[a],⟨by rw [mset_same];simp,Stk.snoc (hf.keep fun b hb o e=>by rw [mset_ne (fun z=>hp (by subst z;exact hb))];exact e) (h.st.keep fun b hb o e=>by rw [mset_ne (fun z=>np (by subst z;exact hb))];exact x _ _ e),?_⟩,fun b hb=>?_⟩,fun c o hc e=>?_⟩
 ·rw [fpS_snoc,List.nodup_cons,List.nodup_append]
  refine ⟨fun z=>(List.mem_append.mp z).elim np hp,nd1,nd,fun b hb c hc e=>?_⟩
  subst e
  obtain ⟨o,e⟩:=h.st.has b hb
  rw [fr b hc] at e;cases e
 ·rw [fpS_snoc] at hb
  exact (List.mem_append.mp hb).elim .inl fun z=>.inr (fr b z)
 ·rw [mset_ne (fun z=>hc (by subst z;simp))]
  exact x _ _ e
theorem new_frame {C:Addr} {M M1 M2:MH} {a pp pb b:Addr} {l:List D} (x:Ext M M1) (hpp:M pp=none) (epp:M1 pp=some (.lst l)) (ha:M1 a=none) (hb:mset M1 a (.ins C []) b=none) (hpb:mset M1 a (.ins C []) pb=none) (hne:b≠pb) (e1:M2 a=some (.ins C (flds ⟨a,pp,pb,[b]⟩))) (e2:M2 pb=some (.lst [.ref b])) (e3:M2 b=some (.lst [])) (k:∀ c o,c≠a->mset M1 a (.ins C []) c=some o->M2 c=some o) :
  Ext M M2/\FrOk C M2 ⟨a,pp,pb,[b]⟩ (l,[[]])/\(∀ c∈(FrA.mk a pp pb [b]).fp,M c=none)/\(FrA.mk a pp pb [b]).fp.Nodup:=by
 have na:∀ c,mset M1 a (.ins C []) c=none->M1 c=none/\c≠a:=fun c hc=>by
  by_cases z:c=a
  ·subst z;rw [mset_same] at hc;cases hc
  ·rw [mset_ne z] at hc;exact ⟨hc,z⟩
 have hb1:=na b hb
 have hpb1:=na pb hpb
 have ppa:pp≠a:=fun z=>by subst z;rw [epp] at ha;cases ha
 have ppb:pp≠b:=fun z=>by subst z;rw [epp] at hb1;cases hb1.1
 have pppb:pp≠pb:=fun z=>by subst z;rw [epp] at hpb1;cases hpb1.1
 have ext:Ext M M2:=fun c o e=>k c o (fun z=>by subst z;have:=x _ _ e;rw [ha] at this;cases this) (by
  rw [mset_ne (fun z=>by subst z;have:=x _ _ e;rw [ha] at this;cases this)];exact x _ _ e)
 refine ⟨ext,⟨e1,k _ _ ppa (by rw [mset_ne ppa];exact epp),e2,⟨[],[],rfl,e3,rfl⟩⟩,fun c hc=>?_,?_⟩
 ·simp only [FrA.fp,List.mem_cons,List.not_mem_nil,or_false] at hc
  rcases hc with rfl | rfl | rfl | rfl
  ·exact noneR x ha
  ·exact hpp
  ·exact noneR x hpb1.1
  ·exact noneR x hb1.1
 ·simp only [FrA.fp,List.nodup_cons,List.mem_cons,List.not_mem_nil,or_false,not_or,List.nodup_nil,and_true,not_false_eq_true]
  exact ⟨⟨fun z=>ppa z.symm,fun z=>hpb1.2 z.symm,fun z=>hb1.2 z.symm⟩,⟨pppb,ppb⟩,fun z=>hne z.symm⟩
section
variable {P:Program} {w:World} {K:PySem.W.Frag} {mg:Str->Option Value} {base:Heap} {f:Addr} {fd:FuncData} {C:Addr} {tS:Tok}
theorem turns3:([D.str "or",D.str "else",D.str "end"] : List D)=[Str.ofString "or",Str.ofString "else",Str.ofString "end"].map D.str:=rfl
theorem heads3:([D.str "given",D.str "keep",D.str "fall"] : List D)=[Str.ofString "given",Str.ofString "keep",Str.ofString "fall"].map D.str:=rfl
theorem opens3:([D.str "choose",D.str "if",D.str "while"] : List D)=[Str.ofString "choose",Str.ofString "if",Str.ofString "while"].map D.str:=rfl
def wTurn:List Str:=[Str.ofString "or",Str.ofString "else",Str.ofString "end"]
def wHead:List Str:=[Str.ofString "given",Str.ofString "keep",Str.ofString "fall"]
def wOpen:List Str:=[Str.ofString "choose",Str.ofString "if",Str.ofString "while"]
def wPlain:List Str:=[Str.ofString "set",Str.ofString "any",Str.ofString "note"]
theorem cl_head:∀ x∈wHead,¬ x=Str.ofString "plan" /\ ¬ x∈wTurn:=by decide +kernel
theorem cl_open:∀ x∈wOpen,¬ x=Str.ofString "plan" /\ ¬ x∈wTurn/\¬ x∈wHead:=by decide +kernel
theorem cl_turn:∀ x∈wTurn,¬ x=Str.ofString "plan" /\ ¬ x∈wHead/\¬ x∈wOpen:=by decide +kernel
theorem cl_plain:∀ x∈wPlain,¬ x=Str.ofString "plan" /\ ¬ x∈wTurn/\¬ x∈wHead/\¬ x∈wOpen:=by decide +kernel
theorem wdH_mem (h:Hdg):wdH h∈wHead:=by cases h with
 | given rs=>exact .head _
 | keep rs=>exact .tail _ (.head _)
 | fall m=>exact .tail _ (.tail _ (.head _))
theorem wdO_mem (h:Opn):wdO h∈wOpen:=by cases h with
 | choose=>exact .head _
 | ite r=>exact .tail _ (.head _)
 | whl r=>exact .tail _ (.tail _ (.head _))
theorem wdL_mem {h:Stm} (r:RdL h):wdL h∈wPlain:=by
 cases h with
 | set x s=>exact .head _
 | any x=>exact .tail _ (.head _)
 | note rs=>exact .tail _ (.tail _ (.head _))
 | choose a b=>exact r.elim
 | ite q a b=>exact r.elim
 | whl q rs m b=>exact r.elim
local macro_rules | `(tactic| tm_at $s:str)=>namT ["opened", "last", "line", "number", "content", "tokens", "word", "depth"] s
local macro_rules | `(tactic| tm_at "d")=>`(tactic| first
 | ((with_reducible show EV _ _ _ (Expr.Attribute _ _ _) _);(with_reducible refine' ev_fld ?_ ?n0);(case n0=>rfl))
 | ((with_reducible show EV _ _ _ (Expr.Call (Expr.Attribute _ "lstrip" _) [_] [] _) _);(with_reducible refine' ev_lstrip ?_ ?n1 ?n2 ?n3 ?n4 ?n5);(case n1=>rfl);(case n2=>rfl);(case n3=>rfl);(case n4=>rfl);(case n5=>rfl))
 | ((with_reducible show EV _ _ _ (Expr.Call (Expr.Attribute _ "split" _) [_] [] _) _);(with_reducible refine' ev_split ?_ ?n1 ?n2 ?n3 ?n4 ?n5);(case n1=>rfl);(case n2=>rfl);(case n3=>rfl);(case n4=>rfl);(case n5=>rfl))
 | ((with_reducible show EV _ _ _ (Expr.Name "STEP" _) _);(with_reducible refine' ev_gstr ?n0 ?_ ?n1 ?n2);(case n0=>exact gS);(case n1=>rfl);(case n2=>decide))
 | ((with_reducible show EV _ _ _ (Expr.BinOp (Expr.Name "STEP" _) Operator.Mult _ _) _);(with_reducible refine ev_repS ?_))
 | ((with_reducible show EV _ _ _ (Expr.Call (Expr.Name "Opened" _) [_] [] _) _);(with_reducible refine' ev_new ?n0 ?n1 ?n2 ?_ ?n3 ?n4 ?n5 ?n6);(case n0=>exact hK);(case n1=>exact hr);(case n2=>first | decide | omega);(case n3=>rfl);(case n4=>decide);(case n5=>rfl);(case n6=>rfl))
 | (rw [turns3];with_reducible refine in_t ?_) | (rw [heads3];with_reducible refine in_t ?_) | (rw [opens3];with_reducible refine in_t ?_))
theorem ok_read_line (F:Fun K "read_line" "read_line" s_read_line f fd) (k:OpK K C) (h_len:mg "len" = none) (gS:mg "STEP" = some (.str "  " tS)) (hK:Kls P w K mg base 1 "Opened" C (spInitO C)) (C_must:Cal P w K mg base 1 "must" spMustR) (C_read_names:Cal P w K mg base 3 "read_names" spNamesR) (C_read_heading:Cal P w K mg base 7 "read_heading" (spHeading C)) (C_read_opening:Cal P w K mg base 6 "read_opening" spOpenR) (C_read_turning:Cal P w K mg base 2 "read_turning" (spTurn C)) (C_read_plain:Cal P w K mg base 7 "read_plain" spPlainR):FnOk P w K mg base CX0 8 f fd P_read_line (liftSp K (spLine C)):=by
 refine fn_D F sc_read_line (fun ds M Q ⟨a,b,c,d,e,g,i,j,l,h,_⟩=>by subst h;rfl) fun cdv A outer s H EE ds M Q hr h=>?_
 have nd:=sc_read_line.nd
 try (refine let_X ?_;intro X)
 obtain ⟨p,last,d,tk,n,as,fs,fs',wd,rfl,hR,hx,h20,hlen,q⟩:=h
 obtain ⟨htk,r,er⟩:=hx.tks
 have hne:tk≠[]:=by rw [er];simp
 have es:Txt.lstripChars (ind d++jn tk) (Str.ofString " ")=jn tk:=by rw [spc_eq];exact lstrip_pre (ind_cps d) (jn_head hne htk)
 have hjl:(jn tk).length<=100000:=by have:=slen (ind d) (jn tk);omega
 have esp:Txt.split (jn tk) (Str.ofString " ")=tk:=by rw [spc_eq];exact split_toks hne htk
 refine exs_cons ?_
 repeat tm_at "d"
 refine ⟨_,rfl,?_⟩
 repeat tm_at "d"
 refine ⟨_,rfl,big (by omega),?_⟩
 rw [es]
 repeat first | tm_at "d" | refine exs_cons ?_
 refine ⟨_,rfl,?_⟩
 repeat tm_at "d"
 refine ⟨_,rfl,by decide +kernel,big (by omega),big (Nat.le_trans (parts_le ..) (by omega)),fun t ht=>?_⟩
 rw [esp]
 have x1:=ext_new (o:=.lst (tk.map D.str)) ht
 have hl1:mset M t (.lst (tk.map D.str)) t=some (strsL tk):=mset_same
 have i0:atI (tk.map D.str) 0=some (.str wd):=by rw [er];exact L2.atI_nat (j:=0) rfl
 generalize mset M t (.lst (tk.map D.str))=M1 at x1 hl1 ⊢
 repeat first | tm_at "d" | refine exs_cons ?_ | refine ix_al hl1 i0 ?_
 have hfl:=hR.st.len
 have e0d:∀ z:Str,ind 0++z=z:=fun z=>s_ext (by show #[]++z.cps=z.cps;simp)
 have rep1:M1 p=some (.lst (as.map fun a=>D.ref a.o)):=x1 _ _ hR.at_
 have hl20:(as.map fun a=>D.ref a.o).length < sizeLine:=Nat.lt_of_lt_of_le (Nat.lt_succ_of_le (show _<=20 by rw [List.length_map];omega)) (small (by decide))
 have hR1:Rep C M1 p as fs:=⟨rep1,hR.st.keep fun b _ o e=>x1 _ _ e,hR.nd⟩
 have stpE:∀ {M':MH} {gs:List Frm},Stp C M1 M' p as gs->Stp C M M' p as gs:=fun ⟨⟨as',h1,h2⟩,h3⟩=>⟨⟨as',h1,fun b hb=>(h2 b hb).imp id fun z=>noneR x1 z⟩,fun c o hc e=>h3 c o hc (x1 _ _ e)⟩
 have frame:∀ {M2 M3:MH} {a pp pb b:Addr} {l:List D},Ext M1 M2->M1 pp=none->M2 pp=some (.lst l)->M2 a=none->mset M2 a (.ins C []) b=none->mset M2 a (.ins C []) pb=none->b≠pb->M3 a=some (.ins C (flds ⟨a,pp,pb,[b]⟩))->M3 pb=some (.lst [.ref b])->M3 b=some (.lst [])->(∀ c o,c≠a->mset M2 a (.ins C []) c=some o->M3 c=some o)->fs'=fs++[(l,[[]])]->∃ ds,M3 p=some (.lst ds)/\ds.length < sizeLine/\Q (.str wd) (mset M3 p (.lst (ds++[.ref a]))):=fun x h1 h2 h3 h4 h5 h6 h7 h8 h9 hk e=>by
  obtain ⟨y1,y2,y3,y4⟩:=new_frame x h1 h2 h3 h4 h5 h6 h7 h8 h9 hk
  refine ⟨_,y1 _ _ rep1,hl20,q _ (stpE ?_)⟩
  rw [e]
  exact hR1.push y1 y2 y3 y4
 cases hx with
 | plan ss hl h0 hd ht hw hu h1 h6 e =>
  subst hd
  subst h0
  refine ⟨n,by rw [decide_eq_true (by rw [decide_eq_true hw,decide_eq_true hl])],?_⟩
  repeat first | tm_at "d" | refine exs_cons ?_ | refine ifDy hw ?_
  refine ⟨n,by rw [decide_eq_true (e0d _)],?_⟩
  repeat first | tm_at "d" | refine exs_cons ?_
  refine ⟨p,rfl,⟨_,rep1⟩,?_⟩
  repeat first | tm_at "d" | refine exs_cons ?_
  refine ev_slice sl_list ?_
  repeat tm_at "d"
  refine ov_some ?_
  repeat tm_at "d"
  refine ov_none ?_
  refine rs_list rfl (Or.inl hl1) fun p2 hp2=>?_
  have ec:D3.cutD (tk.map D.str) (some 1) none=ss.map D.str:=by rw [ht];exact cut_from _ 1 (by simp)
  rw [ec]
  repeat tm_at "d"
  refine ⟨p2,ss,n,rfl,mset_same,hu,h1,h6,fun M3 x3=>?_⟩
  have x4:=Ext.trans (ext_new hp2) x3
  repeat tm_at "d"
  intro pp hpp
  repeat tm_at "d"
  intro a ha
  refine ⟨a,pp,rfl,mset_same,fun b pb M5 hb hpb hne e1 e2 e3 kk=>⟨rfl,?_⟩⟩
  have x5:=Ext.trans x4 (ext_new (o:=.lst [nms ss,.tup []]) hpp)
  obtain ⟨ds,z1,z2,z3⟩:=frame x5 (noneR x4 hpp) mset_same ha hb hpb hne e1 e2 e3 kk e
  refine ⟨ds,z1,z2,?_⟩
  repeat tm_at "d"
  exact z3
 | head h gs f hl e0 hd ht hw hr' hi h10 e =>
  have w3:wd∈wHead:=by rw [hw];exact wdH_mem h
  obtain ⟨w1,w2⟩:=cl_head _ w3
  have hdz:(fs.length:Int) - 1=d:=by rw [e0,List.length_append,hd];simp
  refine ⟨n,by rw [decide_eq_true (by rw [decide_eq_false w1,decide_eq_false hl])],?_⟩
  repeat first | tm_at "d" | refine exs_cons ?_ | refine ifDn w1 ?_ | refine ifDn w2 ?_
  refine ⟨_,_,rfl,Or.inl ⟨_,rep1,rfl⟩,?_⟩
  rw [List.length_map,hfl]
  repeat first | tm_at "d" | refine exs_cons ?_
  refine ⟨_,(d:Int),rfl,by rw [hdz],Int.natCast_nonneg d,by decide +kernel,by omega,by decide +kernel,?_⟩
  repeat tm_at "d"
  refine add_ss (by have:=slen (ind d) (jn tk);show (ind d).length+_<=_;omega) ?_
  repeat tm_at "d"
  refine ⟨n,by rw [decide_eq_true (show ind d++jn tk=repS (Str.ofString "  ") (d:Int).toNat++jn tk from rfl)],?_⟩
  subst e0
  obtain ⟨bs,a,rfl,hS,hf⟩:=hR1.top
  repeat first | tm_at "d" | refine exs_cons ?_ | refine ifDy w3 ?_ | refine ix_al rep1 hR1.last ?_
  refine ⟨a,f,h,last,t,n,rfl,by rw [hl1,ht],hr',hf,hi,h10,fun M2 e2 k2=>?_⟩
  repeat tm_at "d"
  obtain ⟨nda,npa⟩:=hR1.nd1
  have npp:∀ c∈a.o :: a.pb :: a.bs,c∉[a.pp]:=fun c hc z=>by
   rw [List.mem_singleton] at z
   subst z
   have nd:=nda
   simp only [FrA.fp,List.nodup_cons,List.mem_cons,not_or] at nd hc
   rcases hc with e | e | e
   ·exact nd.1.1 e.symm
   ·exact nd.2.1.1 e
   ·exact nd.2.1.2 e
  refine q _ (stpE ?_)
  rw [e]
  refine ⟨⟨bs++[a],hR1.put rfl ⟨k2 _ _ (npp _ (by simp)) hf.o,e2,k2 _ _ (npp _ (by simp)) hf.pb,hf.bs.keep fun c hc o eo=>k2 _ _ (npp _ (by simp [hc])) eo⟩ (fun c o hc eo=>k2 _ _ (fun z=>hc (by rw [List.mem_singleton.mp z];simp [FrA.fp])) eo) (fun c hc=>.inl hc) nda,fun c hc=>.inl hc⟩,fun c o hc eo=>k2 _ _ (fun z=>hc (by rw [List.mem_singleton.mp z,fpS_snoc];simp [FrA.fp])) eo⟩
 | opn o hl hd ht hw hr' e =>
  have w4:wd∈wOpen:=by rw [hw];exact wdO_mem o
  obtain ⟨w1,w2,w3⟩:=cl_open _ w4
  have hdz:(fs.length:Int) - 1=d:=by omega
  refine ⟨n,by rw [decide_eq_true (by rw [decide_eq_false w1,decide_eq_false hl])],?_⟩
  repeat first | tm_at "d" | refine exs_cons ?_ | refine ifDn w1 ?_ | refine ifDn w2 ?_
  refine ⟨_,_,rfl,Or.inl ⟨_,rep1,rfl⟩,?_⟩
  rw [List.length_map,hfl]
  repeat first | tm_at "d" | refine exs_cons ?_
  refine ⟨_,(d:Int),rfl,by rw [hdz],Int.natCast_nonneg d,by decide +kernel,by omega,by decide +kernel,?_⟩
  repeat tm_at "d"
  refine add_ss (by have:=slen (ind d) (jn tk);show (ind d).length+_<=_;omega) ?_
  repeat tm_at "d"
  refine ⟨n,by rw [decide_eq_true (show ind d++jn tk=repS (Str.ofString "  ") (d:Int).toNat++jn tk from rfl)],?_⟩
  repeat first | tm_at "d" | refine exs_cons ?_ | refine ifDn w3 ?_ | refine ifDy w4 ?_
  refine ⟨p,rfl,⟨_,rep1⟩,?_⟩
  repeat first | tm_at "d" | refine exs_cons ?_
  refine ⟨t,o,n,rfl,by rw [hl1,ht],hr',fun pp M4 hpp epp x4=>?_⟩
  repeat tm_at "d"
  intro a ha
  refine ⟨a,pp,rfl,mset_same,fun b pb M5 hb hpb hne e1 e2 e3 kk=>⟨rfl,?_⟩⟩
  obtain ⟨ds,z1,z2,z3⟩:=frame x4 hpp epp ha hb hpb hne e1 e2 e3 kk e
  refine ⟨ds,z1,z2,?_⟩
  repeat tm_at "d"
  exact z3
 | turn gs f kind pr hl e0 hd ht hk h10 h5 hc =>
  have w2:wd∈wTurn:=by rcases hc with ⟨rfl,_⟩ | ⟨⟨rfl,_⟩ | ⟨rfl,_⟩,_⟩<;>decide +kernel
  obtain ⟨w1,w3,w4⟩:=cl_turn _ w2
  have hdz:(fs.length:Int) - 2=d:=by rw [e0,List.length_append,<- hd];simp;omega
  refine ⟨n,by rw [decide_eq_true (by rw [decide_eq_false w1,decide_eq_false hl])],?_⟩
  repeat first | tm_at "d" | refine exs_cons ?_ | refine ifDn w1 ?_ | refine ifDy w2 ?_
  refine ⟨_,_,rfl,Or.inl ⟨_,rep1,rfl⟩,?_⟩
  rw [List.length_map,hfl]
  repeat first | tm_at "d" | refine exs_cons ?_
  refine ⟨_,(d:Int),rfl,by rw [hdz],Int.natCast_nonneg d,by decide +kernel,by omega,by decide +kernel,?_⟩
  repeat tm_at "d"
  refine add_ss (by have:=slen (ind d) (jn tk);show (ind d).length+_<=_;omega) ?_
  repeat tm_at "d"
  refine ⟨n,by rw [decide_eq_true (show ind d++jn tk=repS (Str.ofString "  ") (d:Int).toNat++jn tk from rfl)],?_⟩
  repeat first | tm_at "d" | refine exs_cons ?_ | refine ifDn w3 ?_ | refine ifDn w4 ?_ | refine ifDy w2 ?_
  refine ⟨_,_,rfl,Or.inl ⟨_,hl1,rfl⟩,?_⟩
  rw [List.length_map]
  repeat first | tm_at "d" | refine exs_cons ?_
  refine ⟨n,by rw [decide_eq_true (by rw [ht];rfl)],?_⟩
  repeat first | tm_at "d" | refine exs_cons ?_
  refine ⟨p,wd,n,as,gs,f,kind,pr,rfl,by rw [<- e0];exact hR1,hk,h10,h5,by omega,?_⟩
  rcases hc with ⟨c1,c2,fs1,p1,bl,lb,c3,c4,c5⟩ | ⟨c1,c2,c3⟩
  ·refine .inl ⟨c1,c2,fs1,p1,bl,lb,c3,c4,fun M' h=>?_⟩
   repeat tm_at "d"
   exact q _ (stpE (by rw [c5];exact h))
  ·refine .inr ⟨c1,c2,fun M' h=>?_⟩
   repeat tm_at "d"
   exact q _ (stpE (by rw [c3];exact h))
 | plain s gs p1 bl lb hl e0 hd ht hw hr' hb h5 e =>
  have w0:wd∈wPlain:=by rw [hw];exact wdL_mem hr'
  obtain ⟨w1,w2,w3,w4⟩:=cl_plain _ w0
  have hdz:(fs.length:Int) - 1=d:=by rw [e0,List.length_append,hd];simp
  refine ⟨n,by rw [decide_eq_true (by rw [decide_eq_false w1,decide_eq_false hl])],?_⟩
  repeat first | tm_at "d" | refine exs_cons ?_ | refine ifDn w1 ?_ | refine ifDn w2 ?_
  refine ⟨_,_,rfl,Or.inl ⟨_,rep1,rfl⟩,?_⟩
  rw [List.length_map,hfl]
  repeat first | tm_at "d" | refine exs_cons ?_
  refine ⟨_,(d:Int),rfl,by rw [hdz],Int.natCast_nonneg d,by decide +kernel,by omega,by decide +kernel,?_⟩
  repeat tm_at "d"
  refine add_ss (by have:=slen (ind d) (jn tk);show (ind d).length+_<=_;omega) ?_
  repeat tm_at "d"
  refine ⟨n,by rw [decide_eq_true (show ind d++jn tk=repS (Str.ofString "  ") (d:Int).toNat++jn tk from rfl)],?_⟩
  subst e0
  obtain ⟨bs,a,rfl,hS,hf⟩:=hR1.top
  obtain ⟨nda,npa⟩:=hR1.nd1
  obtain ⟨ds,b,eb,hz,hb1⟩:=hf.lastB
  have hbl:=hf.bs.len
  have ib:atI (a.bs.map D.ref) (-1)=some (.ref b):=by rw [eb,List.map_append];exact L2.atI_last _ _
  repeat first | tm_at "d" | refine exs_cons ?_ | refine ifDn w2 ?_ | refine ifDn w3 ?_ | refine ifDn w4 ?_ | refine ix_al rep1 hR1.last ?_
  refine ⟨a.o,C,flds a,_,rfl,hf.o,k.cls,k.b,rfl,?_⟩
  repeat first | tm_at "d" | refine ix_al hf.pb ib ?_
  refine ⟨b,rfl,⟨_,hb1⟩,?_⟩
  repeat tm_at "d"
  refine ⟨t,s,n,rfl,by rw [hl1,ht],hr',fun M2 x2=>?_⟩
  refine ⟨_,x2 _ _ hb1,Nat.lt_of_lt_of_le (Nat.lt_succ_of_le hb) (small (by decide)),?_⟩
  repeat tm_at "d"
  have nbp:b≠p:=fun z=>npa (by subst z;simp [FrA.fp,eb])
  refine q _ (stpE ?_)
  rw [e]
  refine ⟨⟨bs++[a],hR1.put rfl (hf.putB eb nda (fun c o hc eo=>by rw [mset_ne hc];exact x2 _ _ eo) mset_same) (fun c o hc eo=>by rw [mset_ne (fun z=>hc (by subst z;simp [FrA.fp,eb]))];exact x2 _ _ eo) (fun c hc=>.inl hc) nda,fun c hc=>.inl hc⟩,fun c o hc eo=>?_⟩
  rw [mset_ne (fun z=>hc (by subst z;rw [fpS_snoc];simp [FrA.fp,eb]))]
  exact x2 _ _ eo
end
inductive Run:Str->List Frm->List LnT->List Frm->Prop
 | nil (last:Str) (fs:List Frm):Run last fs [] fs
 | cons {last wd:Str} {fs fs1 fs2:List Frm} {d:Nat} {tk:List Str} {r:List LnT} (h:Stx last fs d tk wd fs1) (hl:fs.length<=20) (k:Run wd fs1 r fs2):Run last fs ((d,tk) :: r) fs2
theorem Run.toks {last:Str} {fs fs2:List Frm} {ls:List LnT} (h:Run last fs ls fs2):∀ x∈ls,Toks x.2:=by
 induction h with
 | nil last fs=>exact fun x hx=>by cases hx
 | cons h hl k ih =>
  intro x hx
  rcases List.mem_cons.mp hx with rfl | hx
  ·exact h.tks.1
  ·exact ih x hx
theorem lnT_noc {x:LnT} (h:Toks x.2):NoC 10 (lnT x):=fun z=>by
 have e:(lnT x).cps.toList=(ind x.1).cps.toList++(jn x.2).cps.toList:=by
  show ((ind x.1).cps++(jn x.2).cps).toList=_
  rw [Array.toList_append]
 rw [e] at z
 rcases List.mem_append.mp z with z | z
 ·have:=ind_cps _ _ z;omega
 ·rcases jn_cps h _ z with z | z<;>omega
theorem nl_eq:Str.ofString "\n" = ⟨#[10]⟩:=by decide +kernel
theorem split_lines {ls:List LnT} (h0:ls≠[]) (h:∀ x∈ls,Toks x.2):Txt.split (Txt.join (Str.ofString "\n") (ls.map lnT)) (Str.ofString "\n")=ls.map lnT:=by
 rw [join_txt,nl_eq]
 exact split_join (by simpa using h0) fun t ht=>by
  obtain ⟨x,hx,rfl⟩:=List.mem_map.mp ht
  exact lnT_noc (h x hx)
def spRead:SpD:=fun ds M Q=>∃ (ls:List LnT) (f:Frm),ds=[.str (Txt.join (Str.ofString "\n") (ls.map lnT))]/\ls≠[]/\ls.length<=130/\(∀ x∈ls,(lnT x).length<=60100)/\Run (Str.ofString "") [] ls [f]/\f.1.length<=10/\f.2.length<=10/\∀ M',Ext M M'->Q (.tup (f.1++f.2.map D.tup)) M'
section
variable {P:Program} {w:World} {K:PySem.W.Frag} {mg:Str->Option Value} {base:Heap} {f:Addr} {fd:FuncData} {C:Addr} {tS:Tok}
local macro_rules | `(tactic| tm_at $s:str)=>namT ["text", "lines", "opened", "last", "number", "line"] s
local macro_rules | `(tactic| tm_at "d")=>`(tactic| first
 | ((with_reducible show EV _ _ _ (Expr.Call (Expr.Attribute _ "split" _) [_] [] _) _);(with_reducible refine' ev_split ?_ ?n1 ?n2 ?n3 ?n4 ?n5);(case n1=>rfl);(case n2=>rfl);(case n3=>rfl);(case n4=>rfl);(case n5=>rfl))
 | ((with_reducible show EV _ _ _ (Expr.Call (Expr.Attribute _ "closed" _) [] [] _) _);(with_reducible refine' ev_meth0 ?n0 ?n1 ?n2 ?_ ?n3);(case n0=>exact C_closed);(case n1=>exact hr);(case n2=>first | decide | omega);(case n3=>rfl)))
theorem ok_read (F:Fun K "read" "read" s_read f fd) (k:OpK K C) (h_len:mg "len" = none) (h_enumerate:mg "enumerate" = none) (C_must:Cal P w K mg base 1 "must" spMustR) (C_read_line:Cal P w K mg base 8 "read_line" (spLine C)) (C_closed:CalM P w K mg base 1 C "closed" (spClosed C)):FnOk P w K mg base CX0 9 f fd P_read (liftSp K spRead):=by
 refine fn_D F sc_read (fun ds M Q ⟨a,b,h,_⟩=>by subst h;rfl) fun cdv A outer s H EE ds M Q hr h=>?_
 have nd:=sc_read.nd
 try (refine let_X ?_;intro X)
 obtain ⟨ls,fr,rfl,hne,h200,hlen,hrun,h10,h10',q⟩:=h
 have esp:=split_lines hne hrun.toks
 have hjl:=join_len (Str.ofString "\n") (B:=60100) (ls.map lnT) (fun y hy=>by obtain ⟨x,hx,rfl⟩:=List.mem_map.mp hy;exact hlen x hx)
 have e1:(Str.ofString "\n").length=1:=by decide +kernel
 rw [List.length_map,e1] at hjl
 generalize ht:Txt.join (Str.ofString "\n") (ls.map lnT)=text at esp hjl
 refine exs_cons ?_
 repeat tm_at "d"
 refine ⟨_,rfl,?_⟩
 repeat tm_at "d"
 refine ⟨_,rfl,by decide +kernel,big (by omega),big (Nat.le_trans (parts_le ..) (by omega)),fun l hl=>?_⟩
 rw [esp]
 have x1:=ext_new (o:=.lst ((ls.map lnT).map D.str)) hl
 have hl1:mset M l (.lst ((ls.map lnT).map D.str)) l=some (.lst ((ls.map lnT).map D.str)):=mset_same
 generalize mset M l (.lst ((ls.map lnT).map D.str))=M1 at x1 hl1 ⊢
 repeat first | tm_at "d" | refine exs_cons ?_
 intro p hp
 have x2:=ext_new (o:=.lst []) hp
 have hp1:mset M1 p (.lst []) p=some (.lst []):=mset_same
 have hl2:=x2 _ _ hl1
 have hlp:l≠p:=fun z=>by subst z;rw [hl1] at hp;cases hp
 generalize mset M1 p (.lst [])=M2 at x2 hp1 hl2 ⊢
 repeat first | tm_at "d" | refine exs_cons ?_
 with_reducible refine' ex_for_enum1 ?n0 ?n1 ?n2 ?_ ?n3 ?n4 ?n5 ?n6
 case n0=>exact PassesOwn.never
 case n1=>rfl
 case n2=>exact h_enumerate
 case n3=>rfl
 case n4=>rfl
 case n5=>rfl
 case n6=>(intro _;rfl)
 repeat tm_at "d"
 refine ⟨l,_,fun i G' M'=>∃ (last:Str) (as:List FrA) (fs:List Frm) (r1 r2:Option D),G'=[some (.str text),some (.ref l),some (.ref p),some (.str last),r1,r2]/\Rep C M' p as fs/\Run last fs (ls.drop i) [fr]/\(∀ b∈fpS as,M2 b=none)/\(∀ c o,c≠p->M2 c=some o->M' c=some o),rfl,hl2,?_,?_,?_,?_⟩
 ·exact ⟨_,[],[],_,_,rfl,⟨hp1,rfl,by simp [fpS]⟩,hrun,fun b hb=>by simp [fpS] at hb,fun c o _ e=>e⟩
 ·rintro i G' M' ⟨last,as,fs,r1,r2,rfl,h1,h2,h3,h4⟩
  exact h4 _ _ hlp hl2
 ·rintro i d G' M' hd ⟨last,as,fs,r1,r2,rfl,h1,h2,h3,h4⟩
  rw [List.getElem?_map,List.getElem?_map] at hd
  obtain ⟨t,hti,rfl⟩:=Option.map_eq_some_iff.mp hd
  obtain ⟨x,hxi,rfl⟩:=Option.map_eq_some_iff.mp hti
  have hil:=(List.getElem?_eq_some_iff.mp hxi).1
  have edr:ls.drop i=x :: ls.drop (i+1):=by
   rw [List.drop_eq_getElem_cons hil,(List.getElem?_eq_some_iff.mp hxi).2]
  rw [edr] at h2
  repeat tm_at "d"
  obtain ⟨dd,tk⟩:=x
  have hlx:(lnT (dd,tk)).length<=60100:=hlen _ (List.mem_of_getElem? hxi)
  cases h2 with
  | cons hs h20 hk =>
   refine ⟨p,last,dd,tk,_,as,fs,_,_,rfl,h1,hs,h20,by show (lnT (dd,tk)).length<=_;omega,fun M3 ⟨⟨as',g1,g2⟩,g3⟩=>?_⟩
   refine ⟨_,as',_,_,_,rfl,g1,hk,fun b hb=>?_,fun c o hc e=>?_⟩
   ·rcases g2 b hb with z | z
    ·exact h3 b z
    ·cases e:M2 b with
     | none=>rfl
     | some o =>
      have hbp:b≠p:=fun z=>by subst z;exact (List.nodup_cons.mp g1.nd).1 hb
      rw [h4 b o hbp e] at z;cases z
   ·refine g3 c o (fun z=>?_) (h4 c o hc e)
    rcases List.mem_cons.mp z with z | z
    ·exact hc z
    ·rw [h3 c z] at e;cases e
 ·rintro G' M' ⟨last,as,fs,r1,r2,rfl,h1,h2,h3,h4⟩
  rw [List.drop_eq_nil_of_le (by simp)] at h2
  cases h2
  obtain ⟨bs,a,rfl,hS,hf⟩:=Rep.top (fs:=[]) h1
  have hbs:bs=[]:=by have:=hS.len;exact List.length_eq_zero_iff.mp (by simpa using this)
  subst hbs
  have hxl:M' l=some (.lst ((ls.map lnT).map D.str)):=h4 _ _ hlp hl2
  repeat first | tm_at "d" | refine exs_cons ?_
  refine ⟨_,_,rfl,Or.inl ⟨_,h1.at_,rfl⟩,?_⟩
  repeat first | tm_at "d" | refine exs_cons ?_
  refine ⟨_,_,rfl,Or.inl ⟨_,hxl,rfl⟩,?_⟩
  repeat first | tm_at "d" | refine exs_cons ?_
  refine ⟨_,rfl,?_⟩
  have i0:atI (([]++[a]).map fun a:FrA=>D.ref a.o) 0=some (.ref a.o):=L2.atI_nat (j:=0) rfl
  repeat first | tm_at "d" | refine exs_cons ?_ | refine ix_al h1.at_ i0 ?_
  refine ⟨a.o,flds a,rfl,hf.o,rfl,a,fr,rfl,hf,h10,h10',fun M4 x4=>?_⟩
  refine q M4 fun c o e=>x4 _ _ (h4 c o (fun z=>?_) (x2 _ _ (x1 _ _ e)))
  subst z
  have:=x1 _ _ e
  rw [hp] at this;cases this
end
theorem Stx.wd_ne {last:Str} {fs:List Frm} {d:Nat} {tk:List Str} {wd:Str} {fs':List Frm} (h:Stx last fs d tk wd fs'):¬ wd=Str.ofString "" := fun z=>by
 obtain ⟨h1,r,e⟩:=h.tks
 have:=(h1 wd (by rw [e];exact List.mem_cons_self ..)).ne
 rw [z] at this
 exact this rfl
def BlkRun (b:List Stm) (d:Nat):Prop:=∀ (gs:List Frm) (p1:List D) (bl:List (List D)) (lb:List D) (last:Str) (rest:List LnT) (fin:List Frm),gs.length=d->bl.length<=4->lb.length+b.length<=100->¬ last=Str.ofString "" ->
  (∀ wd,¬ wd=Str.ofString "" -> Run wd (gs++[(p1,bl++[lb++stDs b])]) rest fin)->Run last (gs++[(p1,bl++[lb])]) (tkBk d b++rest) fin
theorem run_two {o:Opn} {kind mid:Str} {pr:List D} {a b:List Stm} {d:Nat} {gs:List Frm} {p1:List D} {bl:List (List D)} {lb:List D} {last:Str} {rest:List LnT} {fin:List Frm} (ho:ptOp o=.str kind :: pr) (hro:RdO o) (hm:(mid=Str.ofString "or" /\ kind=Str.ofString "choose")\/(mid=Str.ofString "else" /\ kind=Str.ofString "if")) (ra:BlkRun a (d+1)) (rb:BlkRun b (d+1)) (la:a.length<=90) (lb':b.length<=90) (h10:(ptOp o).length<=10) (hd:gs.length=d) (hd9:d<=10) (h4:bl.length<=4) (h100:lb.length<=100) (hl:¬ last=Str.ofString "")
  (k:∀ wd,¬ wd=Str.ofString "" -> Run wd (gs++[(p1,bl++[lb++[.tup (ptOp o++[.tup (stDs a),.tup (stDs b)])]])]) rest fin):Run last (gs++[(p1,bl++[lb])]) ((d,tkO o) :: (tkBk (d+1) a++((d,[mid]) :: (tkBk (d+1) b++((d,[Str.ofString "end"]) :: rest))))) fin:=by
 have hg:(gs++[(p1,bl++[lb])]).length=d+1:=by rw [List.length_append,hd];rfl
 have hg2:∀ f:Frm,(gs++[(p1,bl++[lb])]++[f]).length<=20:=fun f=>by rw [List.length_append,hg];show _+1<=_;omega
 have st1:Stx last (gs++[(p1,bl++[lb])]) d (tkO o) (wdO o) (gs++[(p1,bl++[lb])]++[(ptOp o,[[]])]):=.opn o hl hg.symm rfl rfl hro rfl
 refine .cons st1 (by omega) ?_
 refine ra (gs++[(p1,bl++[lb])]) (ptOp o) [] [] _ _ _ hg (by simp) (by simp;omega) st1.wd_ne fun w1 hw1=>?_
 rw [List.nil_append,List.nil_append]
 have hkd:kind∈[Str.ofString "choose",Str.ofString "if"]:=by rcases hm with ⟨_,rfl⟩ | ⟨_,rfl⟩<;>simp
 have st2:Stx w1 (gs++[(p1,bl++[lb])]++[(ptOp o,[stDs a])]) d [mid] mid (gs++[(p1,bl++[lb])]++[(ptOp o,[stDs a]++[[]])]):=.turn _ _ kind pr hw1 rfl hg.symm rfl ho h10 (by simp) (.inr ⟨hm,rfl,rfl⟩)
 refine .cons st2 (hg2 _) ?_
 refine rb (gs++[(p1,bl++[lb])]) (ptOp o) [stDs a] [] _ _ _ hg (by simp) (by simp;omega) st2.wd_ne fun w2 hw2=>?_
 rw [List.nil_append]
 have st3:Stx w2 (gs++[(p1,bl++[lb])]++[(ptOp o,[stDs a]++[stDs b])]) d [Str.ofString "end"] (Str.ofString "end") (gs++[(p1,bl++[lb++[.tup (ptOp o++[.tup (stDs a),.tup (stDs b)])]])]):=.turn _ _ kind pr hw2 rfl hg.symm rfl ho h10 (by simp) (.inl ⟨rfl,.inr ⟨hkd,rfl⟩,gs,p1,bl,lb,rfl,h100,rfl⟩)
 exact .cons st3 (hg2 _) (k _ st3.wd_ne)
theorem run_whl {r:Rw} {rs:List Rw} {m:Option (Sm × Int)} {b:List Stm} {d:Nat} {gs:List Frm} {p1:List D} {bl:List (List D)} {lb:List D} {last:Str} {rest:List LnT} {fin:List Frm} (hr:RdR r) (hrs:RdRs rs) (hm:∀ x,m=some x->RdS x.1/\0 < x.2/\B 65 x.2) (rb:BlkRun b (d+1)) (lb':b.length<=90) (hd:gs.length=d) (hd9:d<=10) (h4:bl.length<=4) (h100:lb.length<=100) (hl:¬ last=Str.ofString "")
  (k:∀ wd,¬ wd=Str.ofString "" -> Run wd (gs++[(p1,bl++[lb++[.tup [.str "while",rwD r,.tup (rs.map rwD),msD m,.tup (stDs b)]]])]) rest fin):Run last (gs++[(p1,bl++[lb])]) ((d,tkO (.whl r)) :: (tkK (d+1) rs++(tkF (d+1) m++(tkBk (d+1) b++((d,[Str.ofString "end"]) :: rest))))) fin:=by
 have hg:(gs++[(p1,bl++[lb])]).length=d+1:=by rw [List.length_append,hd];rfl
 have hg2:∀ f:Frm,(gs++[(p1,bl++[lb])]++[f]).length<=20:=fun f=>by rw [List.length_append,hg];show _+1<=_;omega
 have st1:Stx last (gs++[(p1,bl++[lb])]) d (tkO (.whl r)) (wdO (.whl r)) (gs++[(p1,bl++[lb])]++[([.str "while",rwD r,.tup [],.non],[[]])]):=.opn (.whl r) hl hg.symm rfl rfl hr rfl
 refine .cons st1 (by omega) ?_
 have blk:∀ w1:Str,¬ w1=Str.ofString "" -> Run w1 (gs++[(p1,bl++[lb])]++[([.str "while",rwD r,.tup (rs.map rwD),msD m],[[]])]) (tkBk (d+1) b++((d,[Str.ofString "end"]) :: rest)) fin:=fun w1 hw1=>by
  refine rb (gs++[(p1,bl++[lb])]) _ [] [] _ _ _ hg (by simp) (by simp;omega) hw1 fun w2 hw2=>?_
  rw [List.nil_append,List.nil_append]
  have st3:Stx w2 (gs++[(p1,bl++[lb])]++[([.str "while",rwD r,.tup (rs.map rwD),msD m],[stDs b])]) d [Str.ofString "end"] (Str.ofString "end") (gs++[(p1,bl++[lb++[.tup [.str "while",rwD r,.tup (rs.map rwD),msD m,.tup (stDs b)]]])]):=.turn _ _ (Str.ofString "while") _ hw2 rfl hg.symm rfl rfl (by simp) (by simp) (.inl ⟨rfl,.inl rfl,gs,p1,bl,lb,rfl,h100,rfl⟩)
  exact .cons st3 (hg2 _) (k _ st3.wd_ne)
 have fl:∀ w1:Str,w1∈[Str.ofString "while",Str.ofString "keep"]->Run w1 (gs++[(p1,bl++[lb])]++[([.str "while",rwD r,.tup (rs.map rwD),.non],[[]])]) (tkF (d+1) m++(tkBk (d+1) b++((d,[Str.ofString "end"]) :: rest))) fin:=fun w1 hw1=>by
  have hw0:∀ w∈[Str.ofString "while",Str.ofString "keep"],¬ w=Str.ofString "" := by decide +kernel
  cases m with
  | none=>exact blk w1 (hw0 _ hw1)
  | some x =>
   obtain ⟨z1,z2,z3⟩:=hm x rfl
   have st:Stx w1 (gs++[(p1,bl++[lb])]++[([.str "while",rwD r,.tup (rs.map rwD),.non],[[]])]) (d+1) (tkH (.fall x)) (wdH (.fall x)) (gs++[(p1,bl++[lb])]++[([.str "while",rwD r,.tup (rs.map rwD),msD (some x)],[[]])]):=.head (.fall x) _ _ (hw0 _ hw1) rfl hg.symm rfl rfl ⟨hw1,z1,z2,z3⟩ (by simp [ixH]) (by simp) rfl
   exact .cons st (hg2 _) (blk _ st.wd_ne)
 unfold tkK
 by_cases h0:rs=[]
 ·rw [if_pos h0,List.nil_append]
  subst h0
  exact fl _ (.head _)
 ·rw [if_neg h0]
  have st:Stx (wdO (.whl r)) (gs++[(p1,bl++[lb])]++[([.str "while",rwD r,.tup [],.non],[[]])]) (d+1) (tkH (.keep rs)) (wdH (.keep rs)) (gs++[(p1,bl++[lb])]++[([.str "while",rwD r,.tup (rs.map rwD),.non],[[]])]):=.head (.keep rs) _ _ st1.wd_ne rfl hg.symm rfl rfl ⟨rfl,h0,hrs⟩ (by simp [ixH]) (by simp) rfl
  exact .cons st (hg2 _) (fl _ (.tail _ (.head _)))
mutual
theorem run_S:∀ (s:Stm) (d:Nat) (gs:List Frm) (p1:List D) (bl:List (List D)) (lb:List D) (last:Str) (rest:List LnT) (fin:List Frm),RdSt s->gs.length=d->d+dp s<=10->bl.length<=4->lb.length<=100->¬ last=Str.ofString "" ->
  (∀ wd,¬ wd=Str.ofString "" -> Run wd (gs++[(p1,bl++[lb++[stD s]])]) rest fin)->Run last (gs++[(p1,bl++[lb])]) (tkSt d s++rest) fin
 | .set x s,d,gs,p1,bl,lb,last,rest,fin,hr,hd,hdp,h4,h100,hl,k=>by
  simp only [RdSt] at hr
  simp only [tkSt]
  have st:Stx last (gs++[(p1,bl++[lb])]) d (tkL (.set x s)) (wdL (.set x s)) _:=.plain (.set x s) gs p1 bl lb hl rfl hd.symm rfl rfl hr h100 (by omega) rfl
  exact .cons st (by rw [List.length_append,hd];simp;omega) (k _ st.wd_ne)
 | .any x,d,gs,p1,bl,lb,last,rest,fin,hr,hd,hdp,h4,h100,hl,k=>by
  simp only [RdSt] at hr
  simp only [tkSt]
  have st:Stx last (gs++[(p1,bl++[lb])]) d (tkL (.any x)) (wdL (.any x)) _:=.plain (.any x) gs p1 bl lb hl rfl hd.symm rfl rfl hr h100 (by omega) rfl
  exact .cons st (by rw [List.length_append,hd];simp;omega) (k _ st.wd_ne)
 | .note rs,d,gs,p1,bl,lb,last,rest,fin,hr,hd,hdp,h4,h100,hl,k=>by
  simp only [RdSt] at hr
  simp only [tkSt]
  have st:Stx last (gs++[(p1,bl++[lb])]) d (tkL (.note rs)) (wdL (.note rs)) _:=.plain (.note rs) gs p1 bl lb hl rfl hd.symm rfl rfl hr h100 (by omega) rfl
  exact .cons st (by rw [List.length_append,hd];simp;omega) (k _ st.wd_ne)
 | .choose a b,d,gs,p1,bl,lb,last,rest,fin,hr,hd,hdp,h4,h100,hl,k=>by
  simp only [RdSt] at hr
  simp only [dp] at hdp
  have e0:stD (.choose a b)=.tup [.str "choose",.tup (stDs a),.tup (stDs b)]:=by simp only [stD]
  have e1:tkSt d (.choose a b)++rest=(d,tkO .choose) :: (tkBk (d+1) a++((d,[Str.ofString "or"]) :: (tkBk (d+1) b++((d,[Str.ofString "end"]) :: rest)))):=by simp only [tkSt,List.cons_append,List.append_assoc,List.nil_append]
  rw [e0] at k
  rw [e1]
  exact run_two (o:=.choose) rfl trivial (.inl ⟨rfl,rfl⟩) (fun gs p1 bl lb last rest fin q1 q2 q3 q4 q5=>run_B a (d+1) gs p1 bl lb last rest fin hr.1 q1 (by omega) q2 q3 q4 q5) (fun gs p1 bl lb last rest fin q1 q2 q3 q4 q5=>run_B b (d+1) gs p1 bl lb last rest fin hr.2.1 q1 (by omega) q2 q3 q4 q5) hr.2.2.1 hr.2.2.2 (by simp [ptOp]) hd (by omega) h4 h100 hl k
 | .ite r a b,d,gs,p1,bl,lb,last,rest,fin,hr,hd,hdp,h4,h100,hl,k=>by
  simp only [RdSt] at hr
  simp only [dp] at hdp
  have e0:stD (.ite r a b)=.tup [.str "if",rwD r,.tup (stDs a),.tup (stDs b)]:=by simp only [stD]
  have e1:tkSt d (.ite r a b)++rest=(d,tkO (.ite r)) :: (tkBk (d+1) a++((d,[Str.ofString "else"]) :: (tkBk (d+1) b++((d,[Str.ofString "end"]) :: rest)))):=by simp only [tkSt,List.cons_append,List.append_assoc,List.nil_append]
  rw [e0] at k
  rw [e1]
  exact run_two (o:=.ite r) rfl hr.1 (.inr ⟨rfl,rfl⟩) (fun gs p1 bl lb last rest fin q1 q2 q3 q4 q5=>run_B a (d+1) gs p1 bl lb last rest fin hr.2.1 q1 (by omega) q2 q3 q4 q5) (fun gs p1 bl lb last rest fin q1 q2 q3 q4 q5=>run_B b (d+1) gs p1 bl lb last rest fin hr.2.2.1 q1 (by omega) q2 q3 q4 q5) hr.2.2.2.1 hr.2.2.2.2 (by simp [ptOp]) hd (by omega) h4 h100 hl k
 | .whl r rs m b,d,gs,p1,bl,lb,last,rest,fin,hr,hd,hdp,h4,h100,hl,k=>by
  simp only [RdSt] at hr
  simp only [dp] at hdp
  have e0:stD (.whl r rs m b)=.tup [.str "while",rwD r,.tup (rs.map rwD),msD m,.tup (stDs b)]:=by simp only [stD]
  have e1:tkSt d (.whl r rs m b)++rest=(d,tkO (.whl r)) :: (tkK (d+1) rs++(tkF (d+1) m++(tkBk (d+1) b++((d,[Str.ofString "end"]) :: rest)))):=by simp only [tkSt,List.cons_append,List.append_assoc,List.nil_append]
  rw [e0] at k
  rw [e1]
  exact run_whl hr.1 hr.2.1 hr.2.2.1 (fun gs p1 bl lb last rest fin q1 q2 q3 q4 q5=>run_B b (d+1) gs p1 bl lb last rest fin hr.2.2.2.1 q1 (by omega) q2 q3 q4 q5) hr.2.2.2.2 hd (by omega) h4 h100 hl k
theorem run_B:∀ (b:List Stm) (d:Nat) (gs:List Frm) (p1:List D) (bl:List (List D)) (lb:List D) (last:Str) (rest:List LnT) (fin:List Frm),RdBk b->gs.length=d->d+dps b<=10->bl.length<=4->lb.length+b.length<=100->¬ last=Str.ofString "" ->
  (∀ wd,¬ wd=Str.ofString "" -> Run wd (gs++[(p1,bl++[lb++stDs b])]) rest fin)->Run last (gs++[(p1,bl++[lb])]) (tkBk d b++rest) fin
 | [],d,gs,p1,bl,lb,last,rest,fin,hr,hd,hdp,h4,h100,hl,k=>by
  simp only [stDs,List.append_nil] at k
  simp only [tkBk,List.nil_append]
  exact k _ hl
 | s :: r,d,gs,p1,bl,lb,last,rest,fin,hr,hd,hdp,h4,h100,hl,k=>by
  simp only [RdBk] at hr
  simp only [dps] at hdp
  rw [List.length_cons] at h100
  have e:tkBk d (s :: r)++rest=tkSt d s++(tkBk d r++rest):=by simp only [tkBk,List.append_assoc]
  rw [e]
  refine run_S s d gs p1 bl lb last _ fin hr.1 hd (by omega) h4 (by omega) hl fun wd hw=>?_
  refine run_B r d gs p1 bl (lb++[stD s]) wd _ fin hr.2 hd (by omega) h4 (by rw [List.length_append];show _+1+_<=_;omega) hw fun wd' hw'=>?_
  have e2:lb++[stD s]++stDs r=lb++stDs (s :: r):=by simp only [stDs,List.append_assoc,List.cons_append,List.nil_append]
  rw [e2]
  exact k wd' hw'
end
theorem run_plan {ss:List Str} {rs:List Rw} {b:List Stm} (h:RdPl ss rs b) (h6:ss.length<=6) (hd:dps b<=4) (hb:b.length<=24):Run (Str.ofString "") [] (tkHd ss rs++tkBk 0 b) [([nms ss,.tup (rs.map rwD)],[stDs b])]:=by
 have st1:Stx (Str.ofString "") [] 0 (Str.ofString "plan" :: ss) (Str.ofString "plan") [([nms ss,.tup []],[[]])]:=.plan ss rfl rfl rfl rfl rfl h.up h.pos h6 rfl
 refine .cons st1 (by simp) ?_
 have blk:∀ w1:Str,¬ w1=Str.ofString "" -> Run w1 [([nms ss,.tup (rs.map rwD)],[[]])] (tkBk 0 b) [([nms ss,.tup (rs.map rwD)],[stDs b])]:=fun w1 hw1=>by
  have:=run_B b 0 [] [nms ss,.tup (rs.map rwD)] [] [] w1 [] [([nms ss,.tup (rs.map rwD)],[stDs b])] h.bk rfl (by omega) (by simp) (by simp;omega) hw1 fun wd hw=>.nil _ _
  rw [List.append_nil] at this
  exact this
 by_cases h0:rs=[]
 ·rw [if_pos h0]
  subst h0
  exact blk _ st1.wd_ne
 ·rw [if_neg h0]
  have st2:Stx (Str.ofString "plan") [([nms ss,.tup []],[[]])] 0 (tkH (.given rs)) (wdH (.given rs)) [([nms ss,.tup (rs.map rwD)],[[]])]:=.head (.given rs) [] _ st1.wd_ne rfl rfl rfl rfl ⟨rfl,h0,h.rs⟩ (by simp [ixH]) (by simp) rfl
  exact .cons st2 (by simp) (blk _ st2.wd_ne)
def spReadP:SpD:=fun ds M Q=>∃ (ss:List Str) (rs:List Rw) (b:List Stm),ds=[.str (planT ss rs b)]/\ShOk ss rs b/\RdPl ss rs b/\∀ M',Ext M M'->Q (.tup [nms ss,.tup (rs.map rwD),.tup (stDs b)]) M'
theorem readP_of {ds:List D} {M:MH} {Q:DK} (h:spReadP ds M Q):spRead ds M Q:=by
 obtain ⟨ss,rs,b,rfl,hs,hr,q⟩:=h
 have e:hdP ss rs++lnB 0 b=(tkHd ss rs++tkBk 0 b).map lnT:=by rw [List.map_append,hd_tk,ln_tkB 0 b hr.bk]
 refine ⟨tkHd ss rs++tkBk 0 b,([nms ss,.tup (rs.map rwD)],[stDs b]),by rw [<- e];rfl,by unfold tkHd;simp,?_,fun x hx=>?_,run_plan hr hs.len hs.dp hs.bl,by simp,by simp,fun M' x=>q M' x⟩
 ·have:=ln_all_len hs
  rw [e,List.length_map] at this
  exact this
 ·exact hs.each _ (by rw [e];exact List.mem_map_of_mem hx)
def spLJoin:SpD:=fun ds M Q=>∃ ts w,ds=[trm ts,.int w]/\TOk ts w/\∀ M',Ext M M'->Q (.str (addT ts w)) M'
def fPl:D->D
 | .tup [.str n,.int k]=>.tup [.int k,.str (Str.ofString " " ++ n)]
 | d=>d
theorem fPl_all (ts:List (Str × Int)):((ts.map KA.tD).filter fun _=>true).map fPl=(ts.map fun t=>(t.2,Str.ofString " " ++ t.1)).map ptD:=by
 rw [List.filter_eq_self.mpr (by simp),List.map_map,List.map_map]
 rfl
theorem absL (i:Int):(if i < 0 then -i else i)=((i.natAbs:Nat):Int):=by split<;>omega
theorem cutL (xs:List D):D3.cutD xs (some 1) none=xs.drop 1:=by
 unfold D3.cutD
 rw [HT.sIx_none]
 have:HT.sIx xs.length 0 (some 1)=min 1 xs.length:=HT.sIx_nat ..
 rw [this]
 cases xs with
 | nil=>rfl
 | cons d r=>simp
section
variable {P:Program} {w:World} {K:PySem.W.Frag} {mg:Str->Option Value} {base:Heap} {f:Addr} {fd:FuncData}
local macro_rules | `(tactic| tm_at $s:str)=>namT ["_law_terms_here", "_law_whole", "_law_parts", "_law_line", "_law_weight", "_law_tail"] s
theorem ok_l_joined (F:Fun K "_law_joined" "_law_joined" s_l_joined f fd) (h_len:mg "len" = none) (h_str:mg "str" = none) (h_abs:mg "abs" = none) (h_int:mg "int" = none):FnOk P w K mg base CX0 1 f fd P_l_joined (liftSp K spLJoin):=by
 refine fn_D F sc_l_joined (fun ds M Q ⟨a,b,h,_⟩=>by subst h;rfl) fun cdv A outer s H EE ds M Q hr h=>?_
 have nd:=sc_l_joined.nd
 try (refine let_X ?_;intro X)
 obtain ⟨ts,wh,rfl,hk,q⟩:=h
 have hl:=hk.len
 refine exs_cons ?_
 with_reducible refine' ex_comp_tup 2 (own:=["_law_name", "_law_weight"]) (js:=[]) (N:=["_law_name", "_law_weight"]) (cl:=[]) ?T ?xe ?ca ?hN ?hj ?hy ?hyf ?hsw fPl (fun _=>true) ?_ ?hs
 case T=>exact compOk_plain (by decide +kernel) (by decide +kernel) rfl (by decide +kernel) rfl
 case xe=>rfl
 case ca=>rfl
 case hN=>exact nd
 case hj=>rfl
 case hy=>first | exact Or.inl rfl | exact Or.inr rfl
 case hyf=>exact .inl rfl
 case hsw=>rfl
 case hs=>(intro _;rfl)
 repeat tm_at "d"
 refine ⟨_,rfl,small (by rw [List.length_map];omega),?_,fun p0 hp0=>?_⟩
 ·rintro Y ⟨C',s',H',fp,rfl⟩ M' hM d hd
  obtain ⟨t,ht,rfl⟩:=List.mem_map.mp hd
  have nd2:(["_law_name", "_law_weight"] : List Str).Nodup:=by decide +kernel
  refine gv_tup rfl ?_
  refine gvs_cons ?_
  refine gv_name 0 nd2 ?_
  refine gvs_cons ?_
  refine gv_name 1 nd2 ?_
  refine gvs_nil ?_
  refine ⟨rfl,fun i d e=>by rcases i with _ | _ | i<;>simp [compG] at e,tvs_nil ⟨rfl,rfl⟩,fun _=>?_⟩
  repeat first | (refine ev_var 0 ?_) | (refine ev_var 1 ?_) | tm_at "d"
  refine add_ss (by rw [(hk.wt t ht).2.2.1];decide +kernel) ?_
  repeat tm_at "d"
  exact ⟨rfl,rfl⟩
 rw [fPl_all]
 refine exs_join (fun G' M'=>∃ p1,G'=[some (trm ts),some (.int wh),some (.ref p1),none,none,none]/\M' p1=some (.lst ((ptsT ts wh).map ptD))/\Ext M M') ?_ ?_
 ·have fin:wh≠0\/ts=[]->∀ p1 p2,mset M p0 (.lst ((ts.map fun t=>(t.2,Str.ofString " " ++ t.1)).map ptD)) p1=none->mset (mset M p0 (.lst ((ts.map fun t=>(t.2,Str.ofString " " ++ t.1)).map ptD))) p1 (.lst [.tup [.int wh,.str ""]]) p2=none->(mset (mset (mset M p0 (.lst ((ts.map fun t=>(t.2,Str.ofString " " ++ t.1)).map ptD))) p1 (.lst [.tup [.int wh,.str ""]])) p2 (.lst ((ts.map fun t=>(t.2,Str.ofString " " ++ t.1)).map ptD++[.tup [.int wh,.str ""]]))) p2=some (.lst ((ptsT ts wh).map ptD))/\Ext M (mset (mset (mset M p0 (.lst ((ts.map fun t=>(t.2,Str.ofString " " ++ t.1)).map ptD))) p1 (.lst [.tup [.int wh,.str ""]])) p2 (.lst ((ts.map fun t=>(t.2,Str.ofString " " ++ t.1)).map ptD++[.tup [.int wh,.str ""]]))):=fun hc p1 p2 h1 h2=>by
   refine ⟨?_,Ext.trans (ext_new hp0) (Ext.trans (ext_new h1) (ext_new h2))⟩
   rw [mset_same]
   unfold ptsT
   rw [if_pos hc,List.map_append]
   rfl
  repeat tm_at "d"
  refine ifN ?_ ?_
  ·intro hw
   refine ifT ?_
   repeat tm_at "d"
   intro p1 hp1
   refine add_ll (mset_old hp1 mset_same) mset_same (by rw [List.length_map,List.length_map];exact small (by show _+1<=1000;omega)) fun p2 hp2=>?_
   repeat tm_at "d"
   obtain ⟨g1,g2⟩:=fin (.inl hw) p1 p2 hp1 hp2
   exact ⟨p2,rfl,g1,g2⟩
  ·intro hw
   refine tw_or1 ?_
   repeat tm_at "d"
   refine eq_nil hk.imm (Nat.le_trans (depth_trm ts) (by decide)) ?_
   refine ifD ?_ ?_
   ·intro h0
    have h0:ts=[]:=List.map_eq_nil_iff.mp h0
    repeat tm_at "d"
    intro p1 hp1
    refine add_ll (mset_old hp1 mset_same) mset_same (by rw [List.length_map,List.length_map];exact small (by show _+1<=1000;omega)) fun p2 hp2=>?_
    repeat tm_at "d"
    obtain ⟨g1,g2⟩:=fin (.inr h0) p1 p2 hp1 hp2
    exact ⟨p2,rfl,g1,g2⟩
   ·intro h0
    repeat tm_at "d"
    refine ⟨p0,rfl,?_,ext_new hp0⟩
    rw [mset_same]
    unfold ptsT
    rw [if_neg (fun z=>z.elim (fun y=>y hw) fun y=>h0 (by rw [y];rfl)),List.append_nil]
 rintro G1 M1 ⟨p0,rfl,h1,e1⟩
 have hp:=hk.pts
 generalize hL:ptsT ts wh=L at h1 hp
 have hq:addT ts wh=addP L:=by rw [<- hL];rfl
 rw [hq] at q
 clear hL hq
 obtain ⟨p,r,rfl⟩:∃ p r,L=p :: r:=by
  cases L with
  | nil=>exact absurd rfl hp.ne
  | cons p r=>exact ⟨p,r,rfl⟩
 have hpp:=hp.ok p (List.mem_cons_self ..)
 have hpl:=hp.len
 rw [List.length_cons] at hpl
 repeat first | tm_at "d" | refine exs_cons ?_
 refine ix_al (d:=.tup [.int p.1,.str p.2]) h1 (atI_nat (j:=0) rfl) ?_
 repeat tm_at "d"
 refine ⟨log_of hpp.1 (by decide),?_⟩
 repeat tm_at "d"
 refine ix_al (d:=.tup [.int p.1,.str p.2]) h1 (atI_nat (j:=0) rfl) ?_
 repeat tm_at "d"
 have hn:=nT_len hpp.1 (by decide)
 refine add_ss (x:=nT p.1) (by omega) ?_
 repeat tm_at "d"
 refine exs_cons ?_
 with_reducible refine' ex_for_list ?n0 ?n1 ?_ ?n2
 case n0=>exact PassesOwn.never
 case n1=>rfl
 case n2=>(intro _;rfl)
 refine ev_slice sl_list ?_
 repeat tm_at "d"
 refine ov_some ?_
 repeat tm_at "d"
 refine ov_none ?_
 refine rs_list rfl (Or.inl h1) fun p1 hp1=>?_
 rw [cutL,List.map_cons,List.drop_succ_cons,List.drop_zero]
 have e2:Ext M (mset M1 p1 (.lst (r.map ptD))):=Ext.trans e1 (ext_new hp1)
 have h2:mset M1 p1 (.lst (r.map ptD)) p1=some (.lst (r.map ptD)):=mset_same
 generalize mset M1 p1 (.lst (r.map ptD))=M2 at e2 h2 ⊢
 clear hp1 h1 e1
 refine ⟨p1,r.map ptD,fun i G' M'=>∃ r4 r5:Option D,G'=[some (trm ts),some (.int wh),some (.ref p0),some (.str (onT (nT p.1++p.2) (r.take i))),r4,r5]/\M' p1=some (.lst (r.map ptD))/\Ext M M',rfl,Or.inl h2,⟨none,none,rfl,h2,e2⟩,?_,?_,?_⟩
 ·rintro i G' M' hi ⟨r4,r5,rfl,h,_⟩
  rw [h,h2]
 ·rintro i d G' M' hd ⟨r4,r5,rfl,hm,hx'⟩
  rw [List.getElem?_map] at hd
  cases hri:r[i]? with
  | none=>rw [hri] at hd;cases hd
  | some x =>
   rw [hri] at hd
   have hd:D.tup [.int x.1,.str x.2]=d:=by simpa [ptD] using hd
   subst hd
   have hx:=hp.ok x (List.mem_cons_of_mem _ (List.mem_of_getElem? hri))
   have hnz:=hp.nz x (by simpa using List.mem_of_getElem? hri)
   have bx:Bd x.1 64:=⟨hx.1⟩
   have hil:i < r.length:=(List.getElem?_eq_some_iff.mp hri).1
   have htl:=onT_len (r.take i) (nT p.1++p.2) fun y hy=>hp.ok y (List.mem_cons_of_mem _ (List.mem_of_mem_take hy))
   have h5:(r.take i).length * 1926<=5 * 1926:=Nat.mul_le_mul_right _ (by rw [List.length_take];omega)
   rw [slen] at htl
   have hsg:(sgT x.1).length=3:=by unfold sgT;split<;>decide +kernel
   have hna:(nT ((x.1.natAbs:Nat):Int)).length<=1921:=nT_len (n:=64) (by show ((x.1.natAbs:Nat):Int).natAbs < 2 ^ 64;rw [Int.natAbs_natCast];exact hx.1) (by decide)
   have htk:r.take (i+1)=r.take i++[x]:=by rw [List.take_add_one,hri];rfl
   generalize hT:onT (nT p.1++p.2) (r.take i)=T at htl ⊢
   refine gv_tup rfl ?_
   refine gvs_cons ?_
   refine gv_name 4 nd ?_
   try (refine let_E ?_;intro EL)
   refine gvs_cons ?_
   refine gv_name 5 nd ?_
   try (refine let_E ?_;intro EL)
   refine gvs_nil ?_
   refine let_E ?_
   intro EL
   refine exs_one ?_
   repeat tm_at "d"
   intro p3 hp3
   repeat tm_at "d"
   refine .inr ⟨_,rfl,?_⟩
   refine ix_al (d:=.str (sgT x.1)) mset_same ?_ ?_
   ·by_cases hc:x.1 < 0
    ·have z:sgT x.1=Str.ofString " - " := if_neg (by omega)
     rw [decide_eq_true hc,z];rfl
    ·have z:sgT x.1=Str.ofString " + " := if_pos (by omega)
     rw [decide_eq_false hc,z];rfl
   refine add_ss (by omega) ?_
   repeat tm_at "d"
   rw [absL]
   refine ⟨log_of (n:=64) (by show ((x.1.natAbs:Nat):Int).natAbs < 2 ^ 64;rw [Int.natAbs_natCast];exact hx.1) (by decide),?_⟩
   refine add_ss (y:=nT ((x.1.natAbs:Nat):Int)) (by rw [slen];omega) ?_
   repeat tm_at "d"
   have hx2:=hx.2
   refine add_ss (by rw [slen,slen];omega) ?_
   repeat tm_at "d"
   exact ⟨_,_,by rw [htk,onT_snoc,hT];rfl,mset_old hp3 hm,Ext.trans hx' (ext_new hp3)⟩
 ·rintro G' M' ⟨r4,r5,rfl,_,hx'⟩
  rw [List.length_map,List.take_length]
  repeat tm_at "d"
  exact q _ hx'
end
def spLSum:SpD:=fun ds M Q=>∃ s,ds=[smD s]/\SOk s/\∀ M',Ext M M'->Q (.str (sumT s)) M'
def spLRows:SpD:=fun ds M Q=>∃ (rs:List Rw) (d:D),ds=[d]/\(d=.tup (rs.map rwD)\/∃ l,d=.ref l/\M l=some (.lst (rs.map rwD)))/\RsOk5 rs/\∀ M',Ext M M'->Q (.str (rowsT rs)) M'
def sgL (k:Bool):Str:=if k then " >= " else " > "
theorem row_eq (r:Rw):addT r.2.1 0++sgL r.1++nT r.2.2=rowT r:=by
 unfold rowT sgL sigT
 have e1:Str.ofString " " ++ (Str.ofString ">=" ++ Str.ofString " ")=Str.ofString " >= " := by decide +kernel
 have e2:Str.ofString " " ++ (Str.ofString ">" ++ Str.ofString " ")=Str.ofString " > " := by decide +kernel
 cases r.1
 ·rw [if_neg (by decide),if_neg (by decide),<- e2];simp only [sapp]
 ·rw [if_pos rfl,if_pos rfl,<- e1];simp only [sapp]
section
variable {P:Program} {w:World} {K:PySem.W.Frag} {mg:Str->Option Value} {base:Heap} {f:Addr} {fd:FuncData}
local macro_rules | `(tactic| tm_at $s:str)=>namT ["_law_total"] s
theorem ok_l_sum_line (F:Fun K "_law_sum_line" "_law_sum_line" s_l_sum_line f fd) (h_str:mg "str" = none) (C_l_joined:Cal P w K mg base 1 "_law_joined" spLJoin):FnOk P w K mg base CX0 2 f fd P_l_sum_line (liftSp K spLSum):=by
 refine fn_D F sc_l_sum_line (fun ds M Q ⟨a,h,_⟩=>by subst h;rfl) fun cdv A outer s H EE ds M Q hr h=>?_
 have nd:=sc_l_sum_line.nd
 try (refine let_X ?_;intro X)
 obtain ⟨s,rfl,hk,q⟩:=h
 have e0:smD s=.tup [trm s.1,.int s.2.1,.int s.2.2]:=rfl
 rw [e0]
 have h1:=hk.1.al
 have h4:(Str.ofString " over ").length=6:=by decide +kernel
 have h2:=nT_len hk.2.2 (by decide)
 have hpos:=hk.2.1
 refine exs_cons ?_
 repeat tm_at "d"
 refine ifD ?_ ?_
 ·intro hc
  repeat tm_at "d"
  refine ⟨s.1,s.2.1,rfl,hk.1,fun M1 e1=>?_⟩
  have q:=q M1 e1
  unfold sumT at q
  rw [if_neg (by omega)] at q
  exact q
 ·intro hc
  repeat first | tm_at "d" | refine exs_cons ?_
  refine ⟨s.1,s.2.1,rfl,hk.1,fun M1 e1=>?_⟩
  repeat tm_at "d"
  refine add_ss (by omega) ?_
  repeat tm_at "d"
  refine ⟨log_of hk.2.2 (by decide),?_⟩
  refine add_ss (y:=nT s.2.2) (by rw [slen];omega) ?_
  have q:=q M1 e1
  unfold sumT at q
  rw [if_pos (by omega)] at q
  exact q
end
section
variable {P:Program} {w:World} {K:PySem.W.Frag} {mg:Str->Option Value} {base:Heap} {f:Addr} {fd:FuncData}
local macro_rules | `(tactic| tm_at $s:str)=>namT ["_law_rows", "_law_lines_here", "_law_row_here"] s
local macro_rules | `(tactic| tm_at "bd")=>`(tactic| (
 rw [List.getElem?_map] at hd
 cases hri:rs[i]? with
 | none=>rw [hri] at hd;cases hd
 | some r =>
  rw [hri] at hd
  have hd:rwD r=d:=by simpa using hd
  subst hd
  have e0:rwD r=.tup [.str (word r.1),trm r.2.1,.int r.2.2]:=rfl
  rw [e0]
  have hrk:=hk.1 r (List.mem_of_getElem? hri)
  have a1:=hrk.1.al
  have a2:=nT_len hrk.2 (by decide)
  have a3:(sgL r.1).length<=4:=by unfold sgL;split<;>decide +kernel
  have htk:rs.take (i+1)=rs.take i++[r]:=by rw [List.take_add_one,hri];rfl
  refine gv_name 2 nd ?_
  try (refine let_E ?_;intro EL)
  refine let_E ?_
  intro EL
  refine exs_one ?_
  repeat tm_at "d"
  refine ⟨p0,rfl,⟨_,hm⟩,?_⟩
  repeat tm_at "d"
  refine ⟨r.2.1,0,rfl,hrk.1,fun M4 e4=>?_⟩
  repeat tm_at "d"
  intro p5 hp5
  repeat tm_at "d"
  refine .inr ⟨_,rfl,?_⟩
  refine ix_al (d:=.str (sgL r.1)) mset_same ?_ ?_
  ·cases hw:r.1
   ·have z:decide (word false=Str.ofString "least")=false:=by decide +kernel
    rw [z];rfl
   ·have z:decide (word true=Str.ofString "least")=true:=by decide +kernel
    rw [z];rfl
  refine add_ss (by omega) ?_
  repeat tm_at "d"
  refine ⟨log_of hrk.2 (by decide),?_⟩
  refine add_ss (y:=nT r.2.2) (by rw [slen];omega) ?_
  rw [row_eq]
  refine ⟨_,mset_old hp5 (e4 _ _ hm),small1000 (by rw [List.length_map,List.length_map,List.length_take];omega),?_⟩
  exact ⟨_,rfl,by rw [mset_same,htk,List.map_append,List.map_append];rfl,Ext.own (Ext.trans hx (Ext.trans e4 (ext_new hp5))) hp0⟩))
local macro_rules | `(tactic| tm_at "ed")=>`(tactic| (
 rw [List.length_map,List.take_length] at hm
 repeat tm_at "d"
 refine ⟨_,rfl,?_⟩
 repeat tm_at "d"
 refine ⟨p0,rs.map rowT,rfl,hm,?_,q _ hx⟩
 have h1:=sum_len (rs.map rowT) hk.mem
 have h2:(Str.ofString " and ").length=5:=by decide +kernel
 rw [List.length_map] at h1 ⊢
 rw [h2]
 have h4:rs.length * 14000<=3 * 14000:=Nat.mul_le_mul_right _ hl
 omega))
theorem ok_l_rows_line (F:Fun K "_law_rows_line" "_law_rows_line" s_l_rows_line f fd) (h_str:mg "str" = none) (h_int:mg "int" = none) (C_l_joined:Cal P w K mg base 1 "_law_joined" spLJoin):FnOk P w K mg base CX0 2 f fd P_l_rows_line (liftSp K spLRows):=by
 refine fn_D F sc_l_rows_line (fun ds M Q ⟨a,b,h,_⟩=>by subst h;rfl) fun cdv A outer s H EE ds M Q hr h=>?_
 have nd:=sc_l_rows_line.nd
 try (refine let_X ?_;intro X)
 obtain ⟨rs,d0,rfl,hd0,hk,q⟩:=h
 have hl:=hk.2
 refine exs_cons ?_
 repeat tm_at "d"
 intro p0 hp0
 rcases hd0 with rfl | ⟨l,rfl,hlm⟩
 ·refine exs_cons ?_
  with_reducible refine' ex_for_tup ?n0 ?n1 ?_ ?n2
  case n0=>exact PassesOwn.never
  case n1=>rfl
  case n2=>(intro _;rfl)
  repeat tm_at "d"
  refine ⟨rs.map rwD,fun i G' M'=>∃ r2:Option D,G'=[some (.tup (rs.map rwD)),some (.ref p0),r2]/\M' p0=some (.lst (((rs.take i).map rowT).map D.str))/\Ext M M',rfl,⟨none,rfl,mset_same,ext_new hp0⟩,?_,?_⟩
  ·rintro i d G' M' hd ⟨r2,rfl,hm,hx⟩
   tm_at "bd"
  ·rintro G' M' ⟨r2,rfl,hm,hx⟩
   tm_at "ed"
 ·refine exs_cons ?_
  with_reducible refine' ex_for_list ?n0 ?n1 ?_ ?n2
  case n0=>exact PassesOwn.never
  case n1=>rfl
  case n2=>(intro _;rfl)
  repeat tm_at "d"
  refine ⟨l,rs.map rwD,fun i G' M'=>∃ r2:Option D,G'=[some (.ref l),some (.ref p0),r2]/\M' p0=some (.lst (((rs.take i).map rowT).map D.str))/\Ext M M',rfl,Or.inl (mset_old hp0 hlm),⟨none,rfl,mset_same,ext_new hp0⟩,?_,?_,?_⟩
  ·rintro i G' M' hi ⟨r2,rfl,hm,hx⟩
   rw [mset_old hp0 hlm]
   exact hx _ _ hlm
  ·rintro i d G' M' hd ⟨r2,rfl,hm,hx⟩
   tm_at "bd"
  ·rintro G' M' ⟨r2,rfl,hm,hx⟩
   tm_at "ed"
end
section
variable {P:Program} {w:World} {K:PySem.W.Frag} {mg:Str->Option Value} {base:Heap} {f:Addr} {fd:FuncData}
local macro_rules | `(tactic| tm_at $s:str)=>namT ["_law_block_here", "_law_ahead", "_law_found", "_law_one"] s
theorem ok_l_lines {n k:Nat} (hk:1<=k) (F:Fun K "_law_lines" "_law_lines" s_l_lines f fd) (hC:0 < n->Cal P w K mg base k "_law_lines_of" (spLnS n)):FnOk P w K mg base CX0 (k+1) f fd P_l_lines (liftSp K (spLnB n)):=by
 refine fn_D F sc_l_lines (fun ds M Q ⟨a,b,h,_⟩=>by subst h;rfl) fun cdv A outer s H EE ds M Q hr h=>?_
 have nd:=sc_l_lines.nd
 try (refine let_X ?_;intro X)
 obtain ⟨b,d,rfl,hg,hdp,hd10,hw,q⟩:=h
 refine exs_cons ?_
 repeat tm_at "d"
 intro p0 hp0
 refine exs_cons ?_
 with_reducible refine' ex_for_tup ?n0 ?n1 ?_ ?n2
 case n0=>exact PassesOwn.never
 case n1=>rfl
 case n2=>(intro _;rfl)
 repeat tm_at "d"
 refine ⟨stDs b,fun i G' M'=>∃ (p:Addr) (r3:Option D),G'=[some (.tup (stDs b)),some (.str (ind d)),some (.ref p),r3]/\M p=none/\M' p=some (.lst ((lnB d (b.take i)).map D.str))/\Ext M M',rfl,⟨p0,none,rfl,hp0,by rw [mset_same,List.take_zero];simp only [lnB,List.map_nil],ext_new hp0⟩,?_,?_⟩
 ·rintro i v G' M' hv ⟨p,r3,rfl,hp,hm,hx⟩
  rw [stDs_map,List.getElem?_map] at hv
  cases hbi:b[i]? with
  | none=>rw [hbi] at hv;cases hv
  | some s =>
   rw [hbi] at hv
   have hv:stD s=v:=by simpa using hv
   subst hv
   have hs:=List.mem_of_getElem? hbi
   have h1:=dps_mem s hs
   have h2:1<=dp s:=by cases s<;>simp only [dp]<;>omega
   have C_l_lines_of:=hC (by omega)
   have htk:b.take (i+1)=b.take i++[s]:=by rw [List.take_add_one,hbi];rfl
   have hws:wB (b.take i++[s])<=wB b:=by rw [<- htk];exact wB_take b (i+1)
   have hwa:∀ l:List Stm,wB (l++[s])=wB l+wS s:=by
    intro l
    induction l with
    | nil=>simp [wB]
    | cons t r ih=>simp only [List.cons_append,wB,ih];omega
   rw [hwa] at hws
   have hl1:=lnB_len d (b.take i)
   have hl2:=lnS_len d s
   refine gv_name 3 nd ?_
   try (refine let_E ?_;intro EL)
   refine let_E ?_
   intro EL
   refine exs_one ?_
   repeat tm_at "d"
   refine ⟨s,d,rfl,gdB_mem hg s hs,by omega,hd10,by omega,fun q1 M1 hq1 h1 x1=>?_⟩
   refine addTo (x1 _ _ hm) h1 (zs:=(lnB d (b.take i)++lnS d s).map D.str) (by rw [List.map_append]) (by rw [List.length_map,List.length_append];omega) fun p2 M2 hp2 h2 x2=>?_
   repeat tm_at "d"
   exact ⟨p2,_,rfl,fresh_of (Ext.trans hx x1) hp2,by rw [h2,htk,lnB_snoc],Ext.trans hx (Ext.trans x1 x2)⟩
 ·rintro G' M' ⟨p,r3,rfl,hp,hm,hx⟩
  have e:(stDs b).length=b.length:=by rw [stDs_map,List.length_map]
  rw [e,List.take_length] at hm
  repeat tm_at "d"
  exact q p M' hp hm hx
end
theorem rows_one (r:Rw):rowsT [r]=rowT r:=KA.join_one _ _
theorem rsok_one {r:Rw} (h:ROk r):RsOk5 [r]:=⟨fun x hx=>by rw [List.mem_singleton.mp hx];exact h,by simp⟩
section
variable {P:Program} {w:World} {K:PySem.W.Frag} {mg:Str->Option Value} {base:Heap} {f:Addr} {fd:FuncData}
local macro_rules | `(tactic| tm_at $s:str)=>namT ["_law_one", "_law_ahead", "_law_within", "_law_found"] s
local macro_rules | `(tactic| tm_at "go")=>`(tactic| repeat first | tm_at "d" | refine ifDy rfl ?_ | refine ifDn (by decide) ?_ | refine exs_cons ?_)
theorem ok_l_lines_of {n k:Nat} (hk:2<=k) (F:Fun K "_law_lines_of" "_law_lines_of" s_l_lines_of f fd) (h_str:mg "str" = none) (C_l_sum_line:Cal P w K mg base 2 "_law_sum_line" spLSum) (C_l_rows_line:Cal P w K mg base 2 "_law_rows_line" spLRows) (C_l_lines:Cal P w K mg base k "_law_lines" (spLnB n)):FnOk P w K mg base CX0 (k+1) f fd P_l_lines_of (liftSp K (spLnS (n+1))):=by
 refine fn_D F sc_l_lines_of (fun ds M Q ⟨a,b,h,_⟩=>by subst h;rfl) fun cdv A outer s H EE ds M Q hr h=>?_
 have nd:=sc_l_lines_of.nd
 try (refine let_X ?_;intro X)
 obtain ⟨s,d,rfl,hg,hdp,hd10,hw,q⟩:=h
 have hi:=ind_len d
 have hi1:=ind_len (d+1)
 have e1:(Str.ofString "set ").length=4:=by decide +kernel
 have e2:(Str.ofString " = ").length=3:=by decide +kernel
 have e3:(Str.ofString "any ").length=4:=by decide +kernel
 have e4:(Str.ofString "note ").length=5:=by decide +kernel
 have e5:(Str.ofString "  ").length=2:=by decide +kernel
 have e6:(Str.ofString "choose").length=6:=by decide +kernel
 have e7:(Str.ofString "or").length=2:=by decide +kernel
 have e8:(Str.ofString "end").length=3:=by decide +kernel
 have e9:(Str.ofString "if ").length=3:=by decide +kernel
 have e10:(Str.ofString "else").length=4:=by decide +kernel
 have e11:(Str.ofString "while ").length=6:=by decide +kernel
 have e12:(Str.ofString "keep ").length=5:=by decide +kernel
 have e13:(Str.ofString "fall ").length=5:=by decide +kernel
 have e14:(Str.ofString " by ").length=4:=by decide +kernel
 cases s with
 | set x s =>
  have e0:stD (.set x s)=.tup [.str "set",.str x,smD s]:=by simp only [stD]
  rw [e0]
  have hh:=hg.h
  have h1:=hh.2.al
  have h2:=hh.1
  refine exs_cons ?_
  tm_at "go"
  refine add_ss (by omega) ?_
  repeat tm_at "d"
  refine add_ss (by rw [slen];omega) ?_
  repeat tm_at "d"
  refine add_ss (by rw [slen,slen];omega) ?_
  repeat tm_at "d"
  refine ⟨s,rfl,hh.2,fun M1 x1=>?_⟩
  refine add_ss (by rw [slen,slen,slen];omega) ?_
  repeat tm_at "d"
  intro p hp
  refine q p _ (fresh_of x1 hp) ?_ (Ext.trans x1 (ext_new hp))
  rw [mset_same]
  simp only [lnS,lineT,sapp,List.map_cons,List.map_nil]
 | any x =>
  have e0:stD (.any x)=.tup [.str "any",.str x]:=by simp only [stD]
  rw [e0]
  have h2:x.length=1:=hg.h
  refine exs_cons ?_
  tm_at "go"
  refine add_ss (by omega) ?_
  repeat tm_at "d"
  refine add_ss (by rw [slen];omega) ?_
  repeat tm_at "d"
  intro p hp
  refine q p _ hp ?_ (ext_new hp)
  rw [mset_same]
  simp only [lnS,lineT,sapp,List.map_cons,List.map_nil]
 | note rs =>
  have e0:stD (.note rs)=.tup [.str "note",.tup (rs.map rwD)]:=by simp only [stD]
  rw [e0]
  have hh:RsOk5 rs:=hg.h
  have h1:=hh.al
  refine exs_cons ?_
  tm_at "go"
  refine add_ss (by omega) ?_
  repeat tm_at "d"
  refine ⟨rs,_,rfl,.inl rfl,hh,fun M1 x1=>?_⟩
  refine add_ss (by rw [slen];omega) ?_
  repeat tm_at "d"
  intro p hp
  refine q p _ (fresh_of x1 hp) ?_ (Ext.trans x1 (ext_new hp))
  rw [mset_same]
  simp only [lnS,lineT,sapp,List.map_cons,List.map_nil]
 | choose a b =>
  have e0:stD (.choose a b)=.tup [.str "choose",.tup (stDs a),.tup (stDs b)]:=by simp only [stD]
  rw [e0]
  simp only [gdS] at hg
  simp only [dp] at hdp
  simp only [wS] at hw
  have la:=lnB_len (d+1) a
  have lb:=lnB_len (d+1) b
  refine exs_cons ?_
  tm_at "go"
  refine add_ss (by omega) ?_
  rw [ind_succ]
  tm_at "go"
  refine add_ss (by omega) ?_
  repeat tm_at "d"
  intro p1 hp1
  repeat tm_at "d"
  refine ⟨a,d+1,rfl,hg.2.1,by omega,by omega,by omega,fun q2 M2 hq2 h2 x2=>?_⟩
  have y2:=Ext.trans (ext_new (o:=.lst [.str (ind d++Str.ofString "choose")]) hp1) x2
  refine addTo (x2 _ _ mset_same) h2 (zs:=((ind d++Str.ofString "choose") :: lnB (d+1) a).map D.str) rfl (by rw [List.length_map,List.length_cons];omega) fun p3 M3 hp3 h3 x3=>?_
  repeat tm_at "d"
  refine add_ss (by omega) ?_
  repeat tm_at "d"
  intro p4 hp4
  have y4:=Ext.trans y2 (Ext.trans x3 (ext_new (o:=.lst [.str (ind d++Str.ofString "or")]) hp4))
  refine addTo (mset_old hp4 h3) mset_same (zs:=((ind d++Str.ofString "choose") :: lnB (d+1) a++[ind d++Str.ofString "or"]).map D.str) (by rw [List.map_append];rfl) (by rw [List.length_map,List.length_append,List.length_cons];show _+1+1<=_;omega) fun p5 M5 hp5 h5 x5=>?_
  have y5:=Ext.trans y4 x5
  clear y4 x5 hp4 hp5 x3 hp3 h3 y2 x2 h2 hq2 hp1
  repeat tm_at "d"
  refine ⟨b,d+1,rfl,hg.2.2,by omega,by omega,by omega,fun q6 M6 hq6 h6 x6=>?_⟩
  refine addTo (x6 _ _ h5) h6 (zs:=((ind d++Str.ofString "choose") :: lnB (d+1) a++[ind d++Str.ofString "or"]++lnB (d+1) b).map D.str) (by rw [<- List.map_append]) (by rw [List.length_map,List.length_append,List.length_append,List.length_cons];show _+1+1+_<=_;omega) fun p7 M7 hp7 h7 x7=>?_
  repeat tm_at "d"
  refine add_ss (by omega) ?_
  repeat tm_at "d"
  intro p8 hp8
  have y8:=Ext.trans y5 (Ext.trans x6 (Ext.trans x7 (ext_new (o:=.lst [.str (ind d++Str.ofString "end")]) hp8)))
  refine addTo (mset_old hp8 h7) mset_same (zs:=(lnS d (.choose a b)).map D.str) (by simp [lnS]) (by have:=lnS_len d (.choose a b);simp only [wS] at this;rw [List.length_map];omega) fun p9 M9 hp9 h9 x9=>?_
  exact q p9 M9 (fresh_of y8 hp9) h9 (Ext.trans y8 x9)
 | ite r a b =>
  have e0:stD (.ite r a b)=.tup [.str "if",rwD r,.tup (stDs a),.tup (stDs b)]:=by simp only [stD]
  rw [e0]
  simp only [gdS] at hg
  simp only [dp] at hdp
  simp only [wS] at hw
  have la:=lnB_len (d+1) a
  have lb:=lnB_len (d+1) b
  have ar:=hg.1.1.al
  refine exs_cons ?_
  tm_at "go"
  refine add_ss (by omega) ?_
  rw [ind_succ]
  tm_at "go"
  refine add_ss (by omega) ?_
  repeat tm_at "d"
  intro p0 hp0
  repeat tm_at "d"
  refine ⟨[r],_,rfl,.inr ⟨p0,rfl,mset_same⟩,rsok_one hg.1.1,fun M0 x0=>?_⟩
  rw [rows_one]
  refine add_ss (by rw [slen];omega) ?_
  repeat tm_at "d"
  intro p1 hp1
  have y1:=Ext.trans (ext_new (o:=.lst [rwD r]) hp0) (Ext.trans x0 (ext_new (o:=.lst [.str (ind d++Str.ofString "if " ++ rowT r)]) hp1))
  repeat tm_at "d"
  refine ⟨a,d+1,rfl,hg.2.1,by omega,by omega,by omega,fun q2 M2 hq2 h2 x2=>?_⟩
  have y2:=Ext.trans y1 x2
  refine addTo (x2 _ _ mset_same) h2 (zs:=((ind d++Str.ofString "if " ++ rowT r) :: lnB (d+1) a).map D.str) rfl (by rw [List.length_map,List.length_cons];omega) fun p3 M3 hp3 h3 x3=>?_
  have y3:=Ext.trans y2 x3
  clear y2 x3 hp3 x2 h2 hq2 y1 hp1 x0 hp0
  repeat tm_at "d"
  refine add_ss (by omega) ?_
  repeat tm_at "d"
  intro p4 hp4
  have y4:=Ext.trans y3 (ext_new (o:=.lst [.str (ind d++Str.ofString "else")]) hp4)
  refine addTo (mset_old hp4 h3) mset_same (zs:=((ind d++Str.ofString "if " ++ rowT r) :: lnB (d+1) a++[ind d++Str.ofString "else"]).map D.str) (by rw [List.map_append];rfl) (by rw [List.length_map,List.length_append,List.length_cons];show _+1+1<=_;omega) fun p5 M5 hp5 h5 x5=>?_
  have y5:=Ext.trans y4 x5
  clear y4 x5 hp4 hp5 y3 h3
  repeat tm_at "d"
  refine ⟨b,d+1,rfl,hg.2.2,by omega,by omega,by omega,fun q6 M6 hq6 h6 x6=>?_⟩
  refine addTo (x6 _ _ h5) h6 (zs:=((ind d++Str.ofString "if " ++ rowT r) :: lnB (d+1) a++[ind d++Str.ofString "else"]++lnB (d+1) b).map D.str) (by rw [<- List.map_append]) (by rw [List.length_map,List.length_append,List.length_append,List.length_cons];show _+1+1+_<=_;omega) fun p7 M7 hp7 h7 x7=>?_
  repeat tm_at "d"
  refine add_ss (by omega) ?_
  repeat tm_at "d"
  intro p8 hp8
  have y8:=Ext.trans y5 (Ext.trans x6 (Ext.trans x7 (ext_new (o:=.lst [.str (ind d++Str.ofString "end")]) hp8)))
  refine addTo (mset_old hp8 h7) mset_same (zs:=(lnS d (.ite r a b)).map D.str) (by simp [lnS,sapp]) (by have:=lnS_len d (.ite r a b);simp only [wS] at this;rw [List.length_map];omega) fun p9 M9 hp9 h9 x9=>?_
  exact q p9 M9 (fresh_of y8 hp9) h9 (Ext.trans y8 x9)
 | whl r rs m b =>
  have e0:stD (.whl r rs m b)=.tup [.str "while",rwD r,.tup (rs.map rwD),msD m,.tup (stDs b)]:=by simp only [stD]
  rw [e0]
  simp only [gdS] at hg
  simp only [dp] at hdp
  simp only [wS] at hw
  obtain ⟨hr1,hrs,hm,hb⟩:=(show ROk r/\RsOk5 rs/\(∀ x,m=some x->SOk x.1/\B 65 x.2)/\b.length<=100 from hg.1)
  have lb:=lnB_len (d+1) b
  have ar:=hr1.al
  have ars:=hrs.al
  have lk:=keepT_len rs
  have lf:=fallT_len m
  refine exs_cons ?_
  tm_at "go"
  refine add_ss (by omega) ?_
  rw [ind_succ]
  tm_at "go"
  refine add_ss (by omega) ?_
  repeat tm_at "d"
  intro p0 hp0
  repeat tm_at "d"
  refine ⟨[r],_,rfl,.inr ⟨p0,rfl,mset_same⟩,rsok_one hr1,fun M0 x0=>?_⟩
  rw [rows_one]
  refine add_ss (by rw [slen];omega) ?_
  repeat tm_at "d"
  intro p1 hp1
  have y0:=Ext.trans (ext_new (o:=.lst [rwD r]) hp0) x0
  have f1:=fresh_of y0 hp1
  have y1:=Ext.trans y0 (ext_new (o:=.lst [.str (ind d++Str.ofString "while " ++ rowT r)]) hp1)
  have h1:mset M0 p1 (.lst [.str (ind d++Str.ofString "while " ++ rowT r)]) p1=some (.lst ([ind d++Str.ofString "while " ++ rowT r].map D.str)):=mset_same
  generalize mset M0 p1 (.lst [.str (ind d++Str.ofString "while " ++ rowT r)])=M1 at h1 y1 ⊢
  clear y0 hp1 x0 hp0
  repeat tm_at "d"
  refine exs_join (fun G' M'=>G'=[some (.tup [.str "while",rwD r,.tup (rs.map rwD),msD m,.tup (stDs b)]),some (.str (ind d)),some (.str (ind (d+1))),some (.ref p1)]/\M' p1=some (.lst (([ind d++Str.ofString "while " ++ rowT r]++(keepT rs).map fun t=>ind (d+1)++t).map D.str))/\Ext M M') ?_ ?_
  ·repeat tm_at "d"
   refine eq_nil hrs.imm (dep_rs rs) ?_
   refine ifN ?_ ?_
   ·intro hc
    have hne:rs≠[]:=fun z=>hc (by rw [z];rfl)
    repeat tm_at "d"
    refine ⟨p1,rfl,⟨_,h1⟩,?_⟩
    repeat tm_at "d"
    refine add_ss (by omega) ?_
    repeat tm_at "d"
    refine ⟨rs,_,rfl,.inl rfl,hrs,fun M2 x2=>?_⟩
    refine add_ss (by rw [slen];omega) ?_
    refine ⟨_,x2 _ _ h1,small1000 (by simp),?_⟩
    refine ⟨rfl,?_,Ext.own (Ext.trans y1 x2) f1⟩
    unfold keepT
    rw [mset_same,if_neg hne]
    simp only [sapp,List.map_cons,List.map_nil,List.cons_append,List.nil_append]
   ·intro hc
    have hne:rs=[]:=List.map_eq_nil_iff.mp hc
    repeat tm_at "d"
    refine ⟨rfl,?_,y1⟩
    unfold keepT
    rw [if_pos hne]
    exact h1
  clear h1 y1
  rintro G2 M2 ⟨rfl,h2,y2⟩
  have hL:([ind d++Str.ofString "while " ++ rowT r]++(keepT rs).map fun t=>ind (d+1)++t).length<=2:=by
   rw [List.length_append,List.length_map];show 1+_<=2;omega
  generalize hLe:([ind d++Str.ofString "while " ++ rowT r]++(keepT rs).map fun t=>ind (d+1)++t)=L at h2 hL
  repeat tm_at "d"
  refine exs_join (fun G' M'=>G'=[some (.tup [.str "while",rwD r,.tup (rs.map rwD),msD m,.tup (stDs b)]),some (.str (ind d)),some (.str (ind (d+1))),some (.ref p1)]/\M' p1=some (.lst ((L++(fallT m).map fun t=>ind (d+1)++t).map D.str))/\Ext M M') ?_ ?_
  ·cases m with
   | none =>
    have e1:msD none=.non:=rfl
    rw [e1]
    repeat tm_at "d"
    refine ⟨rfl,?_,y2⟩
    show _=some (MO.lst ((L++[]).map D.str))
    rw [List.append_nil]
    exact h2
   | some y =>
    obtain ⟨hs,hy⟩:=hm y rfl
    have e1:msD (some y)=.tup [smD y.1,.int y.2]:=rfl
    rw [e1]
    have a3:=hs.al
    have a4:=nT_len hy (by decide)
    repeat tm_at "d"
    refine ⟨p1,rfl,⟨_,h2⟩,?_⟩
    repeat tm_at "d"
    refine add_ss (by omega) ?_
    repeat tm_at "d"
    refine ⟨y.1,rfl,hs,fun M3 x3=>?_⟩
    refine add_ss (by rw [slen];omega) ?_
    repeat tm_at "d"
    refine add_ss (by rw [slen,slen];omega) ?_
    repeat tm_at "d"
    refine ⟨log_of hy (by decide),?_⟩
    refine add_ss (y:=nT y.2) (by rw [slen,slen,slen];omega) ?_
    refine ⟨_,x3 _ _ h2,small1000 (by rw [List.length_map];omega),?_⟩
    refine ⟨rfl,?_,Ext.own (Ext.trans y2 x3) f1⟩
    rw [mset_same,List.map_append]
    simp only [fallT,sapp,List.map_cons,List.map_nil]
  clear h2 y2
  rintro G3 M3 ⟨rfl,h3,y3⟩
  repeat tm_at "d"
  refine ⟨b,d+1,rfl,hg.2,by omega,by omega,by omega,fun q6 M6 hq6 h6 x6=>?_⟩
  refine addTo (x6 _ _ h3) h6 (zs:=(L++((fallT m).map fun t=>ind (d+1)++t)++lnB (d+1) b).map D.str) (by rw [<- List.map_append]) (by rw [List.length_map,List.length_append,List.length_append,List.length_map];omega) fun p7 M7 hp7 h7 x7=>?_
  repeat tm_at "d"
  refine add_ss (by omega) ?_
  repeat tm_at "d"
  intro p8 hp8
  have y8:=Ext.trans y3 (Ext.trans x6 (Ext.trans x7 (ext_new (o:=.lst [.str (ind d++Str.ofString "end")]) hp8)))
  refine addTo (mset_old hp8 h7) mset_same (zs:=(lnS d (.whl r rs m b)).map D.str) (by rw [<- hLe];simp [lnS,sapp,hdT]) (by have:=lnS_len d (.whl r rs m b);simp only [wS] at this;rw [List.length_map];omega) fun p9 M9 hp9 h9 x9=>?_
  exact q p9 M9 (fresh_of y8 hp9) h9 (Ext.trans y8 x9)
end
section
variable {P:Program} {w:World} {K:PySem.W.Frag} {mg:Str->Option Value} {base:Heap} {f:Addr} {fd:FuncData}
local macro_rules | `(tactic| tm_at $s:str)=>namT ["_law_plan_here", "_law_found", "_law_name"] s
theorem ok_l_all_lines (F:Fun K "_law_all_lines" "_law_all_lines" s_l_all_lines f fd) (C_l_rows_line:Cal P w K mg base 2 "_law_rows_line" spLRows) (C_l_lines:Cal P w K mg base 11 "_law_lines" (spLnB 4)):FnOk P w K mg base CX0 12 f fd P_l_all_lines (liftSp K spAll):=by
 refine fn_D F sc_l_all_lines (fun ds M Q ⟨a,b,c,h,_⟩=>by subst h;rfl) fun cdv A outer s H EE ds M Q hr h=>?_
 have nd:=sc_l_all_lines.nd
 try (refine let_X ?_;intro X)
 obtain ⟨ss,rs,b,rfl,hk,q⟩:=h
 have hsl:=hk.len
 have e1:(Str.ofString " ").length=1:=by decide +kernel
 have e2:(Str.ofString "plan").length=4:=by decide +kernel
 have e6:(Str.ofString "given ").length=6:=by decide +kernel
 have a2:=hk.rs.al
 refine exs_cons ?_
 repeat tm_at "d"
 intro p0 hp0
 have en:nms ss=.tup (ss.map D.str):=rfl
 refine exs_cons ?_
 with_reducible refine' ex_for_tup ?n0 ?n1 ?_ ?n2
 case n0=>exact PassesOwn.never
 case n1=>rfl
 case n2=>(intro _;rfl)
 repeat tm_at "d"
 refine ⟨ss.map D.str,fun i G' M'=>∃ r2:Option D,G'=[some (.tup [nms ss,.tup (rs.map rwD),.tup (stDs b)]),some (.ref p0),r2]/\M' p0=some (.lst [.str (onJ (Str.ofString " ") (Str.ofString "plan") (ss.take i))])/\Ext M M',rfl,⟨none,rfl,mset_same,ext_new hp0⟩,?_,?_⟩
 ·rintro i v G' M' hv ⟨r2,rfl,hm,hx⟩
  rw [List.getElem?_map] at hv
  cases hsi:ss[i]? with
  | none=>rw [hsi] at hv;cases hv
  | some y =>
   rw [hsi] at hv
   have hv:D.str y=v:=by simpa using hv
   subst hv
   have hy:=hk.one y (List.mem_of_getElem? hsi)
   have htk:ss.take (i+1)=ss.take i++[y]:=by rw [List.take_add_one,hsi];rfl
   have hol:=onJ_len (Str.ofString " ") (B:=1) (ss.take i) (Str.ofString "plan") fun x hx=>Nat.le_of_eq (hk.one x (List.mem_of_mem_take hx))
   have h5:(ss.take i).length * ((Str.ofString " ").length+1)<=6 * 2:=by
    rw [e1]
    exact Nat.mul_le_mul_right _ (by rw [List.length_take];omega)
   refine gv_name 2 nd ?_
   try (refine let_E ?_;intro EL)
   refine let_E ?_
   intro EL
   refine exs_one ?_
   repeat tm_at "d"
   refine ix_al (d:=.str (onJ (Str.ofString " ") (Str.ofString "plan") (ss.take i))) hm (atI_nat (j:=0) rfl) ?_
   repeat tm_at "d"
   refine add_ss (by omega) ?_
   repeat tm_at "d"
   refine add_ss (by rw [slen];omega) ?_
   repeat tm_at "d"
   refine set_ll hm (j:=0) rfl ?_
   exact ⟨_,rfl,by rw [mset_same,htk,onJ_snoc];rfl,Ext.own hx hp0⟩
 ·rintro G' M' ⟨r2,rfl,hm,hx⟩
  rw [List.length_map,List.take_length] at hm
  refine exs_join (fun G2 M2=>G2=[some (.tup [nms ss,.tup (rs.map rwD),.tup (stDs b)]),some (.ref p0),r2]/\M2 p0=some (.lst ((hdP ss rs).map D.str))/\Ext M M2) ?_ ?_
  ·repeat tm_at "d"
   refine eq_nil hk.rs.imm (dep_rs rs) ?_
   refine ifN ?_ ?_
   ·intro hc
    have hne:rs≠[]:=fun z=>hc (by rw [z];rfl)
    repeat tm_at "d"
    refine ⟨p0,rfl,⟨_,hm⟩,?_⟩
    repeat tm_at "d"
    refine ⟨rs,_,rfl,.inl rfl,hk.rs,fun M2 x2=>?_⟩
    refine add_ss (by omega) ?_
    refine ⟨_,x2 _ _ hm,small1000 (by simp),?_⟩
    refine ⟨rfl,?_,Ext.own (Ext.trans hx x2) hp0⟩
    unfold hdP
    rw [mset_same,if_neg hne,join_onJ]
    rfl
   ·intro hc
    have hne:rs=[]:=List.map_eq_nil_iff.mp hc
    repeat tm_at "d"
    refine ⟨rfl,?_,hx⟩
    unfold hdP
    rw [if_pos hne,join_onJ]
    exact hm
  rintro G2 M2 ⟨rfl,h2,x2⟩
  have hws:=wB_le b
  have hss:=hk.s
  have hl0:=ln_all_len hk
  repeat tm_at "d"
  refine ⟨b,0,by rw [ind_zero],hk.gd,hk.dp,by decide,by omega,fun q6 M6 hq6 h6 x6=>?_⟩
  refine addTo (x6 _ _ h2) h6 (zs:=(hdP ss rs++lnB 0 b).map D.str) (by rw [List.map_append]) (by rw [List.length_map];omega) fun p7 M7 hp7 h7 x7=>?_
  exact q p7 M7 (fresh_of (Ext.trans x2 x6) hp7) h7 (Ext.trans x2 (Ext.trans x6 x7))
end
def spWildR:SpD:=fun ds M Q=>∃ (l:Addr) (ns:List Int),ds=[.ref l,.int 3]/\M l=some (.ro (ns.map D.int))/\ns.length<=63/\(∀ n∈ns,Cell n)/\∀ ss rs b M',ShOk ss rs b->RdPl ss rs b->Ext M M'->Q (.tup [nms ss,.tup (rs.map rwD),.tup (stDs b)]) M'
theorem letter_q:Letter (Str.ofString "q"):=⟨113,by decide,by decide,by decide +kernel⟩
theorem letter_d:Letter (Str.ofString "d"):=⟨100,by decide,by decide,by decide +kernel⟩
theorem letter_b:Letter (Str.ofString "b"):=⟨98,by decide,by decide,by decide +kernel⟩
theorem letter_m:Letter (Str.ofString "m"):=⟨109,by decide,by decide,by decide +kernel⟩
theorem letter_t:Letter (Str.ofString "t"):=⟨116,by decide,by decide,by decide +kernel⟩
theorem letters_qd (k:Nat):∀ x∈[Str.ofString "q",Str.ofString "d"].take k,Letter x:=fun x hx=>by
 have:=List.mem_of_mem_take hx
 simp only [List.mem_cons,List.not_mem_nil,or_false] at this
 rcases this with rfl | rfl
 ·exact letter_q
 ·exact letter_d
theorem letters_bmt (k:Nat):∀ x∈[Str.ofString "b",Str.ofString "m",Str.ofString "t"].take k,Letter x:=fun x hx=>by
 have:=List.mem_of_mem_take hx
 simp only [List.mem_cons,List.not_mem_nil,or_false] at this
 rcases this with rfl | rfl | rfl
 ·exact letter_b
 ·exact letter_m
 ·exact letter_t
section
variable {P:Program} {w:World} {K:PySem.W.Frag} {mg:Str->Option Value} {base:Heap} {f:Addr} {fd:FuncData}
local macro_rules | `(tactic| tm_at $s:str)=>namT ["_law_script", "_law_at", "_law_cell_here", "_law_names_here", "_law_others", "_law_plan_here"] s
local macro_rules | `(tactic| tm_at "sset")=>`(tactic| (
 with_reducible refine' ev_sortedSet ?n0 ?n1 ?_ ?n2 ?n3 ?n4
 (case n0=>rfl)
 (case n1=>exact hSorted)
 (case n2=>rfl)
 (case n3=>rfl)
 (case n4=>rfl)
 refine av_cons ?_ rfl
 with_reducible refine' ev_setT ?n0 ?n1 ?_ ?n2 ?n3 ?n4
 (case n0=>rfl)
 (case n1=>exact hSet)
 (case n2=>rfl)
 (case n3=>rfl)
 (case n4=>rfl)
 repeat (first | (with_reducible refine ev_addT ?_) | tm_at "d")
 refine ev_slice sl_all ?_
 repeat tm_at "d"
 refine ov_none ?_
 refine ov_some ?_
 repeat tm_at "d"))
theorem ok_l_wild (F:Fun K "_law_wild" "_law_wild" s_l_wild f fd) (h_tuple:mg "tuple" = none) (hSorted:mg "sorted" = none) (hSet:mg "set" = none) (C_l_cell:Cal P w K mg base 1 "_law_cell" spCell) (C_l_names:Cal P w K mg base 1 "_law_names" spNames) (C_l_plan:Cal P w K mg base 15 "_law_plan" spPlan):FnOk P w K mg base CX0 16 f fd P_l_wild (liftSp K spWildR):=by
 refine fn_D F sc_l_wild (fun ds M Q ⟨a,b,h,_⟩=>by subst h;rfl) fun cdv A outer s H EE ds M Q hr h=>?_
 have nd:=sc_l_wild.nd
 try (refine let_X ?_;intro X)
 obtain ⟨l,ns,rfl,hl,h63,hcell,q⟩:=h
 refine exs_cons ?_
 repeat tm_at "d"
 refine ⟨l,ns,_,rfl,hl,hcell,h63,by decide,fun c0 hc0=>?_⟩
 have bc:=hc0.bd
 repeat tm_at "d"
 refine ⟨_,rfl,hc0,fun ss0 M1 hss h3 k1=>?_⟩
 have hle:=hss.le
 repeat tm_at "d"
 tm_at "sset"
 have hm1:=fmod_lt (a:=c0.fdiv 78) (b:=3) (by decide)
 obtain ⟨k,hk⟩:∃ k:Nat,(c0.fdiv 78).fmod 3=(k:Int):=⟨((c0.fdiv 78).fmod 3).toNat,by omega⟩
 rw [hk]
 refine rs_tupA rfl ?_
 rw [cutK]
 have he1:([Str.ofString "q",Str.ofString "d"].take k).length<=2:=by rw [List.length_take];exact Nat.min_le_right ..
 have hmp:[D.str "q",D.str "d"].take k=([Str.ofString "q",Str.ofString "d"].take k).map D.str:=by rw [List.map_take];rfl
 rw [hmp]
 refine ⟨ss0.map D.str,_,rfl,rfl,small (by rw [List.length_map,List.length_map];omega),?_⟩
 repeat tm_at "d"
 refine ⟨ss0++[Str.ofString "q",Str.ofString "d"].take k,by rw [List.map_append],by rw [List.length_append];omega,fun r s2 hr2 hnd hl2 hmem=>?_⟩
 repeat tm_at "d"
 have hs2:=set_names hss h3 (letters_qd k) hmem hnd (List.Perm.refl s2)
 refine ⟨r,s2,rfl,mset_same,hs2.1,by omega,fun r2 ss1 hr3 hpm hso=>?_⟩
 repeat tm_at "d"
 refine ⟨_,rfl,_,mset_same,?_⟩
 have hn1:=set_names hss h3 (letters_qd k) hmem hnd hpm
 have U1:Up1 ss1:=up_of hn1.2.2.2.1 hn1.2.2.1 hso
 have N1:Names ss1:=⟨hn1.2.2.2.2.1,by omega,hn1.2.2.1,hn1.2.2.2.1⟩
 have k2:=Ext.trans k1 (Ext.trans (ext_new hr2) (ext_new (o:=.lst (ss1.map D.str)) hr3))
 generalize mset (mset M1 r _) r2 (.lst (ss1.map D.str))=M2 at k2 ⊢
 clear k1 hr2 hr3 hpm hso hs2 hnd hmem
 repeat tm_at "d"
 refine ev_slice sl_list ?_
 repeat tm_at "d"
 refine ov_some ?_
 repeat tm_at "d"
 refine ov_some ?_
 repeat tm_at "d"
 refine rs_list rfl (Or.inr (k2 _ _ hl)) fun p1 hp1=>?_
 have ec:D3.cutD (ns.map D.int) (some 3) (some (3+55))=((ns.take 58).drop 3).map D.int:=cut_mid ns 3 58
 rw [ec]
 have hcs:Cells ((ns.take 58).drop 3):=⟨by rw [List.length_drop,List.length_take];omega,fun x hx=>hcell x (List.mem_of_mem_take (List.mem_of_mem_drop hx))⟩
 repeat tm_at "d"
 refine ⟨l,ns,_,rfl,mset_old hp1 (k2 _ _ hl),hcell,h63,by decide,fun c1 hc1=>?_⟩
 repeat tm_at "d"
 refine ⟨p1,_,c1,ss1,rfl,mset_same,hcs,hc1,N1,fun p M3 hp hps e3=>?_⟩
 have k3:=Ext.trans k2 (Ext.trans (ext_new hp1) e3)
 clear k2 hp1 e3
 unfold plD
 repeat tm_at "d"
 tm_at "sset"
 have hm2:=fmod_lt (a:=c0.fdiv 234) (b:=4) (by decide)
 obtain ⟨k',hk'⟩:∃ k:Nat,(c0.fdiv 234).fmod 4=(k:Int):=⟨((c0.fdiv 234).fmod 4).toNat,by omega⟩
 rw [hk']
 refine rs_tupA rfl ?_
 rw [cutK]
 have he2:([Str.ofString "b",Str.ofString "m",Str.ofString "t"].take k').length<=3:=by rw [List.length_take];exact Nat.min_le_right ..
 have hmp2:[D.str "b",D.str "m",D.str "t"].take k'=([Str.ofString "b",Str.ofString "m",Str.ofString "t"].take k').map D.str:=by rw [List.map_take];rfl
 rw [hmp2]
 refine ⟨ss0.map D.str,_,rfl,rfl,small (by rw [List.length_map,List.length_map];omega),?_⟩
 repeat tm_at "d"
 refine ⟨ss0++[Str.ofString "b",Str.ofString "m",Str.ofString "t"].take k',by rw [List.map_append],by rw [List.length_append];omega,fun r4 s4 hr4 hnd hl4 hmem=>?_⟩
 repeat tm_at "d"
 have hs4:=set_names hss h3 (letters_bmt k') hmem hnd (List.Perm.refl s4)
 refine ⟨r4,s4,rfl,mset_same,hs4.1,by omega,fun r5 ss2 hr5 hpm hso=>?_⟩
 repeat tm_at "d"
 refine ⟨_,rfl,_,mset_same,?_⟩
 have hn2:=set_names hss h3 (letters_bmt k') hmem hnd hpm
 repeat tm_at "d"
 exact q ss2 p.rs p.bl _ (sh_of hp (by omega) fun x hx=>(hn2.2.2.2.1 x hx).len) (rdpl_of hp (by rw [hps];exact U1) (up_of hn2.2.2.2.1 hn2.2.2.1 hso) hn2.2.2.2.2.1) (Ext.trans k3 (Ext.trans (ext_new hr4) (ext_new hr5)))
end
def spLaw:SpD:=fun ds M Q=>∃ (l:Addr) (ns:List Int),ds=[.ref l]/\M l=some (.ro (ns.map D.int))/\ns.length<=63/\(∀ n∈ns,Cell n)/\∀ M',Q (.bl true) M'
theorem join_bound {ss:List Str} {rs:List Rw} {b:List Stm} (h:ShOk ss rs b):((hdP ss rs++lnB 0 b).map (·.length)).sum+(hdP ss rs++lnB 0 b).length * (Str.ofString "\n").length<=16777216:=by
 have h1:=sum_len _ h.each
 have h2:=ln_all_len h
 have e9:(Str.ofString "\n").length=1:=by decide +kernel
 rw [e9]
 have:(hdP ss rs++lnB 0 b).length * 60100<=130 * 60100:=Nat.mul_le_mul_right _ h2
 omega
section
variable {P:Program} {w:World} {K:PySem.W.Frag} {mg:Str->Option Value} {base:Heap} {f:Addr} {fd:FuncData}
local macro_rules | `(tactic| tm_at $s:str)=>namT ["_law_script", "_law_plan_here", "_law_found", "_law_other"] s
theorem ok_law (F:Fun K "law" "law" s_law f fd) (h_isinstance:mg "isinstance" = none) (h_tuple:mg "tuple" = none) (C_l_wild:Cal P w K mg base 16 "_law_wild" spWildR) (C_read:Cal P w K mg base 9 "read" spRead) (C_l_all_lines:Cal P w K mg base 12 "_law_all_lines" spAll) (C_l_cell:Cal P w K mg base 1 "_law_cell" spCell) :
  FnOk P w K mg base CX0 17 f fd P_law (liftSp K spLaw):=by
 refine fn_D F sc_law (fun ds M Q ⟨a,b,e,_⟩=>by subst e;rfl) fun cdv A outer s H EE ds M Q hr h=>?_
 have nd:=sc_law.nd
 try (refine let_X ?_;intro X)
 obtain ⟨l,ns,rfl,hl,h63,hcell,q⟩:=h
 refine exs_cons ?_
 repeat tm_at "d"
 refine ⟨l,ns,rfl,hl,h63,hcell,fun ss rs b M1 hk hrd x1=>?_⟩
 repeat first | tm_at "d" | refine exs_cons ?_
 refine ⟨_,rfl,?_⟩
 repeat tm_at "d"
 refine ⟨ss,rs,b,rfl,hk,fun q3 M3 hq3 h3 x3=>?_⟩
 refine ⟨q3,_,rfl,h3,join_bound hk,?_⟩
 have y3:=Ext.trans x1 x3
 clear x1 x3
 repeat tm_at "d"
 refine readP_of ⟨ss,rs,b,rfl,hk,hrd,fun M4 x4=>?_⟩
 have y4:=Ext.trans y3 x4
 clear y3 x4
 repeat first | tm_at "d" | refine exs_cons ?_
 refine ⟨_,_,_,_,rfl,rfl,kit_tt K,?_⟩
 refine ⟨_,rfl,?_⟩
 refine ifNT ?_
 refine tw_or1 ?_
 repeat tm_at "d"
 refine eq_self hrd.imm (dep_plan ss rs hk.dp) ?_
 refine ifNT ?_
 repeat first | tm_at "d" | refine exs_cons ?_
 refine ev_slice sl_all ?_
 repeat tm_at "d"
 refine ov_none ?_
 refine ov_some ?_
 repeat tm_at "d"
 refine rs_tupA rfl ?_
 have c1:D3.cutD (rs.map rwD) none (some 1)=(rs.take 1).map rwD:=by rw [show (1:Int)=((1:Nat):Int) from rfl,cutK,List.map_take]
 rw [c1]
 repeat tm_at "d"
 refine ev_slice sl_all ?_
 repeat tm_at "d"
 refine ov_none ?_
 refine ov_some ?_
 repeat tm_at "d"
 refine ⟨l,ns,_,rfl,y4 _ _ hl,hcell,h63,by decide,fun c2 hc2=>?_⟩
 have hm:=fmod_lt (a:=c2) (b:=4) (by decide)
 repeat tm_at "d"
 obtain ⟨k,hk4⟩:∃ k:Nat,c2.fmod 4=(k:Int):=⟨(c2.fmod 4).toNat,by omega⟩
 rw [hk4]
 refine rs_tupA rfl ?_
 have c2':D3.cutD (stDs b) none (some (k:Int))=stDs (b.take k):=by rw [cutK,stDs_map,stDs_map,List.map_take]
 rw [c2']
 have hk2:=hk.take 1 k
 have hr2:=hrd.take 1 k
 repeat tm_at "d"
 refine ⟨_,rfl,?_⟩
 repeat tm_at "d"
 refine ⟨ss,rs.take 1,b.take k,rfl,hk2,fun q6 M6 hq6 h6 x6=>?_⟩
 refine ⟨q6,_,rfl,h6,join_bound hk2,?_⟩
 repeat tm_at "d"
 refine readP_of ⟨ss,rs.take 1,b.take k,rfl,hk2,hr2,fun M7 x7=>?_⟩
 repeat tm_at "d"
 refine eq_self hr2.imm (dep_plan ss (rs.take 1) hk2.dp) ?_
 exact q M7
end
theorem lawSp:LawSp spLaw:=fun l ns M Q h1 h2 h3 q=>⟨l,ns,rfl,h1,h2,h3,q⟩
end K22
namespace K22
open PySem PySem.Spec PyProof.Rows L2 D3 K01 KA
structure Txt (K:PySem.W.Frag) (w:World) (aW C:Addr):Prop where
 a_l_purse:At K "_law_purse" s_l_purse
 a_l_take:At K "_law_take" s_l_take
 a_l_cell:At K "_law_cell" s_l_cell
 a_l_number:At K "_law_number" s_l_number
 a_l_terms:At K "_law_terms" s_l_terms
 a_l_sum:At K "_law_sum" s_l_sum
 a_l_names:At K "_law_names" s_l_names
 a_l_row:At K "_law_row" s_l_row
 a_l_next:At K "_law_next" s_l_next
 a_l_statement:At K "_law_statement" s_l_statement
 a_l_loop:At K "_law_loop" s_l_loop
 a_l_block:At K "_law_block" s_l_block
 a_l_plan:At K "_law_plan" s_l_plan
 a_must:At K "must" s_must
 a_is_name:At K "is_name" s_is_name
 a_is_above_nought:At K "is_above_nought" s_is_above_nought
 a_read_whole:At K "read_whole" s_read_whole
 a_read_weight:At K "read_weight" s_read_weight
 a_read_term:At K "read_term" s_read_term
 a_must_be_in_order:At K "must_be_in_order" s_must_be_in_order
 a_read_added:At K "read_added" s_read_added
 a_read_sum:At K "read_sum" s_read_sum
 a_read_measure:At K "read_measure" s_read_measure
 a_read_row:At K "read_row" s_read_row
 a_read_rows:At K "read_rows" s_read_rows
 a_read_names:At K "read_names" s_read_names
 a_read_plain:At K "read_plain" s_read_plain
 a_read_opening:At K "read_opening" s_read_opening
 a_read_heading:At K "read_heading" s_read_heading
 a_read_turning:At K "read_turning" s_read_turning
 a_read_line:At K "read_line" s_read_line
 a_read:At K "read" s_read
 a_l_joined:At K "_law_joined" s_l_joined
 a_l_sum_line:At K "_law_sum_line" s_l_sum_line
 a_l_rows_line:At K "_law_rows_line" s_l_rows_line
 a_l_lines:At K "_law_lines" s_l_lines
 a_l_lines_of:At K "_law_lines_of" s_l_lines_of
 a_l_all_lines:At K "_law_all_lines" s_l_all_lines
 a_l_wild:At K "_law_wild" s_l_wild
 a_law:At K "law" s_law
 g_MOST_ROWS:∃ v,PySem.W.nsIn K mainGlobals "MOST_ROWS" = some (some v)/\RelV (.int 2) v
 z_range:PySem.W.nsIn K mainGlobals "range" = some none
 z_abs:PySem.W.nsIn K mainGlobals "abs" = some none
 z_int:PySem.W.nsIn K mainGlobals "int" = some none
 z_len:PySem.W.nsIn K mainGlobals "len" = some none
 z_tuple:PySem.W.nsIn K mainGlobals "tuple" = some none
 z_sorted:PySem.W.nsIn K mainGlobals "sorted" = some none
 z_min:PySem.W.nsIn K mainGlobals "min" = some none
 z_all:PySem.W.nsIn K mainGlobals "all" = some none
 z_set:PySem.W.nsIn K mainGlobals "set" = some none
 z_enumerate:PySem.W.nsIn K mainGlobals "enumerate" = some none
 z_str:PySem.W.nsIn K mainGlobals "str" = some none
 z_isinstance:PySem.W.nsIn K mainGlobals "isinstance" = some none
 g_LETTERS:∃ v,PySem.W.nsIn K mainGlobals "LETTERS" = some (some v)/\RelV (.str "abcdefghijklmnopqrstuvwxyz") v
 g_FIGURES:∃ v,PySem.W.nsIn K mainGlobals "FIGURES" = some (some v)/\RelV (.str "0123456789") v
 g_STEP:∃ v,PySem.W.nsIn K mainGlobals "STEP" = some (some v)/\RelV (.str "  ") v
 p_W:PySem.W.nsIn K mainGlobals "WORDS" = some (some (.ref aW))
 d_W:Two K w aW ">=" "least" ">" "more"
 ne_W:(aW == sysModules)=false
 cl:ClsI K "Opened" C
 m_init:AtM K C "__init__" "Opened.__init__" s_Opened_init
 m_closed:AtM K C "closed" "Opened.closed" s_Opened_closed
 n_p:PySem.W.findIn K (.ref C) "parts" = some none
 n_b:PySem.W.findIn K (.ref C) "blocks" = some none
theorem all_mk {P:Program} {w:World} {K:PySem.W.Frag} {h:Heap} {mg:Str->Option Value} {fa aW C:Addr} (T:Txt K w aW C) (X:K.In h) (G:h.Ns mainGlobals mg) (hfa:mg "law" = some (.ref fa)) :
  ∃ fd:FuncData,(∀ (s:Shared) (v:Value),BindsTo s fd ⟨[v],[]⟩ [("_law_script",v)])/\∀ base:Heap,K.In base->base.Ns mainGlobals mg->FnOk P w K mg base CX0 17 fa fd P_law (liftSp K spLaw):=by
 obtain ⟨f_l_purse,d_l_purse,F_l_purse,m_l_purse⟩:=T.a_l_purse.get X G
 obtain ⟨f_l_take,d_l_take,F_l_take,m_l_take⟩:=T.a_l_take.get X G
 obtain ⟨f_l_cell,d_l_cell,F_l_cell,m_l_cell⟩:=T.a_l_cell.get X G
 obtain ⟨f_l_number,d_l_number,F_l_number,m_l_number⟩:=T.a_l_number.get X G
 obtain ⟨f_l_terms,d_l_terms,F_l_terms,m_l_terms⟩:=T.a_l_terms.get X G
 obtain ⟨f_l_sum,d_l_sum,F_l_sum,m_l_sum⟩:=T.a_l_sum.get X G
 obtain ⟨f_l_names,d_l_names,F_l_names,m_l_names⟩:=T.a_l_names.get X G
 obtain ⟨f_l_row,d_l_row,F_l_row,m_l_row⟩:=T.a_l_row.get X G
 obtain ⟨f_l_next,d_l_next,F_l_next,m_l_next⟩:=T.a_l_next.get X G
 obtain ⟨f_l_statement,d_l_statement,F_l_statement,m_l_statement⟩:=T.a_l_statement.get X G
 obtain ⟨f_l_loop,d_l_loop,F_l_loop,m_l_loop⟩:=T.a_l_loop.get X G
 obtain ⟨f_l_block,d_l_block,F_l_block,m_l_block⟩:=T.a_l_block.get X G
 obtain ⟨f_l_plan,d_l_plan,F_l_plan,m_l_plan⟩:=T.a_l_plan.get X G
 obtain ⟨f_must,d_must,F_must,m_must⟩:=T.a_must.get X G
 obtain ⟨f_is_name,d_is_name,F_is_name,m_is_name⟩:=T.a_is_name.get X G
 obtain ⟨f_is_above_nought,d_is_above_nought,F_is_above_nought,m_is_above_nought⟩:=T.a_is_above_nought.get X G
 obtain ⟨f_read_whole,d_read_whole,F_read_whole,m_read_whole⟩:=T.a_read_whole.get X G
 obtain ⟨f_read_weight,d_read_weight,F_read_weight,m_read_weight⟩:=T.a_read_weight.get X G
 obtain ⟨f_read_term,d_read_term,F_read_term,m_read_term⟩:=T.a_read_term.get X G
 obtain ⟨f_must_be_in_order,d_must_be_in_order,F_must_be_in_order,m_must_be_in_order⟩:=T.a_must_be_in_order.get X G
 obtain ⟨f_read_added,d_read_added,F_read_added,m_read_added⟩:=T.a_read_added.get X G
 obtain ⟨f_read_sum,d_read_sum,F_read_sum,m_read_sum⟩:=T.a_read_sum.get X G
 obtain ⟨f_read_measure,d_read_measure,F_read_measure,m_read_measure⟩:=T.a_read_measure.get X G
 obtain ⟨f_read_row,d_read_row,F_read_row,m_read_row⟩:=T.a_read_row.get X G
 obtain ⟨f_read_rows,d_read_rows,F_read_rows,m_read_rows⟩:=T.a_read_rows.get X G
 obtain ⟨f_read_names,d_read_names,F_read_names,m_read_names⟩:=T.a_read_names.get X G
 obtain ⟨f_read_plain,d_read_plain,F_read_plain,m_read_plain⟩:=T.a_read_plain.get X G
 obtain ⟨f_read_opening,d_read_opening,F_read_opening,m_read_opening⟩:=T.a_read_opening.get X G
 obtain ⟨f_read_heading,d_read_heading,F_read_heading,m_read_heading⟩:=T.a_read_heading.get X G
 obtain ⟨f_read_turning,d_read_turning,F_read_turning,m_read_turning⟩:=T.a_read_turning.get X G
 obtain ⟨f_read_line,d_read_line,F_read_line,m_read_line⟩:=T.a_read_line.get X G
 obtain ⟨f_read,d_read,F_read,m_read⟩:=T.a_read.get X G
 obtain ⟨f_l_joined,d_l_joined,F_l_joined,m_l_joined⟩:=T.a_l_joined.get X G
 obtain ⟨f_l_sum_line,d_l_sum_line,F_l_sum_line,m_l_sum_line⟩:=T.a_l_sum_line.get X G
 obtain ⟨f_l_rows_line,d_l_rows_line,F_l_rows_line,m_l_rows_line⟩:=T.a_l_rows_line.get X G
 obtain ⟨f_l_lines,d_l_lines,F_l_lines,m_l_lines⟩:=T.a_l_lines.get X G
 obtain ⟨f_l_lines_of,d_l_lines_of,F_l_lines_of,m_l_lines_of⟩:=T.a_l_lines_of.get X G
 obtain ⟨f_l_all_lines,d_l_all_lines,F_l_all_lines,m_l_all_lines⟩:=T.a_l_all_lines.get X G
 obtain ⟨f_l_wild,d_l_wild,F_l_wild,m_l_wild⟩:=T.a_l_wild.get X G
 obtain ⟨f_law,d_law,F_law,m_law⟩:=T.a_law.get X G
 have e:=hfa.symm.trans m_law
 cases e
 obtain ⟨v_MOST_ROWS,hv_MOST_ROWS,t_MOST_ROWS,rfl⟩:=T.g_MOST_ROWS
 have g_MOST_ROWS:mg "MOST_ROWS" = some (.int 2 t_MOST_ROWS):=PySem.W.mg_of X G hv_MOST_ROWS
 obtain ⟨v_LETTERS,hv_LETTERS,t_LETTERS,rfl⟩:=T.g_LETTERS
 have g_LETTERS:mg "LETTERS" = some (.str "abcdefghijklmnopqrstuvwxyz" t_LETTERS):=PySem.W.mg_of X G hv_LETTERS
 obtain ⟨v_FIGURES,hv_FIGURES,t_FIGURES,rfl⟩:=T.g_FIGURES
 have g_FIGURES:mg "FIGURES" = some (.str "0123456789" t_FIGURES):=PySem.W.mg_of X G hv_FIGURES
 obtain ⟨v_STEP,hv_STEP,t_STEP,rfl⟩:=T.g_STEP
 have g_STEP:mg "STEP" = some (.str "  " t_STEP):=PySem.W.mg_of X G hv_STEP
 have mW:mg "WORDS" = some (.ref aW):=PySem.W.mg_of X G T.p_W
 have mC:mg "Opened" = some (.ref C):=PySem.W.mg_of X G T.cl.ns
 have OK:OpK K C:=⟨T.cl.cls,T.n_p,T.n_b⟩
 obtain ⟨f_Oi,d_Oi,F_Oi,m_Oi⟩:=T.m_init.get
 obtain ⟨f_Oc,d_Oc,F_Oc,m_Oc⟩:=T.m_closed.get
 have b_Oi:=F_Oi.binds (ps:=P_Opened_init) fun _ _ _ _ _ _ us hl=>match us,hl with | [_,_],_=>rfl
 have b_Oc:=F_Oc.binds (ps:=P_Opened_closed) fun _ _ _ _ _ _ us hl=>match us,hl with | [_],_=>rfl
 have z_range:mg "range" = none:=PySem.W.mg_none_of X G T.z_range
 have z_abs:mg "abs" = none:=PySem.W.mg_none_of X G T.z_abs
 have z_int:mg "int" = none:=PySem.W.mg_none_of X G T.z_int
 have z_len:mg "len" = none:=PySem.W.mg_none_of X G T.z_len
 have z_tuple:mg "tuple" = none:=PySem.W.mg_none_of X G T.z_tuple
 have z_sorted:mg "sorted" = none:=PySem.W.mg_none_of X G T.z_sorted
 have z_min:mg "min" = none:=PySem.W.mg_none_of X G T.z_min
 have z_all:mg "all" = none:=PySem.W.mg_none_of X G T.z_all
 have z_set:mg "set" = none:=PySem.W.mg_none_of X G T.z_set
 have z_enumerate:mg "enumerate" = none:=PySem.W.mg_none_of X G T.z_enumerate
 have z_str:mg "str" = none:=PySem.W.mg_none_of X G T.z_str
 have z_isinstance:mg "isinstance" = none:=PySem.W.mg_none_of X G T.z_isinstance
 have b_l_purse:=F_l_purse.binds (ps:=P_l_purse) fun _ _ _ _ _ _ us hl=>match us,hl with | [_],_=>rfl
 have b_l_take:=F_l_take.binds (ps:=P_l_take) fun _ _ _ _ _ _ us hl=>match us,hl with | [_,_],_=>rfl
 have b_l_cell:=F_l_cell.binds (ps:=P_l_cell) fun _ _ _ _ _ _ us hl=>match us,hl with | [_,_],_=>rfl
 have b_l_number:=F_l_number.binds (ps:=P_l_number) fun _ _ _ _ _ _ us hl=>match us,hl with | [_],_=>rfl
 have b_l_terms:=F_l_terms.binds (ps:=P_l_terms) fun _ _ _ _ _ _ us hl=>match us,hl with | [_,_],_=>rfl
 have b_l_sum:=F_l_sum.binds (ps:=P_l_sum) fun _ _ _ _ _ _ us hl=>match us,hl with | [_,_],_=>rfl
 have b_l_names:=F_l_names.binds (ps:=P_l_names) fun _ _ _ _ _ _ us hl=>match us,hl with | [_],_=>rfl
 have b_l_row:=F_l_row.binds (ps:=P_l_row) fun _ _ _ _ _ _ us hl=>match us,hl with | [_,_],_=>rfl
 have b_l_next:=F_l_next.binds (ps:=P_l_next) fun _ _ _ _ _ _ us hl=>match us,hl with | [_],_=>rfl
 have b_l_statement:=F_l_statement.binds (ps:=P_l_statement) fun _ _ _ _ _ _ us hl=>match us,hl with | [_,_,_],_=>rfl
 have b_l_loop:=F_l_loop.binds (ps:=P_l_loop) fun _ _ _ _ _ _ us hl=>match us,hl with | [_,_,_,_],_=>rfl
 have b_l_block:=F_l_block.binds (ps:=P_l_block) fun _ _ _ _ _ _ us hl=>match us,hl with | [_,_,_],_=>rfl
 have b_l_plan:=F_l_plan.binds (ps:=P_l_plan) fun _ _ _ _ _ _ us hl=>match us,hl with | [_,_,_],_=>rfl
 have b_must:=F_must.binds (ps:=P_must) fun _ _ _ _ _ _ us hl=>match us,hl with | [_,_],_=>rfl
 have b_is_name:=F_is_name.binds (ps:=P_is_name) fun _ _ _ _ _ _ us hl=>match us,hl with | [_],_=>rfl
 have b_is_above_nought:=F_is_above_nought.binds (ps:=P_is_above_nought) fun _ _ _ _ _ _ us hl=>match us,hl with | [_],_=>rfl
 have b_read_whole:=F_read_whole.binds (ps:=P_read_whole) fun _ _ _ _ _ _ us hl=>match us,hl with | [_,_],_=>rfl
 have b_read_weight:=F_read_weight.binds (ps:=P_read_weight) fun _ _ _ _ _ _ us hl=>match us,hl with | [_,_],_=>rfl
 have b_read_term:=F_read_term.binds (ps:=P_read_term) fun _ _ _ _ _ _ us hl=>match us,hl with | [_,_],_=>rfl
 have b_must_be_in_order:=F_must_be_in_order.binds (ps:=P_must_be_in_order) fun _ _ _ _ _ _ us hl=>match us,hl with | [_,_],_=>rfl
 have b_read_added:=F_read_added.binds (ps:=P_read_added) fun _ _ _ _ _ _ us hl=>match us,hl with | [_,_],_=>rfl
 have b_read_sum:=F_read_sum.binds (ps:=P_read_sum) fun _ _ _ _ _ _ us hl=>match us,hl with | [_,_],_=>rfl
 have b_read_measure:=F_read_measure.binds (ps:=P_read_measure) fun _ _ _ _ _ _ us hl=>match us,hl with | [_,_],_=>rfl
 have b_read_row:=F_read_row.binds (ps:=P_read_row) fun _ _ _ _ _ _ us hl=>match us,hl with | [_,_],_=>rfl
 have b_read_rows:=F_read_rows.binds (ps:=P_read_rows) fun _ _ _ _ _ _ us hl=>match us,hl with | [_,_],_=>rfl
 have b_read_names:=F_read_names.binds (ps:=P_read_names) fun _ _ _ _ _ _ us hl=>match us,hl with | [_,_],_=>rfl
 have b_read_plain:=F_read_plain.binds (ps:=P_read_plain) fun _ _ _ _ _ _ us hl=>match us,hl with | [_,_],_=>rfl
 have b_read_opening:=F_read_opening.binds (ps:=P_read_opening) fun _ _ _ _ _ _ us hl=>match us,hl with | [_,_],_=>rfl
 have b_read_heading:=F_read_heading.binds (ps:=P_read_heading) fun _ _ _ _ _ _ us hl=>match us,hl with | [_,_,_,_],_=>rfl
 have b_read_turning:=F_read_turning.binds (ps:=P_read_turning) fun _ _ _ _ _ _ us hl=>match us,hl with | [_,_,_],_=>rfl
 have b_read_line:=F_read_line.binds (ps:=P_read_line) fun _ _ _ _ _ _ us hl=>match us,hl with | [_,_,_,_],_=>rfl
 have b_read:=F_read.binds (ps:=P_read) fun _ _ _ _ _ _ us hl=>match us,hl with | [_],_=>rfl
 have b_l_joined:=F_l_joined.binds (ps:=P_l_joined) fun _ _ _ _ _ _ us hl=>match us,hl with | [_,_],_=>rfl
 have b_l_sum_line:=F_l_sum_line.binds (ps:=P_l_sum_line) fun _ _ _ _ _ _ us hl=>match us,hl with | [_],_=>rfl
 have b_l_rows_line:=F_l_rows_line.binds (ps:=P_l_rows_line) fun _ _ _ _ _ _ us hl=>match us,hl with | [_],_=>rfl
 have b_l_lines:=F_l_lines.binds (ps:=P_l_lines) fun _ _ _ _ _ _ us hl=>match us,hl with | [_,_],_=>rfl
 have b_l_lines_of:=F_l_lines_of.binds (ps:=P_l_lines_of) fun _ _ _ _ _ _ us hl=>match us,hl with | [_,_],_=>rfl
 have b_l_all_lines:=F_l_all_lines.binds (ps:=P_l_all_lines) fun _ _ _ _ _ _ us hl=>match us,hl with | [_],_=>rfl
 have b_l_wild:=F_l_wild.binds (ps:=P_l_wild) fun _ _ _ _ _ _ us hl=>match us,hl with | [_,_],_=>rfl
 refine ⟨d_law,?_,fun base _ _=>?_⟩
 ·obtain ⟨oc,od,kV,doc,pm,an,cdv,ct,osl,rfl,_,_⟩:=F_law.ex
  exact fun s v=>.of_eq rfl
 have C_l_purse:Cal P w K mg base 1 "_law_purse" (spPurse):=cal_D F_l_purse (ok_l_purse F_l_purse z_range z_abs) b_l_purse m_l_purse
 have C_l_take:Cal P w K mg base 1 "_law_take" (spTake):=cal_D F_l_take (ok_l_take F_l_take z_int) b_l_take m_l_take
 have C_l_cell:Cal P w K mg base 1 "_law_cell" (spCell):=cal_D F_l_cell (ok_l_cell F_l_cell z_len) b_l_cell m_l_cell
 have C_l_number:Cal P w K mg base 2 "_law_number" (spNumber):=cal_D F_l_number (ok_l_number F_l_number C_l_take) b_l_number m_l_number
 have C_l_terms:Cal P w K mg base 3 "_law_terms" (spTerms):=cal_D F_l_terms (ok_l_terms F_l_terms z_tuple C_l_number) b_l_terms m_l_terms
 have C_l_sum:Cal P w K mg base 4 "_law_sum" (spSum):=cal_D F_l_sum (ok_l_sum F_l_sum C_l_take C_l_terms C_l_number) b_l_sum m_l_sum
 have C_l_names:Cal P w K mg base 1 "_law_names" (spNames):=cal_D F_l_names (ok_l_names F_l_names z_tuple z_sorted z_range) b_l_names m_l_names
 have C_l_row:Cal P w K mg base 4 "_law_row" (spRow):=cal_D F_l_row (ok_l_row F_l_row C_l_take C_l_terms C_l_number) b_l_row m_l_row
 have C_l_next:Cal P w K mg base 2 "_law_next" (spNext):=cal_D F_l_next (ok_l_next F_l_next z_len C_l_purse) b_l_next m_l_next
 have C_l_statement4:Cal P w K mg base 5 "_law_statement" (spStmt 4):=cal_D F_l_statement (ok_l_statement (d:=4) (k:=4) (by decide) (by decide) (by decide) F_l_statement z_len z_tuple z_range z_min C_l_next C_l_take C_l_row C_l_sum (fun h=>absurd h (by decide)) (fun h=>absurd h (by decide))) b_l_statement m_l_statement
 have C_l_block4:Cal P w K mg base 6 "_law_block" (spBlock 4):=cal_D F_l_block (ok_l_block (d:=4) (k:=5) (by decide) F_l_block z_tuple z_range C_l_next C_l_take C_l_statement4) b_l_block m_l_block
 have C_l_loop3:Cal P w K mg base 7 "_law_loop" (spLoop 3):=cal_D F_l_loop (ok_l_loop (d:=3) (k:=6) (by decide) (by decide) (by decide) F_l_loop z_tuple z_range z_abs C_l_take C_l_row C_l_sum C_l_number C_l_block4) b_l_loop m_l_loop
 have C_l_statement3:Cal P w K mg base 8 "_law_statement" (spStmt 3):=cal_D F_l_statement (ok_l_statement (d:=3) (k:=7) (by decide) (by decide) (by decide) F_l_statement z_len z_tuple z_range z_min C_l_next C_l_take C_l_row C_l_sum (fun _=>C_l_loop3) (fun _=>C_l_block4.mono (by decide))) b_l_statement m_l_statement
 have C_l_block3:Cal P w K mg base 9 "_law_block" (spBlock 3):=cal_D F_l_block (ok_l_block (d:=3) (k:=8) (by decide) F_l_block z_tuple z_range C_l_next C_l_take C_l_statement3) b_l_block m_l_block
 have C_l_loop2:Cal P w K mg base 10 "_law_loop" (spLoop 2):=cal_D F_l_loop (ok_l_loop (d:=2) (k:=9) (by decide) (by decide) (by decide) F_l_loop z_tuple z_range z_abs C_l_take C_l_row C_l_sum C_l_number C_l_block3) b_l_loop m_l_loop
 have C_l_statement2:Cal P w K mg base 11 "_law_statement" (spStmt 2):=cal_D F_l_statement (ok_l_statement (d:=2) (k:=10) (by decide) (by decide) (by decide) F_l_statement z_len z_tuple z_range z_min C_l_next C_l_take C_l_row C_l_sum (fun _=>C_l_loop2) (fun _=>C_l_block3.mono (by decide))) b_l_statement m_l_statement
 have C_l_block2:Cal P w K mg base 12 "_law_block" (spBlock 2):=cal_D F_l_block (ok_l_block (d:=2) (k:=11) (by decide) F_l_block z_tuple z_range C_l_next C_l_take C_l_statement2) b_l_block m_l_block
 have C_l_loop1:Cal P w K mg base 13 "_law_loop" (spLoop 1):=cal_D F_l_loop (ok_l_loop (d:=1) (k:=12) (by decide) (by decide) (by decide) F_l_loop z_tuple z_range z_abs C_l_take C_l_row C_l_sum C_l_number C_l_block2) b_l_loop m_l_loop
 have C_l_statement1:Cal P w K mg base 14 "_law_statement" (spStmt 1):=cal_D F_l_statement (ok_l_statement (d:=1) (k:=13) (by decide) (by decide) (by decide) F_l_statement z_len z_tuple z_range z_min C_l_next C_l_take C_l_row C_l_sum (fun _=>C_l_loop1) (fun _=>C_l_block2.mono (by decide))) b_l_statement m_l_statement
 have C_l_plan:Cal P w K mg base 15 "_law_plan" (spPlan):=cal_D F_l_plan (ok_l_plan (k:=14) (by decide) F_l_plan z_tuple z_range z_len C_l_purse C_l_take C_l_row C_l_statement1) b_l_plan m_l_plan
 have C_must:Cal P w K mg base 1 "must" (spMustR):=cal_D F_must (ok_must F_must ) b_must m_must
 have C_is_name:Cal P w K mg base 1 "is_name" (spIsName):=cal_D F_is_name (ok_is_name F_is_name z_len g_LETTERS) b_is_name m_is_name
 have C_is_above_nought:Cal P w K mg base 1 "is_above_nought" (spAbove):=cal_D F_is_above_nought (ok_is_above_nought F_is_above_nought z_all g_FIGURES) b_is_above_nought m_is_above_nought
 have C_read_whole:Cal P w K mg base 2 "read_whole" (spWholeR):=cal_D F_read_whole (ok_read_whole F_read_whole z_int C_must C_is_above_nought) b_read_whole m_read_whole
 have C_read_weight:Cal P w K mg base 2 "read_weight" (spWeightR):=cal_D F_read_weight (ok_read_weight F_read_weight z_int C_must C_is_above_nought) b_read_weight m_read_weight
 have C_read_term:Cal P w K mg base 3 "read_term" (spTermR):=cal_D F_read_term (ok_read_term F_read_term C_must C_is_name C_read_weight) b_read_term m_read_term
 have C_must_be_in_order:Cal P w K mg base 2 "must_be_in_order" (spOrderR):=cal_D F_must_be_in_order (ok_must_be_in_order F_must_be_in_order z_sorted z_set C_must) b_must_be_in_order m_must_be_in_order
 have C_read_added:Cal P w K mg base 4 "read_added" (spAddedR):=cal_D F_read_added (ok_read_added F_read_added z_len z_range z_tuple C_must C_read_weight C_read_term C_must_be_in_order) b_read_added m_read_added
 have C_read_sum:Cal P w K mg base 5 "read_sum" (spSumR):=cal_D F_read_sum (ok_read_sum F_read_sum z_len C_must C_read_whole C_read_added) b_read_sum m_read_sum
 have C_read_measure:Cal P w K mg base 6 "read_measure" (spMeasR):=cal_D F_read_measure (ok_read_measure F_read_measure z_len C_must C_read_whole C_read_sum) b_read_measure m_read_measure
 have C_read_row:Cal P w K mg base 5 "read_row" (spRowR):=cal_D F_read_row (ok_read_row F_read_row z_len T.d_W T.ne_W mW C_must C_read_whole C_read_added) b_read_row m_read_row
 have C_read_rows:Cal P w K mg base 6 "read_rows" (spRowsR):=cal_D F_read_rows (ok_read_rows F_read_rows z_len z_tuple g_MOST_ROWS C_must C_read_row) b_read_rows m_read_rows
 have C_read_names:Cal P w K mg base 3 "read_names" (spNamesR):=cal_D F_read_names (ok_read_names F_read_names z_len z_all z_tuple C_must C_is_name C_must_be_in_order) b_read_names m_read_names
 have C_read_plain:Cal P w K mg base 7 "read_plain" (spPlainR):=cal_D F_read_plain (ok_read_plain F_read_plain z_len C_must C_is_name C_read_rows C_read_sum) b_read_plain m_read_plain
 have C_read_opening:Cal P w K mg base 6 "read_opening" (spOpenR):=cal_D F_read_opening (ok_read_opening F_read_opening z_len C_must C_read_row) b_read_opening m_read_opening
 have K_Opened:Kls P w K mg base 1 "Opened" C (spInitO C):=⟨⟨f_Oi,d_Oi,P_Opened_init,ok_Opened_init F_Oi OK,T.cl.mk_ m_Oi,b_Oi⟩,mC⟩
 have M_closed:CalM P w K mg base 1 C "closed" (spClosed C):=⟨T.cl.cls,f_Oc,d_Oc,P_Opened_closed,ok_Opened_closed F_Oc z_tuple OK,m_Oc,b_Oc⟩
 have C_read_heading:Cal P w K mg base 7 "read_heading" ((spHeading C)):=cal_D F_read_heading (ok_read_heading F_read_heading OK C_must C_read_rows C_read_measure) b_read_heading m_read_heading
 have C_read_turning:Cal P w K mg base 2 "read_turning" ((spTurn C)):=cal_D F_read_turning (ok_read_turning F_read_turning OK z_len C_must M_closed) b_read_turning m_read_turning
 have C_read_line:Cal P w K mg base 8 "read_line" ((spLine C)):=cal_D F_read_line (ok_read_line F_read_line OK z_len g_STEP K_Opened C_must C_read_names C_read_heading C_read_opening C_read_turning C_read_plain) b_read_line m_read_line
 have C_read:Cal P w K mg base 9 "read" (spRead):=cal_D F_read (ok_read F_read OK z_len z_enumerate C_must C_read_line M_closed) b_read m_read
 have C_l_joined:Cal P w K mg base 1 "_law_joined" (spLJoin):=cal_D F_l_joined (ok_l_joined F_l_joined z_len z_str z_abs z_int) b_l_joined m_l_joined
 have C_l_sum_line:Cal P w K mg base 2 "_law_sum_line" (spLSum):=cal_D F_l_sum_line (ok_l_sum_line F_l_sum_line z_str C_l_joined) b_l_sum_line m_l_sum_line
 have C_l_rows_line:Cal P w K mg base 2 "_law_rows_line" (spLRows):=cal_D F_l_rows_line (ok_l_rows_line F_l_rows_line z_str z_int C_l_joined) b_l_rows_line m_l_rows_line
 have C_l_lines0:Cal P w K mg base 3 "_law_lines" (spLnB 0):=cal_D F_l_lines (ok_l_lines (n:=0) (k:=2) (by decide) F_l_lines (fun h=>absurd h (by decide))) b_l_lines m_l_lines
 have C_l_lines_of1:Cal P w K mg base 4 "_law_lines_of" (spLnS 1):=cal_D F_l_lines_of (ok_l_lines_of (n:=0) (k:=3) (by decide) F_l_lines_of z_str C_l_sum_line C_l_rows_line C_l_lines0) b_l_lines_of m_l_lines_of
 have C_l_lines1:Cal P w K mg base 5 "_law_lines" (spLnB 1):=cal_D F_l_lines (ok_l_lines (n:=1) (k:=4) (by decide) F_l_lines (fun _=>C_l_lines_of1)) b_l_lines m_l_lines
 have C_l_lines_of2:Cal P w K mg base 6 "_law_lines_of" (spLnS 2):=cal_D F_l_lines_of (ok_l_lines_of (n:=1) (k:=5) (by decide) F_l_lines_of z_str C_l_sum_line C_l_rows_line C_l_lines1) b_l_lines_of m_l_lines_of
 have C_l_lines2:Cal P w K mg base 7 "_law_lines" (spLnB 2):=cal_D F_l_lines (ok_l_lines (n:=2) (k:=6) (by decide) F_l_lines (fun _=>C_l_lines_of2)) b_l_lines m_l_lines
 have C_l_lines_of3:Cal P w K mg base 8 "_law_lines_of" (spLnS 3):=cal_D F_l_lines_of (ok_l_lines_of (n:=2) (k:=7) (by decide) F_l_lines_of z_str C_l_sum_line C_l_rows_line C_l_lines2) b_l_lines_of m_l_lines_of
 have C_l_lines3:Cal P w K mg base 9 "_law_lines" (spLnB 3):=cal_D F_l_lines (ok_l_lines (n:=3) (k:=8) (by decide) F_l_lines (fun _=>C_l_lines_of3)) b_l_lines m_l_lines
 have C_l_lines_of4:Cal P w K mg base 10 "_law_lines_of" (spLnS 4):=cal_D F_l_lines_of (ok_l_lines_of (n:=3) (k:=9) (by decide) F_l_lines_of z_str C_l_sum_line C_l_rows_line C_l_lines3) b_l_lines_of m_l_lines_of
 have C_l_lines4:Cal P w K mg base 11 "_law_lines" (spLnB 4):=cal_D F_l_lines (ok_l_lines (n:=4) (k:=10) (by decide) F_l_lines (fun _=>C_l_lines_of4)) b_l_lines m_l_lines
 have C_l_all_lines:Cal P w K mg base 12 "_law_all_lines" (spAll):=cal_D F_l_all_lines (ok_l_all_lines F_l_all_lines C_l_rows_line C_l_lines4) b_l_all_lines m_l_all_lines
 have C_l_wild:Cal P w K mg base 16 "_law_wild" (spWildR):=cal_D F_l_wild (ok_l_wild F_l_wild z_tuple z_sorted z_set C_l_cell C_l_names C_l_plan) b_l_wild m_l_wild
 exact ok_law F_law z_isinstance z_tuple C_l_wild C_read C_l_all_lines C_l_cell
end K22
def PySem.W.Fast.tw10016313863858896731:Unit:=()
def PySem.W.Fast.tw17879241257176806093:Unit:=()
def PySem.W.Fast.tw13298169489826716040:Unit:=()
def PySem.W.Fast.tw8540271490813877094:Unit:=()
def PySem.W.Fast.tw7210999282039515768:Unit:=()
def PySem.W.Fast.tw17128389717290201518:Unit:=()
def PySem.W.Fast.tw3029466931286059892:Unit:=()
def PySem.W.Fast.tw17739516067926164162:Unit:=()
def PySem.W.Fast.tw5232441200338313269:Unit:=()
def PySem.W.Fast.tw3319114441059058594:Unit:=()
def PySem.W.Fast.tw16860338030184341817:Unit:=()
def PySem.W.Fast.tw5107532591836445103:Unit:=()
def PySem.W.Fast.tw5257918260197399934:Unit:=()
def PySem.W.Fast.tw15109937899947781789:Unit:=()
def PySem.W.Fast.tw18221514359486368523:Unit:=()
def PySem.W.Fast.tw9731871630473384221:Unit:=()
def PySem.W.Fast.tw3117337106814846805:Unit:=()
def PySem.W.Fast.tw5618975079203014145:Unit:=()
def PySem.W.Fast.tw3371477912810328259:Unit:=()
def PySem.W.Fast.tw13043914104867366076:Unit:=()
def PySem.W.Fast.tw8162831976537711346:Unit:=()
def PySem.W.Fast.tw9562744495599217905:Unit:=()
def PySem.W.Fast.tw15917259058211990738:Unit:=()
def PySem.W.Fast.tw9108330949001551928:Unit:=()
def PySem.W.Fast.tw5058410925898326722:Unit:=()
def PySem.W.Fast.tw15005791255221208896:Unit:=()
def PySem.W.Fast.tw15990432029625355067:Unit:=()
def PySem.W.Fast.tw4143505681636350279:Unit:=()
def PySem.W.Fast.tw7772763997748000898:Unit:=()
def PySem.W.Fast.tw18191674959735675722:Unit:=()
def PySem.W.Fast.tw8480937175775485718:Unit:=()
def PySem.W.Fast.tw1957892455249973415:Unit:=()
def PySem.W.Fast.tw10190578758202019660:Unit:=()
def PySem.W.Fast.tw15711150516828276737:Unit:=()
def PySem.W.Fast.tw6990826725139673036:Unit:=()
def PySem.W.Fast.tw10960554392681017318:Unit:=()
def PySem.W.Fast.tw836801408400690965:Unit:=()
def PySem.W.Fast.tw10928907848712169635:Unit:=()
def PySem.W.Fast.tw15580967140286971272:Unit:=()
def PySem.W.Fast.tw15332790582050314005:Unit:=()
def PySem.W.Fast.tw8512482135047314591:Unit:=()
def PySem.W.Fast.tw10032570912312018956:Unit:=()
def PySem.W.Fast.tw13227470934644014653:Unit:=()
def PySem.W.Fast.tw17904895898766457437:Unit:=()
def PySem.W.Fast.tw17042555312363868632:Unit:=()
def PySem.W.Fast.tw3971813402726293045:Unit:=()
def PySem.W.Fast.tw1313171198467767487:Unit:=()
def PySem.W.Fast.tw5654013990083628353:Unit:=()
def PySem.W.Fast.tw1953879654284141438:Unit:=()
def PySem.W.Fast.tw4299029201184340459:Unit:=()
def PySem.W.Fast.tw12137516976565935014:Unit:=()
def PySem.W.Fast.tw13530844544429538577:Unit:=()
def PySem.W.Fast.tw4788977461302894782:Unit:=()
def PySem.W.Fast.tw17444257606243133757:Unit:=()
def PySem.W.Fast.tw13286576486220779813:Unit:=()
def PySem.W.Fast.tw5532564941383864944:Unit:=()
def PySem.W.Fast.tw13890431161614468574:Unit:=()
def PySem.W.Fast.tw16928276030461413499:Unit:=()
def PySem.W.Fast.tw6122520896046161931:Unit:=()
def PySem.W.Fast.tw18205139735404254365:Unit:=()
def PySem.W.Fast.tw18281547161206178774:Unit:=()
def PySem.W.Fast.tw2738261752327781164:Unit:=()
def PySem.W.Fast.tw3323902640309870048:Unit:=()
def PySem.W.Fast.tw13877725530137174315:Unit:=()
def PySem.W.Fast.tw16129134711470434272:Unit:=()
def PySem.W.Fast.tw961506267292651350:Unit:=()
def PySem.W.Fast.tw3514009109848491122:Unit:=()
def PySem.W.Fast.tw15768023592600502017:Unit:=()
def PySem.W.Fast.tw7436255511721283724:Unit:=()
def PySem.W.Fast.tw15087809008744487761:Unit:=()
open PySem PySem.W PyProof.Rows
set_option maxRecDepth 100000 in
set_option maxHeartbeats 0 in
theorem PySem.Challenge.cw_notekeep_k22_read_holds : PySem.Challenge.rw_notekeep_k22_read.Holds := by
  w_on; o_law; k_head; (case hw => w_witness2)
  k_fill
  refine D3.walk_D (l := PySem.Challenge.rw_notekeep_k22_read) (k := 17) (sp := K22.spLaw) (x := "_law_script") rfl rfl ⟨rfl, by decide, by decide⟩ K22.lawSp (fun w h Y => PySem.W.kIn_of Y) ?F
  case F =>
    intro w mg fa h KX G hmg
    obtain ⟨aW, C, T⟩ : ∃ aW C, K22.Txt (L2.KOf KX) w aW C := by
      dsimp only [L2.KOf]
      refine' ⟨_, _, KA.At.mk ?a0 ?l0 ?c0 ?k0, KA.At.mk ?a1 ?l1 ?c1 ?k1, KA.At.mk ?a2 ?l2 ?c2 ?k2, KA.At.mk ?a3 ?l3 ?c3 ?k3, KA.At.mk ?a4 ?l4 ?c4 ?k4, KA.At.mk ?a5 ?l5 ?c5 ?k5, KA.At.mk ?a6 ?l6 ?c6 ?k6, KA.At.mk ?a7 ?l7 ?c7 ?k7, KA.At.mk ?a8 ?l8 ?c8 ?k8, KA.At.mk ?a9 ?l9 ?c9 ?k9, KA.At.mk ?a10 ?l10 ?c10 ?k10, KA.At.mk ?a11 ?l11 ?c11 ?k11, KA.At.mk ?a12 ?l12 ?c12 ?k12, KA.At.mk ?a13 ?l13 ?c13 ?k13, KA.At.mk ?a14 ?l14 ?c14 ?k14, KA.At.mk ?a15 ?l15 ?c15 ?k15, KA.At.mk ?a16 ?l16 ?c16 ?k16, KA.At.mk ?a17 ?l17 ?c17 ?k17, KA.At.mk ?a18 ?l18 ?c18 ?k18, KA.At.mk ?a19 ?l19 ?c19 ?k19, KA.At.mk ?a20 ?l20 ?c20 ?k20, KA.At.mk ?a21 ?l21 ?c21 ?k21, KA.At.mk ?a22 ?l22 ?c22 ?k22, KA.At.mk ?a23 ?l23 ?c23 ?k23, KA.At.mk ?a24 ?l24 ?c24 ?k24, KA.At.mk ?a25 ?l25 ?c25 ?k25, KA.At.mk ?a26 ?l26 ?c26 ?k26, KA.At.mk ?a27 ?l27 ?c27 ?k27, KA.At.mk ?a28 ?l28 ?c28 ?k28, KA.At.mk ?a29 ?l29 ?c29 ?k29, KA.At.mk ?a30 ?l30 ?c30 ?k30, KA.At.mk ?a31 ?l31 ?c31 ?k31, KA.At.mk ?a32 ?l32 ?c32 ?k32, KA.At.mk ?a33 ?l33 ?c33 ?k33, KA.At.mk ?a34 ?l34 ?c34 ?k34, KA.At.mk ?a35 ?l35 ?c35 ?k35, KA.At.mk ?a36 ?l36 ?c36 ?k36, KA.At.mk ?a37 ?l37 ?c37 ?k37, KA.At.mk ?a38 ?l38 ?c38 ?k38, KA.At.mk ?a39 ?l39 ?c39 ?k39, ⟨?t0, ?u0, ?r0⟩, ?z0, ?z1, ?z2, ?z3, ?z4, ?z5, ?z6, ?z7, ?z8, ?z9, ?z10, ?z11, ⟨?ts0, ?us0, ?rs0⟩, ⟨?ts1, ?us1, ?rs1⟩, ⟨?ts2, ?us2, ?rs2⟩, ?pW, D3.Two.mk' ?dW, ?nW, D3.ClsI.mk' ?e0 ?e1 ?e2 ?e3 ?e4 ?e5 ?e6, D3.AtM.mk ?i0 ?i1 ?i2 ?i3 ?i4, D3.AtM.mk ?j0 ?j1 ?j2 ?j3 ?j4, ?np, ?nb⟩
      (case a0 => k_is); (case l0 => k_is); (case c0 => k_is); (case k0 => k_is)
      (case a1 => k_is); (case l1 => k_is); (case c1 => k_is); (case k1 => k_is)
      (case a2 => k_is); (case l2 => k_is); (case c2 => k_is); (case k2 => k_is)
      (case a3 => k_is); (case l3 => k_is); (case c3 => k_is); (case k3 => k_is)
      (case a4 => k_is); (case l4 => k_is); (case c4 => k_is); (case k4 => k_is)
      (case a5 => k_is); (case l5 => k_is); (case c5 => k_is); (case k5 => k_is)
      (case a6 => k_is); (case l6 => k_is); (case c6 => k_is); (case k6 => k_is)
      (case a7 => k_is); (case l7 => k_is); (case c7 => k_is); (case k7 => k_is)
      (case a8 => k_is); (case l8 => k_is); (case c8 => k_is); (case k8 => k_is)
      (case a9 => k_is); (case l9 => k_is); (case c9 => k_is); (case k9 => k_is)
      (case a10 => k_is); (case l10 => k_is); (case c10 => k_is); (case k10 => k_is)
      (case a11 => k_is); (case l11 => k_is); (case c11 => k_is); (case k11 => k_is)
      (case a12 => k_is); (case l12 => k_is); (case c12 => k_is); (case k12 => k_is)
      (case a13 => k_is); (case l13 => k_is); (case c13 => k_is); (case k13 => k_is)
      (case a14 => k_is); (case l14 => k_is); (case c14 => k_is); (case k14 => k_is)
      (case a15 => k_is); (case l15 => k_is); (case c15 => k_is); (case k15 => k_is)
      (case a16 => k_is); (case l16 => k_is); (case c16 => k_is); (case k16 => k_is)
      (case a17 => k_is); (case l17 => k_is); (case c17 => k_is); (case k17 => k_is)
      (case a18 => k_is); (case l18 => k_is); (case c18 => k_is); (case k18 => k_is)
      (case a19 => k_is); (case l19 => k_is); (case c19 => k_is); (case k19 => k_is)
      (case a20 => k_is); (case l20 => k_is); (case c20 => k_is); (case k20 => k_is)
      (case a21 => k_is); (case l21 => k_is); (case c21 => k_is); (case k21 => k_is)
      (case a22 => k_is); (case l22 => k_is); (case c22 => k_is); (case k22 => k_is)
      (case a23 => k_is); (case l23 => k_is); (case c23 => k_is); (case k23 => k_is)
      (case a24 => k_is); (case l24 => k_is); (case c24 => k_is); (case k24 => k_is)
      (case a25 => k_is); (case l25 => k_is); (case c25 => k_is); (case k25 => k_is)
      (case a26 => k_is); (case l26 => k_is); (case c26 => k_is); (case k26 => k_is)
      (case a27 => k_is); (case l27 => k_is); (case c27 => k_is); (case k27 => k_is)
      (case a28 => k_is); (case l28 => k_is); (case c28 => k_is); (case k28 => k_is)
      (case a29 => k_is); (case l29 => k_is); (case c29 => k_is); (case k29 => k_is)
      (case a30 => k_is); (case l30 => k_is); (case c30 => k_is); (case k30 => k_is)
      (case a31 => k_is); (case l31 => k_is); (case c31 => k_is); (case k31 => k_is)
      (case a32 => k_is); (case l32 => k_is); (case c32 => k_is); (case k32 => k_is)
      (case a33 => k_is); (case l33 => k_is); (case c33 => k_is); (case k33 => k_is)
      (case a34 => k_is); (case l34 => k_is); (case c34 => k_is); (case k34 => k_is)
      (case a35 => k_is); (case l35 => k_is); (case c35 => k_is); (case k35 => k_is)
      (case a36 => k_is); (case l36 => k_is); (case c36 => k_is); (case k36 => k_is)
      (case a37 => k_is); (case l37 => k_is); (case c37 => k_is); (case k37 => k_is)
      (case a38 => k_is); (case l38 => k_is); (case c38 => k_is); (case k38 => k_is)
      (case a39 => k_is); (case l39 => k_is); (case c39 => k_is); (case k39 => k_is)
      (case u0 => (with_unfolding_all exact rfl)); (case r0 => exact ⟨_, rfl⟩)
      (case z0 => k_is)
      (case z1 => k_is)
      (case z2 => k_is)
      (case z3 => k_is)
      (case z4 => k_is)
      (case z5 => k_is)
      (case z6 => k_is)
      (case z7 => k_is)
      (case z8 => k_is)
      (case z9 => k_is)
      (case z10 => k_is)
      (case z11 => k_is)
      (case us0 => (with_unfolding_all exact rfl)); (case rs0 => exact ⟨_, rfl⟩)
      (case us1 => (with_unfolding_all exact rfl)); (case rs1 => exact ⟨_, rfl⟩)
      (case us2 => (with_unfolding_all exact rfl)); (case rs2 => exact ⟨_, rfl⟩)
      (case pW => k_is); (case dW => k_is); (case nW => decide)
      (case e0 => k_is); (case e1 => k_is); (case e2 => k_is); (case e3 => k_is); (case e4 => k_is); (case e5 => k_is); (case e6 => k_is)
      (case i0 => k_is); (case i1 => k_is); (case i2 => k_is); (case i3 => k_is); (case i4 => k_is); (case j0 => k_is); (case j1 => k_is); (case j2 => k_is); (case j3 => k_is); (case j4 => k_is)
      (case np => k_is); (case nb => k_is)
    exact K22.all_mk T KX G hmg
