import PyProof.Rows.All
import Wide.All
import OpenK.AllK
import Wide.FinOn
import KE.KLam
import KE.KNestM
import Lean
import PyProof.EqAt
import PyProof.EqKinds
import PyProof.TupleCall
import PyProof.NeKinds
import PyProof.Rows.SortShell
import PyProof.Rows.SortWalk
import PyProof.StrBlockI
import PyProof.Rows.Range3
import KE.KDictOf
import PyProof.AttrMissHeap
import PyProof.ConsumeWalk
import KE.KStateDown
import PyProof.SetScanFacts
import PyProof.SetKind
import PyProof.DictKinds
import PyProof.CollectWalk
import PyProof.FactsAll.set
import PyProof.MakeMany
import PyProof.Rows.SetFrom
import PyProof.EnumMake
import PyProof.Draws
import PyProof.IsRules
import PyProof.Rows.EnumRows
import PyProof.ZipIter
import PyProof.StrWalks
import PyProof.Rows.SortStr
import PyProof.Conv_int_bool
import KE.KRevSl
import KE.KMinKey
import PyProof.Rows.StrRules
import KE.KxWritten
import PyProof.ListRange
import PySem.Challenge.RW_handsapart_k13_exchanges
set_option Elab.async false
set_option linter.all false
section
set_option Elab.async false
set_option linter.all false
set_option maxRecDepth 100000
namespace L2
open PySem PySem.Spec PyProof.Rows
noncomputable abbrev Key:=Sum Int Str
noncomputable def keyIs:Key→Value→Bool
 | .inl k,v=>Value.isInt k v
 | .inr x,v=>Value.isStrOf x v
noncomputable def keyH (w:World):Key→Int
 | .inl k=>hashInt k
 | .inr x=>hashStr w x
theorem keyIs_shape:∀ {k:Key} {v:Value},keyIs k v = true→(∃ i t,k = Sum.inl i∧v = Value.int i t)∨(∃ x t,k = Sum.inr x∧v = Value.str x t)
 | .inl i,v,h=>by
  obtain ⟨t,e⟩:=Value.isInt_shape (k:=i) (v:=v) h
  exact .inl ⟨i,t,rfl,e⟩
 | .inr x,v,h=>by
  obtain ⟨t,e⟩:=Value.isStrOf_shape (x:=x) (v:=v) h
  exact .inr ⟨x,t,rfl,e⟩
theorem keyIs_int (i:Int) (t:Tok):keyIs (.inl i) (.int i t) = true:=by simp [keyIs,Value.isInt]
theorem keyIs_str (x:Str) (t:Tok):keyIs (.inr x) (.str x t) = true:=by simp [keyIs,Value.isStrOf]
theorem key_ll (a b:Int):decide ((Sum.inl a:Key) = Sum.inl b) = (a == b):=by
 by_cases e:a = b
 ·subst e; simp
 ·have h:¬ (Sum.inl a:Key) = Sum.inl b:=fun q=>e (Sum.inl.inj q)
  rw [decide_eq_false h]
  exact (beq_eq_false_iff_ne.mpr e).symm
theorem key_rr (a b:Str):decide ((Sum.inr a:Key) = Sum.inr b) = decide (a = b):=by
 by_cases e:a = b
 ·subst e; simp
 ·have h:¬ (Sum.inr a:Key) = Sum.inr b:=fun q=>e (Sum.inr.inj q)
  rw [decide_eq_false h,decide_eq_false e]
theorem key_lr (a:Int) (b:Str):decide ((Sum.inl a:Key) = Sum.inr b) = false:=decide_eq_false (fun q=>nomatch q)
theorem key_rl (a:Str) (b:Int):decide ((Sum.inr a:Key) = Sum.inl b) = false:=decide_eq_false (fun q=>nomatch q)
noncomputable def mixKind (prog:Program) (w:World):PySem.KeyKind prog w Key where
 is:=keyIs
 hash:=keyH w
 inj:=fun v a b ha hb=>by
  rcases keyIs_shape ha with ⟨i,t,rfl,rfl⟩ | ⟨x,t,rfl,rfl⟩
  ·rcases keyIs_shape hb with ⟨j,u,rfl,e⟩ | ⟨y,u,rfl,e⟩
   ·injection e with e1 _; rw [e1]
   ·exact nomatch e
  ·rcases keyIs_shape hb with ⟨j,u,rfl,e⟩ | ⟨y,u,rfl,e⟩
   ·exact nomatch e
   ·injection e with e1 _; rw [e1]
 byValue:=fun k v h=>by
  rcases keyIs_shape h with ⟨i,t,rfl,rfl⟩ | ⟨x,t,rfl,rfl⟩ <;> rfl
 pyHash:=fun hv h=>by
  rcases keyIs_shape hv with ⟨i,t,rfl,rfl⟩ | ⟨x,t,rfl,rfl⟩
  ·exact wpAny_pyHash_int h
  ·exact wpAny_pyHash_str h
 eqBool:=fun hu hv h=>by
  rcases keyIs_shape hu with ⟨i,t,rfl,rfl⟩ | ⟨x,t,rfl,rfl⟩
  ·rcases keyIs_shape hv with ⟨j,u,rfl,rfl⟩ | ⟨y,u,rfl,rfl⟩
   ·rw [key_ll] at h; exact wpAny_eqBool_int h
   ·rw [key_lr] at h; exact SeqAt.EqAt.int_str i t y u _ _ _ _ h
  ·rcases keyIs_shape hv with ⟨j,u,rfl,rfl⟩ | ⟨y,u,rfl,rfl⟩
   ·rw [key_rl] at h; exact SeqAt.EqAt.str_int x t j u _ _ _ _ h
   ·rw [key_rr] at h; exact wpAny_eqBool_str h
 «strs»:=fun k x t v h=>by
  rcases keyIs_shape h with ⟨i,u,rfl,e⟩ | ⟨y,u,rfl,e⟩
  ·exact nomatch e
  ·injection e with e1 _
   subst e1
   cases v <;> rfl
theorem mixKind_int (prog:Program) (w:World) (i:Int) (t:Tok):(mixKind prog w).is (.inl i) (.int i t) = true:=keyIs_int i t
theorem mixKind_str (prog:Program) (w:World) (x:Str) (t:Tok):(mixKind prog w).is (.inr x) (.str x t) = true:=keyIs_str x t
end L2
namespace L2
open PySem PySem.Spec PyProof.Rows
inductive V where
 | non | bl (b:Bool) | int (i:Int) | str (x:Str) | byt (b:Array UInt8) | flt (b:UInt64) | ref (a:Addr) | ty (n:String)
 deriving DecidableEq
noncomputable def RelV:V→Value→Prop
 | .non,u=>u = Value.none
 | .bl b,u=>u = Value.bool b
 | .int i,u=>∃ t,u = Value.int i t
 | .str x,u=>∃ t,u = Value.str x t
 | .byt b,u=>∃ t,u = Value.bytes b t
 | .flt b,u=>∃ t,u = Value.float b t
 | .ref a,u=>u = Value.ref a
 | .ty n,u=>u = Value.type n
noncomputable abbrev Vals:List V→List Value→Prop:=Paired RelV
theorem Vals.length {xs:List V} {us:List Value} (r:Vals xs us):xs.length = us.length:=Paired.length r
theorem Vals.get:∀ {xs:List V} {us:List Value} {i:Nat} {x:V},Vals xs us→xs[i]? = some x→∃ u,us[i]? = some u∧RelV x u
 | _,_,_,_,.nil,e=>by simp at e
 | _,_,0,_,.cons r _,e=>by simp at e; subst e; exact ⟨_,rfl,r⟩
 | _,_,i + 1,x,.cons _ t,e=>by
  obtain ⟨u,h1,h2⟩:=Vals.get (i:=i) (x:=x) t (by simpa using e)
  exact ⟨u,by simpa using h1,h2⟩
theorem Vals.set {x:V} {u:Value} (r:RelV x u):∀ {xs:List V} {us:List Value} (i:Nat),Vals xs us→Vals (xs.set i x) (us.set i u)
 | _,_,_,.nil=>.nil
 | _,_,0,.cons _ t=>.cons r t
 | _,_,i + 1,.cons q t=>.cons q (Vals.set r i t)
theorem Vals.append {xs ys:List V} {us ws:List Value} (h:Vals xs us) (s:Vals ys ws):Vals (xs ++ ys) (us ++ ws):=by
 induction h with
 | nil=>exact s
 | cons r t ih=>exact .cons r ih
theorem Vals.take:∀ {xs:List V} {us:List Value} (n:Nat),Vals xs us→Vals (xs.take n) (us.take n)
 | _,_,0,_=>.nil
 | _,_,_ + 1,.nil=>.nil
 | _,_,n + 1,.cons r t=>.cons r (Vals.take n t)
theorem Vals.drop:∀ {xs:List V} {us:List Value} (n:Nat),Vals xs us→Vals (xs.drop n) (us.drop n)
 | _,_,0,r=>r
 | _,_,_ + 1,.nil=>.nil
 | _,_,n + 1,.cons _ t=>Vals.drop n t
noncomputable def RelO:Option V→Option Value→Prop
 | some v,some u=>RelV v u
 | none,none=>True
 | _,_=>False
noncomputable def KV {κ:Type}:List (κ × V)→List (κ × Value)→Prop:=Paired fun (p : κ × V) (q : κ × Value)=>p.1 = q.1∧RelV p.2 q.2
noncomputable def kV:Key→V
 | .inl i=>.int i
 | .inr x=>.str x
inductive HO where
 /-- a list -/
 | lst (xs:List V)
 /-- a tuple (never changes) -/
 | tup (xs:List V)
 /-- a dict whose keys are ints and texts; one whose keys are tuples of ints and texts (the empty one is both) -/
 | dK (kvs:List (Key × V)) | dT (kvs:List (List Key × V))
 /-- a set of ints: its members,its size -/
 | set (S:Int→Bool) (n:Nat)
 /-- an instance of the class at C,its dict at dx,its attributes -/
 | ins (C dx:Addr) (fs:List (Str × V))
 /-- the dict of the instance at x -/
 | own (x:Addr)
 /-- the dict of an exception -/
 | xd (fs:List (Str × V))
 /-- a bound method,f of x -/
 | met (f x:Addr)
 /-- a range object lo,lo + 1,.. below hi -/
 | rng (lo hi:Int)
 /-- a thing that is known to the object (the script; a dict while a loop walks it): read,never written while it is so -/
 | frz (o:Obj) (u:HO)
 /-- a code object's table -/
 | tbl (ps:Array Value)
 /-- any other thing,by what is true of its one object (a def of one's own: SetO a S n:=HO.ext fun h=>..) -/
 | ext (φ : Heap→Prop)
noncomputable abbrev Hp:=Addr→Option HO
noncomputable def upd (H:Hp) (a:Addr) (o:HO):Hp:=fun b=>if b = a then some o else H b
theorem upd_same {H:Hp} {a:Addr} {o:HO}:upd H a o a = some o:=by unfold upd; rw [if_pos rfl]
theorem upd_ne {H:Hp} {a b:Addr} {o:HO} (h:b≠a):upd H a o b = H b:=by unfold upd; rw [if_neg h]
theorem ne_of {H:Hp} {a b:Addr} {o u:HO} (h:H a = some o) (h':H b = some u) (d:o≠u):a≠b:=by
 intro e; subst e; rw [h] at h'; exact d (Option.some.inj h')
theorem ne_of_none {H:Hp} {a b:Addr} {o:HO} (h:H a = some o) (h':H b = none):a≠b:=by
 intro e; subst e; rw [h] at h'; cases h'
noncomputable abbrev lamDef:Str := "place_of_first"
noncomputable abbrev lamQual:Str := "place_of_first.<locals>.<lambda>"
noncomputable def TblOk (H:Hp) (h:Heap) (a:Addr) (ps:Array Value):Prop:=∃ qs:Array Value,h.get? a = some { cls:=.none,data:=.fields qs }∧TriplesOk qs.toList ∧
 ∀ pos c,codeAmong pos qs.toList = some c→∃ c' oc vs t q,c = .ref c'∧H c' = some (.own a)∧h.get? c' = some oc∧oc.data = .fields vs∧vs[1]? = some (.str q t)∧ps[0]? = some (.str q 0)
noncomputable def Tabs (K:PySem.W.Frag) (H:Hp):Prop:=∀ c P,PySem.W.tabIn K lamDef = some (c,P)→∃ ps,H P = some (.tbl ps)∧ps[0]? = some (.str lamQual 0)
section
variable (P:Program) (w:World)
noncomputable def ObjOk (H:Hp) (h:Heap) (a:Addr):HO→Prop
 | .lst xs=>xs.length≤sizeLine∧∃ (its:List Value) (n:Nat),Vals xs its∧h.get? a = some { cls:=.type "list",data:=.seq its.toArray n }
 | .tup xs=>xs.length≤sizeLine∧∃ its:List Value,Vals xs its∧IsTup h a its.toArray
 | .dK kvs=>kvs.length≤sizeLine∧(a == sysModules) = false∧∃ vs,KV kvs vs∧h.DictOf (mixKind P w) a vs
 | .dT kvs=>kvs.length≤sizeLine∧(a == sysModules) = false∧∃ xs:List (List Key × Addr × Value),
   Paired (fun (p:List Key × V) (q:List Key × Addr × Value)=>p.1 = q.1∧H q.2.1 = some (.tup (p.1.map kV))∧RelV p.2 q.2.2) kvs xs ∧
   ∃ o es ep,h.get? a = some o∧o.ExactDict∧o.data = .dict es ep∧es.toList = xs.map (entryOfKey (tupleKind (mixKind P w)))∧(xs.map (·.1)).Nodup
 | .set S n=>h.SetOf (intKind P w) a S n
 | .ins C dx fs=>H dx = some (.own a)∧fs.length≤1000∧dx≠a∧h.get? a = some (PySem.W.instObj C dx) ∧
   ∃ mA,h.Ns1 dx mA∧(∀ f,RelO (fs.lookup f) (mA f))∧PySem.Within mA (fs.map (·.1))
 | .own _=>∃ o,h.get? a = some o
 | .xd fs=>∃ mA,h.Ns1 a mA∧∀ f,RelO (fs.lookup f) (mA f)
 | .rng lo hi=>∃ t u v,h.get? a = some { cls:=.type "range",data:=.fields #[.int lo t,.int hi u,.int 1 v] }
 | .frz o u=>h.get? a = some o∧ObjOk H h a u
 | .tbl ps=>TblOk H h a ps
 | .met f x=>h.get? a = some (PySem.W.methodObj (.ref f) (.ref x))
 | .ext φ=>φ h∧(∃ o,h.get? a = some o)∧∀ h1 h2:Heap,φ h1→(∀ o,h1.get? a = some o→h2.get? a = some o) → φ h2
noncomputable def HOk (H:Hp) (h:Heap):Prop:=∀ a o,H a = some o→ObjOk P w H h a o
end
section
variable {P:Program} {w:World} {H H':Hp} {h h':Heap} {a:Addr} {o:HO}
theorem ObjOk.lt (x:ObjOk P w H h a o):a < h.objs.size:=by
 cases o with
 | lst xs=>obtain ⟨_,_,_,_,e⟩:=x; exact Heap.lt_size e
 | tup xs=>obtain ⟨_,_,_,p⟩:=x; exact p.lt
 | dK kvs=>obtain ⟨_,_,_,_,o,_,_,e,_⟩:=x; exact Heap.lt_size e
 | dT kvs=>obtain ⟨_,_,_,_,o,_,_,e,_⟩:=x; exact Heap.lt_size e
 | set S n=>obtain ⟨o,_,_,_,e,_⟩:=x; exact Heap.lt_size e
 | ins C dx fs=>obtain ⟨_,_,_,e,_⟩:=x; exact Heap.lt_size e
 | own y=>obtain ⟨_,e⟩:=x; exact Heap.lt_size e
 | xd fs=>obtain ⟨_,⟨_,_,_,e,_⟩,_⟩:=x; exact Heap.lt_size e
 | rng lo hi=>obtain ⟨_,_,_,e⟩:=x; exact Heap.lt_size e
 | frz ob u=>obtain ⟨e,_⟩:=x; exact Heap.lt_size e
 | tbl ps=>obtain ⟨_,e,_⟩:=x; exact Heap.lt_size e
 | met f y=>exact Heap.lt_size (show h.get? a = some _ from x)
 | ext φ=>obtain ⟨_,⟨_,e⟩,_⟩:=x; exact Heap.lt_size e
theorem Paired.mapP {α β:Type} {F G:α → β → Prop} {l₁:List α} {l₂:List β} (h:Paired F l₁ l₂) (f:∀ a b,F a b→G a b):Paired G l₁ l₂:=by
 induction h with
 | nil=>exact .nil
 | cons r t ih=>exact .cons (f _ _ r) ih
theorem ObjOk.stay (x:ObjOk P w H h a o) (k:∀ b u,(b = a∨H b = some (.own a))→h.get? b = some u→h'.get? b = some u)
  (ho:∀ b,H b = some (.own a)→H' b = some (.own a)) (ht:∀ b xs,H b = some (.tup xs)→H' b = some (.tup xs)):ObjOk P w H' h' a o:=by
 induction o with
 | lst xs=>obtain ⟨z,its,n,r,e⟩:=x; exact ⟨z,its,n,r,k _ _ (.inl rfl) e⟩
 | tup xs=>obtain ⟨z,its,r,ob,e,c⟩:=x; exact ⟨z,its,r,ob,k _ _ (.inl rfl) e,c⟩
 | dK kvs=>obtain ⟨z,y,vs,r,ob,es,ep,e,c⟩:=x; exact ⟨z,y,vs,r,ob,es,ep,k _ _ (.inl rfl) e,c⟩
 | dT kvs =>
  obtain ⟨z,y,xs,r,ob,es,ep,e,c⟩:=x
  exact ⟨z,y,xs,Paired.mapP r fun p q z=>⟨z.1,ht _ _ z.2.1,z.2.2⟩,ob,es,ep,k _ _ (.inl rfl) e,c⟩
 | set S n=>obtain ⟨ob,es,ep,t,e,c⟩:=x; exact ⟨ob,es,ep,t,k _ _ (.inl rfl) e,c⟩
 | ins C dx fs =>
  obtain ⟨d,z,ne,e,mA,⟨od,es,ep,e2,c⟩,r⟩:=x
  exact ⟨ho _ d,z,ne,k _ _ (.inl rfl) e,mA,⟨od,es,ep,k _ _ (.inr d) e2,c⟩,r⟩
 | own y=>obtain ⟨ob,e⟩:=x; exact ⟨ob,k _ _ (.inl rfl) e⟩
 | xd fs=>obtain ⟨mA,⟨od,es,ep,e,c⟩,r⟩:=x; exact ⟨mA,⟨od,es,ep,k _ _ (.inl rfl) e,c⟩,r⟩
 | rng lo hi=>obtain ⟨t,u,v,e⟩:=x; exact ⟨t,u,v,k _ _ (.inl rfl) e⟩
 | frz ob u ih=>obtain ⟨e,q⟩:=x; exact ⟨k _ _ (.inl rfl) e,ih q⟩
 | tbl ps =>
  obtain ⟨qs,e,tr,f⟩:=x
  refine ⟨qs,k _ _ (.inl rfl) e,tr,fun pos c hc=>?_⟩
  obtain ⟨c',oc,vs,t,q,e1,e2,e3,e4⟩:=f pos c hc
  exact ⟨c',oc,vs,t,q,e1,ho _ e2,k _ _ (.inr e2) e3,e4⟩
 | met f y =>
  have e:h.get? a = some (PySem.W.methodObj (.ref f) (.ref y)):=x
  show h'.get? a = some (PySem.W.methodObj (.ref f) (.ref y))
  exact k a _ (.inl rfl) e
 | ext φ=>obtain ⟨p,⟨o,e⟩,st⟩:=x; exact ⟨st _ _ p fun o q=>k _ _ (.inl rfl) q,⟨o,k _ _ (.inl rfl) e⟩,st⟩
theorem HOk.lt (x:HOk P w H h) (e:H a = some o):a < h.objs.size:=(x a o e).lt
theorem HOk.fresh (x:HOk P w H h) (e:h.objs.size≤a):H a = none:=by
 cases q:H a with
 | none=>rfl
 | some u=>exact absurd (Nat.lt_of_lt_of_le (x.lt q) e) (Nat.lt_irrefl _)
theorem HOk.kept (x:HOk P w H h) (k:∀ b u,h.get? b = some u→h'.get? b = some u):HOk P w H h':=fun a o e =>
 (x a o e).stay (fun b u _ q=>k b u q) (fun _ q=>q) fun _ _ q=>q
theorem HOk.laid (x:HOk P w H h) (k:∀ b u,h.get? b = some u→h'.get? b = some u) (hp:h.objs.size≤a) (new:ObjOk P w (upd H a o) h' a o):HOk P w (upd H a o) h':=fun b u e=>by
 have hn:=x.fresh hp
 by_cases hb:b = a
 ·subst hb; rw [upd_same] at e; cases e; exact new
 ·rw [upd_ne hb] at e
  exact (x b u e).stay (fun c v _ q=>k c v q) (fun c q=>by rw [upd_ne (ne_of_none q hn)]; exact q) fun c xs q=>by rw [upd_ne (ne_of_none q hn)]; exact q
end
noncomputable def Rd (H:Hp) (a:Addr) (u:HO):Prop:=H a = some u∨∃ o,H a = some (.frz o u)
theorem Rd.ok {P:Program} {w:World} {H:Hp} {h:Heap} {a:Addr} {u:HO} (r:Rd H a u) (x:HOk P w H h):ObjOk P w H h a u:=by
 rcases r with r | ⟨o,r⟩
 ·exact x a u r
 ·obtain ⟨_,q⟩:=x a _ r
  exact q
noncomputable def Mut:Option HO→Prop
 | some (.lst _)=>True
 | some (.dK _)=>True
 | some (.dT _)=>True
 | some (.set _ _)=>True
 | some (.ins _ _ _)=>True
 | some (.ext _)=>True
 | _=>False
section
variable {P:Program} {w:World} {H:Hp} {h h':Heap} {x e:Addr} {o':HO}
theorem HOk.write (ok:HOk P w H h) (mu:Mut (H x)) (he:e = x∨H e = some (.own x)) (k:∀ b u,b≠e→h.get? b = some u→h'.get? b = some u) (heo:∃ u,h'.get? e = some u)
  (new:ObjOk P w (upd H x o') h' x o'):HOk P w (upd H x o') h':=fun b u q=>by
 have nown:∀ c y,H c = some (.own y)→c≠x:=fun c y r z=>by subst z; rw [r] at mu; exact mu
 have ntup:∀ c xs,H c = some (.tup xs)→c≠x:=fun c xs r z=>by subst z; rw [r] at mu; exact mu
 by_cases hb:b = x
 ·subst hb; rw [upd_same] at q; cases q; exact new
 ·rw [upd_ne hb] at q
  by_cases hbe:b = e
  ·have q':H b = some (.own x):=by
    rcases he with z | z
    ·exact absurd (hbe.trans z) hb
    ·rw [hbe]; exact z
   rw [q] at q'; cases q'
   obtain ⟨v,hv⟩:=heo
   exact ⟨v,by rw [hbe]; exact hv⟩
  ·refine (ok b u q).stay (fun c v hc r=>k c v ?_ r) (fun c r=>by rw [upd_ne (nown c b r)]; exact r) fun c xs r=>by rw [upd_ne (ntup c xs r)]; exact r
   rcases hc with rfl | hc
   ·exact hbe
   ·rintro rfl
    rcases he with z | z
    ·exact nown c b hc z
    ·rw [hc] at z; cases z; exact hb rfl
end
structure Un (fs ex:List Addr) (H H':Hp) (h h':Heap):Prop where
 keep:∀ b o,h.get? b = some o→H b = none→b ∉ fs→b ∉ ex→h'.get? b = some o
 slot:∀ b o,h.get? b = some o→H b = none→b∈fs→b ∉ ex→∃ sl,h'.get? b = some { o with slots:=sl }
 free:∀ b o,h.get? b = some o→H b = none→b ∉ ex→H' b = none
 there:∀ b o,h.get? b = some o→b ∉ ex→∃ o',h'.get? b = some o'
 tups:∀ b xs,H b = some (.tup xs)→H' b = some (.tup xs)
 frzs:∀ b o u,H b = some (.frz o u)→H' b = some (.frz o u)
 tbls:∀ b ps,H b = some (.tbl ps)→∃ more,H' b = some (.tbl (ps ++ more))
section
variable {fs fs' ex ex':List Addr} {H H1 H2:Hp} {h h1 h2 h':Heap} {a x e:Addr} {o:HO}
theorem Un.any (u:Un fs ex H H1 h h1) {b:Addr} {ob:Obj} (q:h.get? b = some ob) (n:H b = none) (hx:b ∉ ex):∃ sl,h1.get? b = some { ob with slots:=sl }:=by
 by_cases hb:b∈fs
 ·exact u.slot b ob q n hb hx
 ·exact ⟨ob.slots,u.keep b ob q n hb hx⟩
theorem Un.kept (k:∀ b u,h.get? b = some u→h'.get? b = some u):Un fs ex H H h h':=
 ⟨fun b ob q _ _ _=>k b ob q,fun b ob q _ _ _=>⟨ob.slots,k b ob q⟩,fun _ _ _ n _=>n,fun b ob q _=>⟨ob,k b ob q⟩,fun _ _ q=>q,fun _ _ _ q=>q,fun _ ps q=>⟨#[],by rw [q]; simp⟩⟩
theorem Un.refl:Un fs ex H H h h:=Un.kept fun _ _ q=>q
theorem Un.laid (k:∀ b u,h.get? b = some u→h'.get? b = some u) (hp:h.objs.size≤a) (hn:H a = none):Un fs ex H (upd H a o) h h' where
 keep:=fun b u q _ _ _=>k b u q
 slot:=fun b u q _ _ _=>⟨u.slots,k b u q⟩
 free:=fun b u q n _=>by rw [upd_ne (Nat.ne_of_lt (Nat.lt_of_lt_of_le (Heap.lt_size q) hp))]; exact n
 there:=fun b u q _=>⟨u,k b u q⟩
 tups:=fun b xs q=>by rw [upd_ne (ne_of_none q hn)]; exact q
 frzs:=fun b u xs q=>by rw [upd_ne (ne_of_none q hn)]; exact q
 tbls:=fun b ps q=>⟨#[],by rw [upd_ne (ne_of_none q hn),q]; simp⟩
theorem Un.write (mu:Mut (H x)) (he:e = x∨H e = some (.own x)) (k:∀ b u,b≠e→h.get? b = some u→h'.get? b = some u) (heo:∃ u,h'.get? e = some u):Un fs ex H (upd H x o) h h':=by
 have hx:∀ b,H b = none→b≠x:=fun b n z=>by subst z; rw [n] at mu; exact mu
 have hb:∀ b,H b = none→b≠e:=fun b n z=>by
  subst z
  rcases he with r | r
  ·exact hx b n r
  ·rw [n] at r; cases r
 have hm:∀ b u,H b = some u→¬ Mut (some u)→b≠x:=fun b u q nm z=>by subst z; rw [q] at mu; exact nm mu
 refine ⟨fun b u q n _ _=>k b u (hb b n) q,fun b u q n _ _=>⟨u.slots,k b u (hb b n) q⟩,fun b u q n _=>by rw [upd_ne (hx b n)]; exact n,fun b u q _=>?_,
  fun b xs q=>by rw [upd_ne (hm b _ q fun z=>z)]; exact q,fun b u xs q=>by rw [upd_ne (hm b _ q fun z=>z)]; exact q,fun b ps q=>⟨#[],by rw [upd_ne (hm b _ q fun z=>z),q]; simp⟩⟩
 by_cases hbe:b = e
 ·subst hbe; exact heo
 ·exact ⟨u,k b u hbe q⟩
end
noncomputable def trk (h:Heap) (H:Hp):List Addr:=(List.range h.objs.size).filter fun a=>(H a).isSome
noncomputable def hidT (h:Heap) (H:Hp):Heap:=PySem.W.hideAll h (trk h H)
theorem hidT_size (h:Heap) (H:Hp):(hidT h H).objs.size = h.objs.size:=PySem.W.hideAll_size _ _
theorem hidT_get {h:Heap} {H:Hp} {b:Addr} {o:Obj} (e:h.get? b = some o) (n:H b = none):(hidT h H).get? b = some o:=
 PySem.W.hideAll_get _ e fun hm=>by
  have q:(H b).isSome = true:=(List.mem_filter.mp hm).2
  rw [n] at q; simp at q
theorem of_hidT {h:Heap} {H:Hp} {b:Addr} {o:Obj} (e:(hidT h H).get? b = some o):h.get? b = some o∧H b = none:=by
 have e':h.get? b = some o:=PySem.W.of_hideAll (trk h H) e
 refine ⟨e',?_⟩
 cases q:H b with
 | none=>rfl
 | some x =>
  have hm:b∈trk h H:=List.mem_filter.mpr ⟨List.mem_range.mpr (Heap.lt_size e'),by simp [q]⟩
  have z:(hidT h H).get? b = none:=PySem.W.hideAll_none (trk h H) hm
  rw [z] at e; cases e
noncomputable def allNews (g h:Heap) (L:Addr):List (Addr × Obj):=(List.range h.objs.size).filterMap fun a=>if a = L∨(g.get? a).isSome = true then none else (h.get? a).map fun o=>(a,o)
noncomputable def rest (g h:Heap) (L d:Addr):List (Addr × Obj):=(allNews g h L).filter fun p=>decide (p.1≠d)
end L2
namespace L2
open PySem PySem.Spec PyProof.Rows
structure Mod (K:PySem.W.Frag) (mg:Str→Option Value) (base:Heap):Prop where
 kin:K.In base
 glob:base.Ns mainGlobals mg
 blt:∃ mb,base.Ns builtinsNs mb∧∀ x:Str,x ≠ "__name__" → mb x = bootBuiltins x
 nolimit:base.NoLimit
 bmain:∃ bm ob,mg "__builtins__" = some (.ref bm)∧bm≠builtinsNs∧base.get? bm = some ob∧ob.cls = .type "module" ∧ ob.dict = some builtinsNs∧ob.data = .plain
structure Cx where
 prog:Program
 w:World
 K:PySem.W.Frag
 mg:Str→Option Value
 base:Heap
 A:Around
 N:List Str
 s₀:Shared
 H₀:Hp
 env:Env
 outer:List Env
 stack:List Env
 ex:List Addr
 fn:Str→Bool
 calm:Bool
 pn:List (Addr × Obj)
 xe:Value→Shared→Prop
noncomputable def frs (l:List Env):List Addr:=l.filterMap (·.frame)
noncomputable abbrev Cx.fs (X:Cx):List Addr:=frs X.outer
noncomputable def Vis (sc:Scope) (x:Str):Prop:=sc.names.lookup x = some .local∨sc.names.lookup x = some .cell∨sc.names.lookup x = some .free
noncomputable def Loc (sc:Scope) (x:Str):Prop:=sc.names.lookup x = some .local∨sc.names.lookup x = some .cell
noncomputable def Look (env:Env) (h:Heap) (m:Str→Option Value) (x:Str) (u:Value):Prop:=
 (env.kindOf x = some .local∧m x = some u)∨((env.kindOf x = some .cell∨env.kindOf x = some .free)∧∃ c,env.cells.lookup x = some c∧h.IsCell c (some u))
structure Cx.Ok (X:Cx):Prop where
 mod:Mod X.K X.mg X.base
 kind:X.env.scope.kind = .function
 glob:X.env.globals = mainGlobals
 blt:X.env.builtins = builtinsNs
 above:X.s₀.heap.objs.size≤X.env.locals
 inj:∀ x y c,X.env.cells.lookup x = some c→X.env.cells.lookup y = some c→x = y
 has:∀ x,(X.env.kindOf x = some .cell∨X.env.kindOf x = some .free)→∃ c,X.env.cells.lookup x = some c
 cab:∀ x c,X.fn x = true→X.env.cells.lookup x = some c→X.s₀.heap.objs.size≤c
 hd:X.calm = true→X.A.handled = none
 frames:X.A.frames = some X.stack
 stk:X.stack = X.outer∨(X.stack = X.env :: X.outer∧X.env.frame = some X.env.locals)
 exf:∀ b∈X.ex,b≠X.env.locals∧∀ x c,X.env.cells.lookup x = some c→c≠b
 bs:∀ b o,X.base.get? b = some o→X.s₀.heap.get? b = some o∧X.H₀ b = none
 bsz:X.base.objs.size≤X.s₀.heap.objs.size
 noex:∀ b o,X.base.get? b = some o→b ∉ X.ex
 exfs:∀ b∈X.ex,b ∉ X.fs
 funs:X.s₀.heap.FunFrames X.base X.outer
 frf:∀ b∈X.fs,X.H₀ b = none
 tb:Tabs X.K X.H₀
structure Inv (X:Cx) (pins:List (Addr × Obj)) (σ:List (Option V)) (H:Hp) (s:Shared):Prop where
 ok:X.Ok
 os:s.os = X.s₀.os
 bare:AllBare s.gens
 base:Un X.fs X.ex X.H₀ H X.s₀.heap s.heap
 loc:∃ m,s.heap.Ns X.env.locals m∧∀ (i:Nat) (x:Str) (v:V),X.N[i]? = some x → σ[i]? = some (some v)→Vis X.env.scope x→∃ u,RelV v u∧Look X.env s.heap m x u
 cell:∀ x c,X.env.cells.lookup x = some c→∃ v,s.heap.IsCell c v
 free:H X.env.locals = none
 freeC:∀ x c,X.env.cells.lookup x = some c→H c = none
 pin:∀ p∈X.pn ++ pins,s.heap.get? p.1 = some p.2∧H p.1 = none∧p.1≠X.env.locals∧p.1 ∉ X.fs∧∀ v,p.2.data ≠ .cell v
 hok:HOk X.prog X.w H s.heap
 len : σ.length = X.N.length
section
variable {X:Cx} {pins:List (Addr × Obj)} {σ:List (Option V)} {H H':Hp} {s:Shared} {h':Heap}
theorem Cx.Ok.nofr (ok:X.Ok) {b:Addr} {o:Obj} (e:X.base.get? b = some o):b ∉ X.fs:=fun hb=>by
 have:=(ok.funs.mem hb).1
 rw [e] at this; cases this
theorem Tabs.grow {K:PySem.W.Frag} {H H':Hp} (x:Tabs K H) (h:∀ b ps,H b = some (.tbl ps)→∃ more,H' b = some (.tbl (ps ++ more))):Tabs K H':=fun c P e=>by
 obtain ⟨ps,e1,e2⟩:=x c P e
 obtain ⟨more,e3⟩:=h P ps e1
 refine ⟨ps ++ more,e3,?_⟩
 have hl:0 < ps.size:=by
  cases hs:ps[0]? with
  | none=>rw [hs] at e2; cases e2
  | some v=>exact (Array.getElem?_eq_some_iff.mp hs).1
 rw [Array.getElem?_append_left hl]
 exact e2
theorem Inv.tabs (I:Inv X pins σ H s):Tabs X.K H:=I.ok.tb.grow I.base.tbls
theorem Inv.bs (I:Inv X pins σ H s):∀ b o,X.base.get? b = some o→s.heap.get? b = some o∧H b = none:=fun b o e =>
 ⟨I.base.keep b o (I.ok.bs b o e).1 (I.ok.bs b o e).2 (I.ok.nofr e) (I.ok.noex b o e),I.base.free b o (I.ok.bs b o e).1 (I.ok.bs b o e).2 (I.ok.noex b o e)⟩
theorem Inv.bk (I:Inv X pins σ H s):∀ b o,X.base.get? b = some o→s.heap.get? b = some o:=fun b o e=>(I.bs b o e).1
theorem Inv.mod (I:Inv X pins σ H s):Mod X.K X.mg X.base:=I.ok.mod
theorem Inv.kIn (I:Inv X pins σ H s):X.K.In s.heap:=I.ok.mod.kin.keeps I.bk
theorem Inv.nolimit (I:Inv X pins σ H s):s.heap.NoLimit:=I.ok.mod.nolimit.keeps I.bk
theorem Inv.lt (I:Inv X pins σ H s):X.env.locals < s.heap.objs.size:=let ⟨_,hn,_⟩:=I.loc; hn.lt
theorem Inv.sz (I:Inv X pins σ H s):X.s₀.heap.objs.size≤s.heap.objs.size:=Nat.le_trans I.ok.above (Nat.le_of_lt I.lt)
theorem Inv.nofs (I:Inv X pins σ H s) {a:Addr} (h:s.heap.objs.size≤a):a ∉ X.fs:=fun hb=>by
 obtain ⟨_,o,ho,_⟩:=I.ok.funs.mem hb
 exact absurd (Nat.lt_of_lt_of_le (Heap.lt_size ho) (Nat.le_trans I.sz h)) (Nat.lt_irrefl _)
theorem Inv.cne (I:Inv X pins σ H s):∀ x c,X.env.cells.lookup x = some c→c≠X.env.locals:=fun x c e z=>by
 obtain ⟨v,o,ho,hd⟩:=I.cell x c e
 obtain ⟨m,⟨o',es,ep,ho',hd',_⟩,_⟩:=I.loc
 rw [z,ho'] at ho; cases ho; rw [hd'] at hd; cases hd
theorem Inv.funs (I:Inv X pins σ H s):s.heap.FunFrames X.base X.outer:=by
 have all:∀ (l:List Env),(∀ b∈frs l,b∈X.fs)→X.s₀.heap.FunFrames X.base l→s.heap.FunFrames X.base l:=by
  intro l
  induction l with
  | nil=>intro _ _; trivial
  | cons env r ih =>
   intro hs hl
   obtain ⟨hk,⟨L,o,hf,hn,ho,hd⟩,hr⟩:=hl
   have hL:L∈X.fs:=hs L (by unfold frs; rw [List.filterMap_cons,hf]; exact List.mem_cons_self)
   obtain ⟨sl,e⟩:=I.base.slot L o ho (I.ok.frf L hL) hL fun z=>I.ok.exfs L z hL
   exact ⟨hk,⟨L,_,hf,hn,e,hd⟩,ih (fun b hb=>hs b (by unfold frs; rw [List.filterMap_cons,hf]; exact List.mem_cons_of_mem _ hb)) hr⟩
 exact all X.outer (fun _ hb=>hb) I.ok.funs
theorem Inv.stack (I:Inv X pins σ H s):s.heap.FunFrames X.base X.stack:=by
 rcases I.ok.stk with e | ⟨e,hf⟩
 ·rw [e]; exact I.funs
 ·rw [e]
  obtain ⟨m,hn,_⟩:=I.loc
  refine .cons (by rw [I.ok.kind]; decide) hf hn ?_ I.funs
  exact Heap.get?_none_of_le (Nat.le_trans I.ok.bsz I.ok.above)
theorem Inv.stkSub (I:Inv X pins σ H s):∀ b∈frs X.stack,b∈X.env.locals :: X.fs:=fun b hb=>by
 rcases I.ok.stk with e | ⟨e,hf⟩
 ·rw [e] at hb; exact List.mem_cons_of_mem _ hb
 ·rw [e] at hb
  unfold frs at hb
  rw [List.filterMap_cons,hf] at hb
  exact hb
theorem Inv.stkFree (I:Inv X pins σ H s):∀ b∈frs X.stack,H b = none:=fun b hb=>by
 rcases List.mem_cons.mp (I.stkSub b hb) with e | hb
 ·rw [e]; exact I.free
 ·obtain ⟨_,o,ho,_⟩:=I.ok.funs.mem hb
  exact I.base.free b o ho (I.ok.frf b hb) fun z=>I.ok.exfs b z hb
theorem Inv.step {g':Array GenState} {t':Nat} {d':Drawn} {ch:List Addr} (I:Inv X pins σ H s)
  (hch:∀ b∈ch,(b∈X.ex∨X.s₀.heap.objs.size≤b)∧b≠X.env.locals∧(∀ x c,X.env.cells.lookup x = some c→c≠b)∧∀ p∈X.pn ++ pins,p.1≠b)
  (keep:∀ b o,b≠X.env.locals→b ∉ X.fs→b ∉ ch→s.heap.get? b = some o→H b = none→h'.get? b = some o)
  (slot:∀ b o,b≠X.env.locals→b∈X.fs→b ∉ ch→s.heap.get? b = some o→H b = none→∃ sl,h'.get? b = some { o with slots:=sl }) (free:∀ b o,b ∉ ch→s.heap.get? b = some o→H b = none→H' b = none)
  (there:∀ b o,b ∉ ch→s.heap.get? b = some o→∃ o',h'.get? b = some o')
  (tups:∀ b xs,H b = some (.tup xs)→H' b = some (.tup xs)) (frzs:∀ b o u,H b = some (.frz o u)→H' b = some (.frz o u)) (tbls:∀ b ps,H b = some (.tbl ps)→∃ more,H' b = some (.tbl (ps ++ more)))
  (ns:∀ m,s.heap.Ns X.env.locals m→h'.Ns X.env.locals m) (hok:HOk X.prog X.w H' h') (hg:AllBare g') :
  Inv X pins σ H' { s with heap:=h',gens:=g',drawn:=d',toks:=t' }:=by
 have neL:∀ b o,X.s₀.heap.get? b = some o→b≠X.env.locals:=fun b o e=>Nat.ne_of_lt (Nat.lt_of_lt_of_le (Heap.lt_size e) I.ok.above)
 have neC:∀ b o,X.s₀.heap.get? b = some o→b ∉ X.ex→b ∉ ch:=fun b o e hx hb=>by
  rcases (hch b hb).1 with z | z
  ·exact hx z
  ·exact absurd (Nat.lt_of_lt_of_le (Heap.lt_size e) z) (Nat.lt_irrefl _)
 have cellK:∀ x c,X.env.cells.lookup x = some c→∀ v,s.heap.IsCell c v→h'.IsCell c v:=fun x c e v ⟨o,ho,hd⟩=>by
  have nch:c ∉ ch:=fun z=>(hch c z).2.2.1 x c e rfl
  by_cases hc:c∈X.fs
  ·obtain ⟨sl,q⟩:=slot c o (I.cne x c e) hc nch ho (I.freeC x c e)
   exact ⟨_,q,hd⟩
  ·exact ⟨o,keep c o (I.cne x c e) hc nch ho (I.freeC x c e),hd⟩
 refine ⟨I.ok,I.os,hg,⟨fun b o e n hb hx=>?_,fun b o e n hb hx=>?_,fun b o e n hx=>?_,fun b o e hx=>?_,fun b xs e=>tups b xs (I.base.tups b xs e),fun b o xs e=>frzs b o xs (I.base.frzs b o xs e),fun b ps e=>?_⟩,?_,fun x c e=>?_,?_,fun x c e=>?_,fun p hp=>?_,hok,I.len⟩
 ·exact keep b o (neL b o e) hb (neC b o e hx) (I.base.keep b o e n hb hx) (I.base.free b o e n hx)
 ·obtain ⟨sl,e1⟩:=I.base.slot b o e n hb hx
  obtain ⟨sl',e2⟩:=slot b _ (neL b o e) hb (neC b o e hx) e1 (I.base.free b o e n hx)
  exact ⟨sl',e2⟩
 ·obtain ⟨o',e1⟩:=I.base.there b o e hx
  exact free b o' (neC b o e hx) e1 (I.base.free b o e n hx)
 ·obtain ⟨o',e1⟩:=I.base.there b o e hx
  exact there b o' (neC b o e hx) e1
 ·obtain ⟨m1,e1⟩:=I.base.tbls b ps e
  obtain ⟨m2,e2⟩:=tbls b _ e1
  exact ⟨m1 ++ m2,by rw [e2,Array.append_assoc]⟩
 ·obtain ⟨m,hn,hl⟩:=I.loc
  refine ⟨m,ns m hn,fun i x v e1 e2 e3=>?_⟩
  obtain ⟨u,r,l⟩:=hl i x v e1 e2 e3
  refine ⟨u,r,?_⟩
  rcases l with l | ⟨k,c,e,z⟩
  ·exact .inl l
  ·exact .inr ⟨k,c,e,cellK x c e _ z⟩
 ·obtain ⟨v,z⟩:=I.cell x c e
  exact ⟨v,cellK x c e v z⟩
 ·obtain ⟨m,⟨o,_,_,ho,_⟩,_⟩:=I.loc
  exact free _ o (fun z=>(hch _ z).2.1 rfl) ho I.free
 ·obtain ⟨v,o,ho,hd⟩:=I.cell x c e
  exact free c o (fun z=>(hch c z).2.2.1 x c e rfl) ho (I.freeC x c e)
 ·obtain ⟨e,n,ne,nf,d⟩:=I.pin p hp
  have nch:p.1 ∉ ch:=fun z=>(hch p.1 z).2.2.2 p hp rfl
  exact ⟨keep p.1 p.2 ne nf nch e n,free p.1 p.2 nch e n,ne,nf,d⟩
theorem Inv.un {t':Nat} (I:Inv X pins σ H s) (u:Un X.fs [] H H' s.heap h') (hok:HOk X.prog X.w H' h'):Inv X pins σ H' { s with heap:=h',toks:=t' }:=by
 obtain ⟨m,⟨o,es,ep,ho,r⟩,_⟩:=id I.loc
 obtain ⟨sl,hL⟩:=u.any ho I.free (by simp)
 exact I.step (g':=s.gens) (d':=s.drawn) (ch:=[]) (fun _ z=>nomatch z) (fun b o _ hb _ e n=>u.keep b o e n hb (by simp)) (fun b o _ hb _ e n=>u.slot b o e n hb (by simp)) (fun b o _ e n=>u.free b o e n (by simp)) (fun b o _ e=>u.there b o e (by simp)) u.tups u.frzs u.tbls (fun m' hm=>by
  obtain ⟨o',es',ep',ho',r'⟩:=hm
  rw [ho] at ho'; cases ho'
  exact ⟨_,es',ep',hL,r'⟩) hok I.bare
theorem Inv.call {g':Array GenState} {t':Nat} {d':Drawn} {ch:List Addr} (I:Inv X pins σ H s) (u:Un (frs X.stack) ch H H' s.heap h') (hok:HOk X.prog X.w H' h') (hg:AllBare g')
  (hch:∀ b∈ch,(b∈X.ex∨X.s₀.heap.objs.size≤b)∧b≠X.env.locals∧(∀ x c,X.env.cells.lookup x = some c→c≠b)∧∀ p∈X.pn ++ pins,p.1≠b) :
  Inv X pins σ H' { s with heap:=h',gens:=g',drawn:=d',toks:=t' }:=by
 obtain ⟨m,⟨o,es,ep,ho,r⟩,_⟩:=id I.loc
 obtain ⟨sl,hL⟩:=u.any ho I.free fun z=>(hch _ z).2.1 rfl
 exact I.step (ch:=ch) hch (fun b o hL hb hc e n=>u.keep b o e n (fun z=>(List.mem_cons.mp (I.stkSub b z)).elim hL hb) hc) (fun b o _ _ hc e n=>u.any e n hc) (fun b o hc e n=>u.free b o e n hc) (fun b o hc e=>u.there b o e hc) u.tups u.frzs u.tbls (fun m' hm=>by
  obtain ⟨o',es',ep',ho',r'⟩:=hm
  rw [ho] at ho'; cases ho'
  exact ⟨_,es',ep',hL,r'⟩) hok hg
theorem Inv.turned {t':Nat} {it:Addr} (I:Inv X pins σ H s) (k:∀ b o,b≠it→s.heap.get? b = some o→h'.get? b = some o) (hn:H it = none) (hL:it≠X.env.locals)
  (h1:it∈X.ex∨X.s₀.heap.objs.size≤it) (h2:∀ x c,X.env.cells.lookup x = some c→c≠it) (h3:∀ p∈X.pn ++ pins,p.1≠it):Inv X pins σ H { s with heap:=h',toks:=t' }:=by
 have nit:∀ b u,H b = some u→b≠it:=fun b u e z=>by rw [z,hn] at e; cases e
 refine I.step (g':=s.gens) (d':=s.drawn) (ch:=[it]) (fun b hb=>?_) (fun b o _ _ hc e _=>k b o (fun z=>hc (by simp [z])) e) (fun b o _ _ hc e _=>⟨o.slots,k b o (fun z=>hc (by simp [z])) e⟩) (fun _ _ _ _ n=>n)
  (fun b o hc e=>⟨o,k b o (fun z=>hc (by simp [z])) e⟩) (fun _ _ e=>e) (fun _ _ _ e=>e) (fun b ps e=>⟨#[],by rw [e]; simp⟩) (fun m hm=>?_) (fun b u e=>?_) I.bare
 ·have e:b = it:=by simpa using hb
  subst e
  exact ⟨h1,hL,h2,h3⟩
 ·obtain ⟨o,es,ep,ho,r⟩:=hm
  exact ⟨o,es,ep,k _ o (Ne.symm hL) ho,r⟩
 ·refine (I.hok b u e).stay (fun c v hc q=>k c v ?_ q) (fun _ q=>q) fun _ _ q=>q
  rcases hc with z | z
  ·rw [z]; exact nit b u e
  ·exact nit c _ z
theorem Inv.tok (I:Inv X pins σ H s) (t:Nat):Inv X pins σ H { s with toks:=t }:=I.un (h':=s.heap) (t':=t) Un.refl I.hok
theorem Inv.kept {t':Nat} (I:Inv X pins σ H s) (k:∀ b u,s.heap.get? b = some u→h'.get? b = some u):Inv X pins σ H { s with heap:=h',toks:=t' }:=I.un (Un.kept k) (I.hok.kept k)
theorem Inv.laid {a:Addr} {o:HO} {t':Nat} (I:Inv X pins σ H s) (k:∀ b u,s.heap.get? b = some u→h'.get? b = some u) (hp:s.heap.objs.size≤a) (new:ObjOk X.prog X.w (upd H a o) h' a o) :
  Inv X pins σ (upd H a o) { s with heap:=h',toks:=t' }:=I.un (Un.laid k hp (I.hok.fresh hp)) (I.hok.laid k hp new)
theorem Inv.write {x e:Addr} {o:HO} {t':Nat} (I:Inv X pins σ H s) (mu:Mut (H x)) (he:e = x∨H e = some (.own x)) (k:∀ b u,b≠e→s.heap.get? b = some u→h'.get? b = some u) (heo:∃ u,h'.get? e = some u)
  (new:ObjOk X.prog X.w (upd H x o) h' x o):Inv X pins σ (upd H x o) { s with heap:=h',toks:=t' }:=I.un (Un.write mu he k heo) (I.hok.write mu he k heo new)
theorem Inv.pins_of {pins':List (Addr × Obj)} (I:Inv X pins σ H s) (h:∀ p∈pins',s.heap.get? p.1 = some p.2∧H p.1 = none∧p.1≠X.env.locals∧p.1 ∉ X.fs∧∀ v,p.2.data ≠ .cell v):Inv X pins' σ H s:=
 ⟨I.ok,I.os,I.bare,I.base,I.loc,I.cell,I.free,I.freeC,fun p hp=>(List.mem_append.mp hp).elim (fun z=>I.pin p (List.mem_append_left _ z)) (h p),I.hok,I.len⟩
theorem nodup_ix {N:List Str} (hN:N.Nodup) {i j:Nat} {x:Str} (a:N[i]? = some x) (b:N[j]? = some x):i = j:=by
 obtain ⟨h1,e1⟩:=List.getElem?_eq_some_iff.mp a
 obtain ⟨h2,e2⟩:=List.getElem?_eq_some_iff.mp b
 exact (List.getElem_inj hN).mp (e1.trans e2.symm)
theorem store_ok2 {M:Model} {A:Around} {E:Value→Shared→Prop} {i:Nat} {x:Str} {v:V} {u:Value} {Q:Unit→Shared→Prop} (I:Inv X pins σ H s) (hN:X.N.Nodup) (hi:X.N[i]? = some x) (hx:Loc X.env.scope x) (r:RelV v u)
  (h:∀ s',Inv X pins (σ.set i (some v)) H s'→(∃ a,Heap.SameBut a s.heap s'.heap∧(a = X.env.locals∨X.env.cells.lookup x = some a))→Q () s') (hf:X.fn x = true∨X.env.scope.names.lookup x = some .local:=by first | exact .inl rfl | exact .inr rfl | assumption):wpAny M A (storeName X.env x u) Q E s:=by
 obtain ⟨m,hn,hl⟩:=id I.loc
 have hcls:(X.env.scope.kind == .class || (X.env.scope.kind == .module && X.env.locals != X.env.globals)) = false:=by rw [I.ok.kind]; rfl
 have hiσ:i < σ.length:=by rw [I.len]; exact (List.getElem?_eq_some_iff.mp hi).1
 have cne:=I.cne
 have tracked:∀ {a:Addr} {h':Heap},(∃ o,s.heap.get? a = some o∧H a = none)→Heap.SameBut a s.heap h'→HOk X.prog X.w H h':=fun {a h'} ha hs b ob e=>by
  obtain ⟨_,_,hfree⟩:=ha
  refine (I.hok b ob e).stay (fun c w' hc q=>(hs.2 c ?_).trans q) (fun _ q=>q) fun _ _ q=>q
  rintro rfl
  rcases hc with rfl | hc
  ·rw [hfree] at e; cases e
  ·rw [hfree] at hc; cases hc
 rcases hx with hk | hk
 ·refine wpAny_storeName_local hk hn (fun h' hn' hs=>?_) hcls
  obtain ⟨oL,_,_,hoL,_⟩:=id hn
  refine h _ ⟨I.ok,I.os,I.bare,⟨fun b o e n hb hx=>?_,fun b o e n hb hx=>?_,I.base.free,fun b o e hx=>?_,I.base.tups,I.base.frzs,I.base.tbls⟩,⟨_,hn',fun j y v' e1 e2 e3=>?_⟩,fun y c e=>?_,I.free,I.freeC,fun p hp=>?_,tracked ⟨oL,hoL,I.free⟩ hs,by simpa using I.len⟩ ⟨_,hs,.inl rfl⟩
  ·exact (hs.2 b (Nat.ne_of_lt (Nat.lt_of_lt_of_le (Heap.lt_size e) I.ok.above))).trans (I.base.keep b o e n hb hx)
  ·obtain ⟨sl,e1⟩:=I.base.slot b o e n hb hx
   exact ⟨sl,(hs.2 b (Nat.ne_of_lt (Nat.lt_of_lt_of_le (Heap.lt_size e) I.ok.above))).trans e1⟩
  ·obtain ⟨o',e1⟩:=I.base.there b o e hx
   exact ⟨o',(hs.2 b (Nat.ne_of_lt (Nat.lt_of_lt_of_le (Heap.lt_size e) I.ok.above))).trans e1⟩
  ·by_cases hj:j = i
   ·subst hj
    rw [hi] at e1; cases e1
    rw [List.getElem?_set_self hiσ] at e2
    cases e2
    exact ⟨u,r,.inl ⟨hk,by simp⟩⟩
   ·rw [List.getElem?_set_ne (Ne.symm hj)] at e2
    obtain ⟨u',r',q⟩:=hl j y v' e1 e2 e3
    refine ⟨u',r',?_⟩
    rcases q with ⟨k,e⟩ | ⟨k,c,e,z⟩
    ·refine .inl ⟨k,?_⟩
     have:y≠x:=fun e=>hj (nodup_ix hN e1 (e ▸ hi))
     simp [this,e]
    ·exact .inr ⟨k,c,e,z.sameBut hs (cne y c e)⟩
  ·obtain ⟨w',z⟩:=I.cell y c e
   exact ⟨w',z.sameBut hs (cne y c e)⟩
  ·obtain ⟨e,n,ne,nf,d⟩:=I.pin p hp
   exact ⟨(hs.2 p.1 ne).trans e,n,ne,nf,d⟩
 ·have hfn:X.fn x = true:=by
   rcases hf with z | z
   ·exact z
   ·rw [z] at hk; cases hk
  obtain ⟨c,hc⟩:=I.ok.has x (.inl hk)
  obtain ⟨w',z⟩:=I.cell x c hc
  refine wpAny_storeName_cell I.ok.kind hk hc z (fun h' hc' hs=>?_)
  obtain ⟨oc,hoc,hocd⟩:=id z
  refine h { s with heap:=h' } ⟨I.ok,I.os,I.bare,⟨fun b o e n hb hx=>?_,fun b o e n hb hx=>?_,I.base.free,fun b o e hx=>?_,I.base.tups,I.base.frzs,I.base.tbls⟩,⟨m,hn.sameBut hs (Ne.symm (cne x c hc)),fun j y v' e1 e2 e3=>?_⟩,fun y c' e=>?_,I.free,I.freeC,fun p hp=>?_,tracked ⟨oc,hoc,I.freeC x c hc⟩ hs,by simpa using I.len⟩ ⟨c,hs,.inr hc⟩
  ·exact (hs.2 b (Nat.ne_of_lt (Nat.lt_of_lt_of_le (Heap.lt_size e) (I.ok.cab x c hfn hc)))).trans (I.base.keep b o e n hb hx)
  ·obtain ⟨sl,e1⟩:=I.base.slot b o e n hb hx
   exact ⟨sl,(hs.2 b (Nat.ne_of_lt (Nat.lt_of_lt_of_le (Heap.lt_size e) (I.ok.cab x c hfn hc)))).trans e1⟩
  ·obtain ⟨o',e1⟩:=I.base.there b o e hx
   exact ⟨o',(hs.2 b (Nat.ne_of_lt (Nat.lt_of_lt_of_le (Heap.lt_size e) (I.ok.cab x c hfn hc)))).trans e1⟩
  ·by_cases hj:j = i
   ·subst hj
    rw [hi] at e1; cases e1
    rw [List.getElem?_set_self hiσ] at e2
    cases e2
    exact ⟨u,r,.inr ⟨.inl hk,c,hc,hc'⟩⟩
   ·rw [List.getElem?_set_ne (Ne.symm hj)] at e2
    obtain ⟨u',r',q⟩:=hl j y v' e1 e2 e3
    refine ⟨u',r',?_⟩
    rcases q with q | ⟨k,c',e,z'⟩
    ·exact .inl q
    ·refine .inr ⟨k,c',e,z'.sameBut hs ?_⟩
     rintro rfl
     exact hj (nodup_ix hN e1 (I.ok.inj _ _ _ e hc ▸ hi))
  ·by_cases hcc:c' = c
   ·subst hcc; exact ⟨_,hc'⟩
   ·obtain ⟨w2,z2⟩:=I.cell y c' e
    exact ⟨w2,z2.sameBut hs hcc⟩
  ·obtain ⟨e,n,ne,nf,d⟩:=I.pin p hp
   refine ⟨(hs.2 p.1 ?_).trans e,n,ne,nf,d⟩
   intro q
   rw [q,hoc] at e
   have q':oc = p.2:=Option.some.inj e
   exact d w' (by rw [← q']; exact hocd)
theorem store_ok {M:Model} {A:Around} {E:Value→Shared→Prop} {i:Nat} {x:Str} {v:V} {u:Value} {Q:Unit→Shared→Prop} (I:Inv X pins σ H s) (hN:X.N.Nodup) (hi:X.N[i]? = some x) (hx:Loc X.env.scope x) (r:RelV v u)
  (h:∀ s',Inv X pins (σ.set i (some v)) H s'→Q () s') (hf:X.fn x = true∨X.env.scope.names.lookup x = some .local:=by first | exact .inl rfl | exact .inr rfl | assumption):wpAny M A (storeName X.env x u) Q E s:=
 store_ok2 I hN hi hx r (fun s' I' _=>h s' I') hf
theorem Inv.call' {s':Shared} {ch:List Addr} (I:Inv X pins σ H s) (ho:s'.os = s.os) (u:Un (frs X.stack) ch H H' s.heap s'.heap) (hok:HOk X.prog X.w H' s'.heap) (hg:AllBare s'.gens)
  (hch:∀ b∈ch,(b∈X.ex∨X.s₀.heap.objs.size≤b)∧b≠X.env.locals∧(∀ x c,X.env.cells.lookup x = some c→c≠b)∧∀ p∈X.pn ++ pins,p.1≠b):Inv X pins σ H' s':=by
 obtain ⟨h',g',d',t',o'⟩:=s'
 have e:o' = s.os:=ho
 subst e
 exact I.call (g':=g') (t':=t') (d':=d') u hok hg hch
end
noncomputable abbrev XK:=Value→Option Addr→Hp→Prop
noncomputable abbrev St:=List (Option V)
noncomputable abbrev VK:=V→Hp→Prop
noncomputable abbrev TE:=St→Hp→VK→Prop
noncomputable abbrev TT:=St→Hp→(Bool→Hp→Prop)→Prop
noncomputable abbrev TA:=St→Hp→(List V→Hp→Prop)→Prop
structure Ends where
 nx:St→Hp→Prop
 rt:VK
 bk:St→Hp→Prop:=fun _ _=>False
 ct:St→Hp→Prop:=fun _ _=>False
noncomputable abbrev TS:=Ends→St→Hp→Prop
noncomputable def EP (X:Cx) (pins:List (Addr × Obj)) (σ:St) (Q:VK) (u:Value) (s':Shared):Prop:=∃ v H',Inv X pins σ H' s'∧RelV v u∧Q v H'
noncomputable def TP (X:Cx) (pins:List (Addr × Obj)) (σ:St) (Q:Bool→Hp→Prop) (b:Bool) (s':Shared):Prop:=∃ H',Inv X pins σ H' s'∧Q b H'
noncomputable def AP (X:Cx) (pins:List (Addr × Obj)) (σ:St) (Q:List V→Hp→Prop) (us:List Value) (s':Shared):Prop:=∃ vs H',Inv X pins σ H' s'∧Vals vs us∧Q vs H'
noncomputable def SP (X:Cx) (pins:List (Addr × Obj)) (D:Ends) (f:Flow) (s':Shared):Prop:=
 match f with
 | .next=>∃ σ' H',Inv X pins σ' H' s'∧D.nx σ' H'
 | .brk=>∃ σ' H',Inv X pins σ' H' s'∧D.bk σ' H'
 | .cont=>∃ σ' H',Inv X pins σ' H' s'∧D.ct σ' H'
 | .ret u=>∃ v σ' H',Inv X pins σ' H' s'∧RelV v u∧D.rt v H'
noncomputable def PE (X:Cx) (e:Expr) (t:TE):Prop:=
 ∀ (pins:List (Addr × Obj)) (s:Shared) (σ:St) (H:Hp) (Q:VK),Inv X pins σ H s→t σ H Q→wpAny (model X.prog X.w) X.A (eval e X.env) (EP X pins σ Q) X.xe s
noncomputable def PT (X:Cx) (e:Expr) (t:TT):Prop:=
 ∀ (pins:List (Addr × Obj)) (s:Shared) (σ:St) (H:Hp) (Q:Bool→Hp→Prop),Inv X pins σ H s→t σ H Q→wpAny (model X.prog X.w) X.A (isTrue e X.env (eval e X.env)) (TP X pins σ Q) X.xe s
noncomputable def PW (X:Cx) (e:Expr) (t:TT):Prop:=
 ∀ (whole:Sem Value) (pins:List (Addr × Obj)) (s:Shared) (σ:St) (H:Hp) (Q:Bool→Hp→Prop),Inv X pins σ H s→t σ H Q→wpAny (model X.prog X.w) X.A (isTrue e X.env whole) (TP X pins σ Q) X.xe s
theorem PW.pt {X:Cx} {e:Expr} {t:TT} (h:PW X e t):PT X e t:=h _
noncomputable def PA (X:Cx) (es:List Expr) (t:TA):Prop:=
 ∀ (pos:Pos) (pins:List (Addr × Obj)) (s:Shared) (σ:St) (H:Hp) (Q:List V→Hp→Prop),Inv X pins σ H s→t σ H Q→wpAny (model X.prog X.w) X.A (spliced (backTo pos (starEach es X.env))) (AP X pins σ Q) X.xe s
noncomputable def PS (X:Cx) (st:Stmt) (t:TS):Prop:=
 ∀ (pins:List (Addr × Obj)) (s:Shared) (σ:St) (H:Hp) (D:Ends),Inv X pins σ H s→t D σ H→wpAny (model X.prog X.w) X.A (exec st X.env) (SP X pins D) X.xe s
noncomputable def PSs (X:Cx) (st:List Stmt) (t:TS):Prop:=
 ∀ (pins:List (Addr × Obj)) (s:Shared) (σ:St) (H:Hp) (D:Ends),Inv X pins σ H s→t D σ H→wpAny (model X.prog X.w) X.A (execs st X.env) (SP X pins D) X.xe s
theorem thn {α:Type} {t:Sem α} {Q Q':α → Shared→Prop} {M:Model} {A:Around} {E:Value→Shared→Prop} {s:Shared} (h:wpAny M A t Q E s) (hQ:∀ a s,Q a s→Q' a s):wpAny M A t Q' E s:=wpAny_mono h hQ fun _ _ x=>x
end L2
namespace L2
open PySem PySem.Spec PyProof.Rows
section
variable {X:Cx}
noncomputable def tVar (i:Nat):TE:=fun σ H Q=>∃ v,σ[i]? = some (some v)∧Q v H
noncomputable def tC (v:V):TE:=fun _ H Q=>Q v H
theorem pe_var {i:Nat} {x:Str} {pos:Pos} (hN:X.N[i]? = some x) (hv:Vis X.env.scope x) (hd:(x == ("__debug__" : Str)) = false:=by decide) (hcd:(x == ("__classdict__" : Str)) = false:=by decide):PE X (.Name x pos) (tVar i):=by
 intro pins s σ H Q I h
 obtain ⟨v,e,h⟩:=h
 obtain ⟨m,hn,hl⟩:=I.loc
 obtain ⟨u,r,l⟩:=hl i x v hN e hv
 have fin:EP X pins σ Q u s:=⟨v,H,I,r,h⟩
 rcases l with ⟨hk,hm⟩ | ⟨hk,c,hc,hcell⟩
 ·exact wpAny_Name (wpAny_loadName_local I.ok.kind hk hn hm fin) hd
 ·rcases hk with hk | hk
  ·exact wpAny_Name (wpAny_loadName_cell I.ok.kind hk hc hcell fin) hd
  ·exact wpAny_Name (wpAny_loadName_free I.ok.kind hk hc hcell fin hcd) hd
theorem pe_int {i j pos}:PE X (.Constant (.int i) j pos) (tC (.int i)):=fun _ _ _ H _ I h=>wpAny_Constant_int ⟨.int i,H,I.tok _,⟨_,rfl⟩,h⟩
theorem pe_bl {b j pos}:PE X (.Constant (.bool b) j pos) (tC (.bl b)):=fun _ _ _ H _ I h=>Constant_bool ⟨.bl b,H,I,rfl,h⟩
theorem pe_non {j pos}:PE X (.Constant .none j pos) (tC .non):=fun _ _ _ H _ I h=>Constant_none ⟨.non,H,I,rfl,h⟩
theorem pe_str {x j pos}:PE X (.Constant (.str x) j pos) (tC (.str x)):=fun _ _ _ H _ I h=>Calls.Constant_str ⟨.str x,H,I.tok _,⟨_,rfl⟩,h⟩
noncomputable def Gl (X:Cx) (x:Str):Prop:=X.env.kindOf x = some .globalImplicit
theorem ld_glob {E:Value→Shared→Prop} {pins:List (Addr × Obj)} {s:Shared} {σ:St} {H:Hp} {x:Str} {u:Value} {pos:Pos} {Q:Value→Shared→Prop} (I:Inv X pins σ H s) (hg:Gl X x) (hm:X.mg x = some u) (h:Q u s)
  (hd:(x == ("__debug__" : Str)) = false:=by decide):wpAny (model X.prog X.w) X.A (eval (.Name x pos) X.env) Q E s:=
 Calls.Name_function_global I.ok.kind hg (Calls.loadGlobal_global (by rw [I.ok.glob]; exact I.mod.glob.keeps I.bk) hm h) hd
theorem ld_blt {E:Value→Shared→Prop} {pins:List (Addr × Obj)} {s:Shared} {σ:St} {H:Hp} {x:Str} {u:Value} {pos:Pos} {Q:Value→Shared→Prop} (I:Inv X pins σ H s) (hg:Gl X x) (hm:X.mg x = none) (hv:bootBuiltins x = some u) (h:Q u s)
  (hn:x ≠ "__name__" := by decide) (hd:(x == ("__debug__" : Str)) = false:=by decide):wpAny (model X.prog X.w) X.A (eval (.Name x pos) X.env) Q E s:=by
 obtain ⟨mb,h1,h2⟩:=I.mod.blt
 exact Calls.Name_function_global I.ok.kind hg (Calls.loadGlobal_builtin (by rw [I.ok.glob]; exact I.mod.glob.keeps I.bk) hm (by rw [I.ok.blt]; exact h1.keeps I.bk) ((h2 x hn).trans hv) h) hd
theorem pe_glob {x:Str} {v:V} {u:Value} {pos:Pos} (hg:Gl X x) (hm:X.mg x = some u) (r:RelV v u) (hd:(x == ("__debug__" : Str)) = false:=by decide):PE X (.Name x pos) (tC v):=
 fun _ _ _ H _ I h=>ld_glob I hg hm ⟨v,H,I,r,h⟩ hd
theorem pe_bltn {x:Str} {v:V} {u:Value} {pos:Pos} (hg:Gl X x) (hm:X.mg x = none) (hv:bootBuiltins x = some u) (r:RelV v u) (hn:x ≠ "__name__" := by decide) (hd:(x == ("__debug__" : Str)) = false:=by decide):PE X (.Name x pos) (tC v):=
 fun _ _ _ H _ I h=>ld_blt I hg hm hv ⟨v,H,I,r,h⟩ hn hd
variable {a b:Expr} {ta tb:TE} {pos:Pos}
noncomputable def tB (t:TE):TT:=fun σ H Q=>t σ H fun x H1=>∃ c,x = .bl c∧Q c H1
theorem pt_val {e:Expr} {t:TE} (h:PE X e t) (he:∀ whole,isTrue e X.env whole = (do let v ← whole; standAt e.pos; holding [v] (truthy v)):=by intro _; rfl):PT X e (tB t):=by
 intro pins s σ H Q I hw
 refine isTrue_plain (thn (h pins s σ H _ I hw) fun v s1 ⟨x,H1,I1,r1,q1⟩=>?_) (he _)
 obtain ⟨d,rfl,q⟩:=q1
 cases r1
 exact wpAny_truthy_bool ⟨H1,I1,q⟩
variable {tA tB':TT} {rest:List Expr}
noncomputable def tAnd (t u:TT):TT:=fun σ H Q=>t σ H fun c H1=>if c = true then u σ H1 Q else Q false H1
noncomputable def tOr (t u:TT):TT:=fun σ H Q=>t σ H fun c H1=>if c = true then Q true H1 else u σ H1 Q
noncomputable def tNot (t:TT):TT:=fun σ H Q=>t σ H fun c H1=>Q (!c) H1
theorem pw_and1 (ha:PT X a tA):PW X (.BoolOp .And [a] pos) tA:=by
 intro wh pins s σ H Q I h
 refine isTrue_and (thn (ha pins s σ H Q I h) fun c s1 e=>?_)
 cases c with
 | true=>exact isTrue_and_nil e
 | false=>exact e
theorem pw_or1 (ha:PT X a tA):PW X (.BoolOp .Or [a] pos) tA:=by
 intro wh pins s σ H Q I h
 refine isTrue_or (thn (ha pins s σ H Q I h) fun c s1 e=>?_)
 cases c with
 | false=>exact isTrue_or_nil e
 | true=>exact e
theorem pw_and (ha:PT X a tA) (hb:PW X (.BoolOp .And (b :: rest) pos) tB'):PW X (.BoolOp .And (a :: b :: rest) pos) (tAnd tA tB'):=by
 intro wh pins s σ H Q I h
 refine isTrue_and (thn (ha pins s σ H _ I h) fun c s1 yy=>?_)
 obtain ⟨H1,I1,q1⟩:=yy
 cases c with
 | true=>exact hb wh pins s1 σ H1 Q I1 q1
 | false=>exact ⟨H1,I1,q1⟩
theorem pw_or (ha:PT X a tA) (hb:PW X (.BoolOp .Or (b :: rest) pos) tB'):PW X (.BoolOp .Or (a :: b :: rest) pos) (tOr tA tB'):=by
 intro wh pins s σ H Q I h
 refine isTrue_or (thn (ha pins s σ H _ I h) fun c s1 yy=>?_)
 obtain ⟨H1,I1,q1⟩:=yy
 cases c with
 | true=>exact ⟨H1,I1,q1⟩
 | false=>exact hb wh pins s1 σ H1 Q I1 q1
theorem pt_not (ha:PT X a tA):PT X (.UnaryOp .Not a pos) (tNot tA):=by
 intro pins s σ H Q I h
 exact isTrue_not (ha pins s σ H (fun c H1=>Q (!c) H1) I h)
noncomputable def tAndV (ta tb:TE):TE:=fun σ H Q=>ta σ H fun x H1=>∃ c,x = .bl c∧if c = true then tb σ H1 Q else Q (.bl false) H1
noncomputable def tNotV (ta:TE):TE:=fun σ H Q=>ta σ H fun x H1=>∃ c,x = .bl c∧Q (.bl (!c)) H1
theorem pe_one {op} {t:TE} (h:PE X a t):PE X (.BoolOp op [a] pos) t:=fun pins s σ H Q I hw=>BoolOp_one (h pins s σ H Q I hw)
theorem pe_and (ha:PE X a ta) (hb:PE X (.BoolOp .And (b :: rest) pos) tb):PE X (.BoolOp .And (a :: b :: rest) pos) (tAndV ta tb):=by
 intro pins s σ H Q I h
 refine BoolOp_and (thn (ha pins s σ H _ I h) fun v s1 yy=>?_)
 obtain ⟨x,H1,I1,r1,q1⟩:=yy
 obtain ⟨c,rfl,q1⟩:=q1
 cases r1
 refine wpAny_truthy_bool ?_
 cases c with
 | true=>exact hb pins s1 σ H1 Q I1 q1
 | false=>exact ⟨.bl false,H1,I1,rfl,q1⟩
theorem pe_not (ha:PE X a ta):PE X (.UnaryOp .Not a pos) (tNotV ta):=by
 intro pins s σ H Q I h
 refine UnaryOp_ (thn (ha pins s σ H _ I h) fun v s1 yy=>?_)
 obtain ⟨x,H1,I1,r1,q1⟩:=yy
 obtain ⟨c,rfl,q1⟩:=q1
 cases r1
 exact not_of (wpAny_truthy_bool ⟨.bl (!c),H1,I1,rfl,q1⟩)
end
end L2
namespace L2
open PySem PySem.Spec PyProof.Rows
noncomputable def SqL (K:PySem.W.Frag) (H:Hp) (a:Addr) (xs:List V):Prop:=
 Rd H a (.lst xs) ∨
  ∃ (o:Obj) (its:Array Value) (n:Nat),K.lookup a = some o∧o.cls = .type "list" ∧ o.dict = none∧o.data = .seq its n∧its.size≤sizeLine∧Vals xs its.toList
noncomputable def SqT (K:PySem.W.Frag) (H:Hp) (a:Addr) (xs:List V):Prop:=
 Rd H a (.tup xs) ∨
  ∃ (o:Obj) (its:Array Value) (n:Nat),K.lookup a = some o∧o.cls = .type "tuple" ∧ o.data = .seq its n∧its.size≤sizeLine∧Vals xs its.toList
noncomputable def absV:Value→Option V
 | .none=>some .non
 | .bool b=>some (.bl b)
 | .int i _=>some (.int i)
 | .str x _=>some (.str x)
 | .bytes b _=>some (.byt b)
 | .float b _=>some (.flt b)
 | .ref a=>some (.ref a)
 | .type n=>some (.ty n)
 | _=>none
theorem RelV.abs {x:V} {u:Value} (r:RelV x u):absV u = some x:=by
 cases x with
 | non=>cases r; rfl
 | bl _=>cases r; rfl
 | int _=>obtain ⟨t,rfl⟩:=r; rfl
 | str _=>obtain ⟨t,rfl⟩:=r; rfl
 | byt _=>obtain ⟨t,rfl⟩:=r; rfl
 | flt _=>obtain ⟨t,rfl⟩:=r; rfl
 | ref _=>cases r; rfl
 | ty _=>cases r; rfl
theorem RelV.inj {x y:V} {u:Value} (r:RelV x u) (q:RelV y u):x = y:=Option.some.inj (r.abs.symm.trans q.abs)
theorem Vals.inj {xs ys:List V} {us:List Value} (h:Vals xs us):Vals ys us→xs = ys:=by
 induction h generalizing ys with
 | nil=>intro q; cases q; rfl
 | cons r t ih =>
  intro q
  cases q with
  | cons r' t'=>rw [r.inj r',ih t']
section
variable {X:Cx} {pins:List (Addr × Obj)} {σ:St} {H:Hp} {s:Shared} {a:Addr} {xs ys:List V}
theorem Inv.list (I:Inv X pins σ H s) (h:SqL X.K H a xs):∃ its:List Value,Vals xs its∧PlainL s.heap a its.toArray∧xs.length≤sizeLine:=by
 rcases h with h | ⟨o,its,n,hk,hc,hd,hs,hz,r⟩
 ·obtain ⟨z,its,n,r,e⟩:=h.ok I.hok
  exact ⟨its,r,⟨_,n,e,rfl,rfl,rfl⟩,z⟩
 ·refine ⟨its.toList,r,⟨o,n,I.kIn a o hk,hc,hd,by simpa using hs⟩,?_⟩
  have e:=r.length
  simp only [Array.length_toList] at e
  lia
theorem Inv.tuple (I:Inv X pins σ H s) (h:SqT X.K H a xs):∃ its:List Value,Vals xs its∧IsTup s.heap a its.toArray∧xs.length≤sizeLine:=by
 rcases h with h | ⟨o,its,n,hk,hc,hs,hz,r⟩
 ·obtain ⟨z,its,r,p⟩:=h.ok I.hok
  exact ⟨its,r,p,z⟩
 ·refine ⟨its.toList,r,⟨o,I.kIn a o hk,hc,n,by simpa using hs⟩,?_⟩
  have e:=r.length
  simp only [Array.length_toList] at e
  lia
theorem Inv.list_inj (I:Inv X pins σ H s) (h:SqL X.K H a xs) (h':SqL X.K H a ys):xs = ys:=by
 obtain ⟨its,r,⟨o,n,e,_,_,d⟩,_⟩:=I.list h
 obtain ⟨its',r',⟨o',n',e',_,_,d'⟩,_⟩:=I.list h'
 rw [e] at e'; cases e'
 rw [d] at d'
 injection d' with d1 _
 have:its = its':=by simpa using congrArg Array.toList d1
 subst this
 exact r.inj r'
theorem Inv.tuple_inj (I:Inv X pins σ H s) (h:SqT X.K H a xs) (h':SqT X.K H a ys):xs = ys:=by
 obtain ⟨its,r,⟨o,e,_,n,d⟩,_⟩:=I.tuple h
 obtain ⟨its',r',⟨o',e',_,n',d'⟩,_⟩:=I.tuple h'
 rw [e] at e'; cases e'
 rw [d] at d'
 injection d' with d1 _
 have:its = its':=by simpa using congrArg Array.toList d1
 subst this
 exact r.inj r'
end
noncomputable abbrev Cx.wish (X:Cx) (E:Value→Shared→Prop):Cx:={ X with xe:=E }
noncomputable abbrev Cx.nox (X:Cx):Cx:=X.wish fun _ _=>False
theorem Cx.Ok.wish {X:Cx} (ok:X.Ok) (E:Value→Shared→Prop):(X.wish E).Ok:=
 ⟨ok.mod,ok.kind,ok.glob,ok.blt,ok.above,ok.inj,ok.has,ok.cab,ok.hd,ok.frames,ok.stk,ok.exf,ok.bs,ok.bsz,ok.noex,ok.exfs,ok.funs,ok.frf,ok.tb⟩
theorem Cx.Ok.unwish {X:Cx} {E:Value→Shared→Prop} (ok:(X.wish E).Ok):X.Ok:=
 ⟨ok.mod,ok.kind,ok.glob,ok.blt,ok.above,ok.inj,ok.has,ok.cab,ok.hd,ok.frames,ok.stk,ok.exf,ok.bs,ok.bsz,ok.noex,ok.exfs,ok.funs,ok.frf,ok.tb⟩
section
variable {X:Cx} {pins:List (Addr × Obj)} {σ:St} {H:Hp} {s:Shared} {E:Value→Shared→Prop}
theorem Inv.wish (I:Inv X pins σ H s) (E:Value→Shared→Prop):Inv (X.wish E) pins σ H s:=⟨I.ok.wish E,I.os,I.bare,I.base,I.loc,I.cell,I.free,I.freeC,I.pin,I.hok,I.len⟩
theorem Inv.unwish (I:Inv (X.wish E) pins σ H s):Inv X pins σ H s:=⟨I.ok.unwish,I.os,I.bare,I.base,I.loc,I.cell,I.free,I.freeC,I.pin,I.hok,I.len⟩
theorem SP.unwish {D:Ends} {f:Flow} {s':Shared} (h:SP (X.wish E) pins D f s'):SP X pins D f s':=by
 cases f with
 | next=>obtain ⟨σ',H',I,q⟩:=h; exact ⟨σ',H',I.unwish,q⟩
 | brk=>obtain ⟨σ',H',I,q⟩:=h; exact ⟨σ',H',I.unwish,q⟩
 | cont=>obtain ⟨σ',H',I,q⟩:=h; exact ⟨σ',H',I.unwish,q⟩
 | ret u=>obtain ⟨v,σ',H',I,r,q⟩:=h; exact ⟨v,σ',H',I.unwish,r,q⟩
theorem PSs.nox {st:List Stmt} {t:TS} (h:PSs X.nox st t):PSs X st t:=fun pins s σ H D I hw =>
 wpAny_mono (h pins s σ H D (I.wish _) hw) (fun _ _ q=>q.unwish) fun _ _ z=>False.elim z
end
section
variable {X:Cx} {st:Stmt} {rest:List Stmt} {t u:TS} {e:Expr} {te:TE} {pos:Pos}
noncomputable def tNext:TS:=fun D σ H=>D.nx σ H
noncomputable def tSeq (t u:TS):TS:=fun D σ H=>t { D with nx:=u D } σ H
theorem pss_nil:PSs X [] tNext:=fun _ _ σ H _ I h=>wpAny_execs_nil ⟨σ,H,I,h⟩
theorem pss_cons (h1:PS X st t) (h2:PSs X rest u):PSs X (st :: rest) (tSeq t u):=by
 intro pins s σ H D I h
 refine wpAny_execs_cons (thn (h1 pins s σ H { D with nx:=u D } I h) fun f s1 q=>?_)
 cases f with
 | next =>
  obtain ⟨σ',H',I',q⟩:=q
  exact h2 pins s1 σ' H' D I' q
 | ret v=>exact q
 | brk=>exact q
 | cont=>exact q
theorem pss_one (h1:PS X st t):PSs X [st] t:=by
 intro pins s σ H D I h
 refine wpAny_execs_cons (thn (h1 pins s σ H D I h) fun f s1 q=>?_)
 cases f with
 | next=>exact wpAny_execs_nil q
 | ret v=>exact q
 | brk=>exact q
 | cont=>exact q
noncomputable def tBreak:TS:=fun D σ H=>D.bk σ H
theorem ps_break:PS X (.Break pos) tBreak:=fun _ _ σ H _ I h=>wpAny_Break ⟨σ,H,I,h⟩
theorem Inv.quiet {pins:List (Addr × Obj)} {σ:St} {H:Hp} {s:Shared} (I:Inv X pins σ H s):interactive X.env = false:=by simp [interactive,I.ok.kind]
noncomputable def tDrop (te:TE):TS:=fun D σ H=>te σ H fun _ H1=>D.nx σ H1
theorem ps_expr (he:PE X e te) (hs:swapsWith e none pos.line X.env = pure false:=by rfl):PS X (.Expr e pos) (tDrop te):=by
 intro pins s σ H D I h
 exact wpAny_Expr_any (thn (he pins s σ H _ I h) fun v s1 ⟨x,H1,I1,r1,q1⟩=>⟨σ,H1,I1,q1⟩) I.quiet hs
noncomputable def tRet (te:TE):TS:=fun D σ H=>te σ H D.rt
theorem ps_ret (he:PE X e te):PS X (.Return (some e) pos) (tRet te):=by
 intro pins s σ H D I h
 exact wpAny_Return_some (thn (he pins s σ H _ I h) fun v s1 ⟨x,H1,I1,r1,q1⟩=>⟨x,σ,H1,I1,r1,q1⟩)
noncomputable def tIfS (c:TT) (t u:TS):TS:=fun D σ H=>c σ H fun b H1=>if b = true then t D σ H1 else u D σ H1
theorem ps_if {c:Expr} {a b:List Stmt} {tc:TT} (hc:PT X c tc) (ha:PSs X a t) (hb:PSs X b u):PS X (.If c a b pos) (tIfS tc t u):=by
 intro pins s σ H D I h
 refine wpAny_If (thn (hc pins s σ H _ I h) fun d s1 yy=>?_)
 obtain ⟨H1,I1,q1⟩:=yy
 cases d with
 | true=>exact ha pins s1 σ H1 D I1 q1
 | false=>exact hb pins s1 σ H1 D I1 q1
end
noncomputable abbrev TG:=V→St→Hp→(St→Hp→Prop)→Prop
noncomputable abbrev TGs:=List V→St→Hp→(St→Hp→Prop)→Prop
noncomputable def PG (X:Cx) (target:Expr) (t:TG):Prop:=
 ∀ (pins:List (Addr × Obj)) (s:Shared) (σ:St) (H:Hp) (v:V) (u:Value) (Q:St→Hp→Prop),Inv X pins σ H s→RelV v u→t v σ H Q →
  wpAny (model X.prog X.w) X.A (assign target X.env u) (fun _ s'=>∃ σ' H',Inv X pins σ' H' s'∧Q σ' H') X.xe s
noncomputable def PGs (X:Cx) (ts:List Expr) (t:TGs):Prop:=
 ∀ (pins:List (Addr × Obj)) (s:Shared) (σ:St) (H:Hp) (vs:List V) (us:List Value) (Q:St→Hp→Prop),Inv X pins σ H s→Vals vs us→t vs σ H Q →
  wpAny (model X.prog X.w) X.A (assignInOrder ((assignEach ts X.env).map (·.2)) us) (fun _ s'=>∃ σ' H',Inv X pins σ' H' s'∧Q σ' H') X.xe s
noncomputable abbrev TSet:=V→V→V→Hp→(Hp→Prop)→Prop
noncomputable def PSet (X:Cx) (t:TSet):Prop:=
 ∀ (pins:List (Addr × Obj)) (s:Shared) (σ:St) (H:Hp) (o i v:V) (ov iv u:Value) (Q:Hp→Prop),Inv X pins σ H s→RelV o ov→RelV i iv→RelV v u→t o i v H Q →
  wpAny (model X.prog X.w) X.A (setItem ov iv u) (fun _ s'=>∃ H',Inv X pins σ H' s'∧Q H') X.xe s
section
variable {X:Cx} {pos:Pos}
noncomputable def gName (i:Nat):TG:=fun v σ H Q=>Q (σ.set i (some v)) H
theorem pg_name {i:Nat} {x:Str} (hN:X.N.Nodup) (hi:X.N[i]? = some x) (hx:Loc X.env.scope x) (hf:X.fn x = true∨X.env.scope.names.lookup x = some .local:=by first | exact .inl rfl | exact .inr rfl | assumption):PG X (.Name x pos) (gName i):=by
 intro pins s σ H v u Q I r h
 exact wpAny_assign_Name (store_ok I hN hi hx r (fun s' I'=>⟨_,H,I',h⟩) hf)
noncomputable def gNil:TGs:=fun vs σ H Q=>vs = []∧Q σ H
noncomputable def gCons (t:TG) (u:TGs):TGs:=fun vs σ H Q=>∃ v r,vs = v :: r∧t v σ H fun σ' H'=>u r σ' H' Q
theorem pgs_nil:PGs X [] gNil:=by
 intro pins s σ H vs us Q I r h
 obtain ⟨e,h⟩:=h
 subst e
 cases r
 exact assignInOrder_nil ⟨σ,H,I,h⟩
theorem pgs_cons {e:Expr} {es:List Expr} {t:TG} {u:TGs} (h1:PG X e t) (h2:PGs X es u)
  (hs:(assignEach (e :: es) X.env).map (·.2) = assign e X.env :: (assignEach es X.env).map (·.2):=by rfl):PGs X (e :: es) (gCons t u):=by
 intro pins s σ H vs us Q I r h
 obtain ⟨v,vr,e1,h⟩:=h
 subst e1
 cases r with
 | cons r rr =>
  rw [hs]
  refine assignInOrder_cons (thn (h1 pins s σ H _ _ _ I r h) fun _ s1 yy=>?_)
  obtain ⟨σ1,H1,I1,q1⟩:=yy
  exact h2 pins s1 σ1 H1 _ _ Q I1 rr q1
noncomputable def gTup (K:PySem.W.Frag) (n:Nat) (t:TGs):TG:=fun v σ H Q=>∃ a xs,v = .ref a∧SqT K H a xs∧xs.length = n∧t xs σ H Q
theorem pg_tup {es:List Expr} {k:Nat} {t:TGs} {n:Nat} (hc:X.calm = true) (h:PGs X es t)
  (hn:(assignEach es X.env).length = n:=by rfl) (hst:(assignEach es X.env).findIdx? (·.1) = none:=by rfl):PG X (.Tuple es k pos) (gTup X.K n t):=by
 intro pins s σ H v u Q I r hw
 obtain ⟨a,xs,e1,hq,hl,hw⟩:=hw
 subst e1
 cases r
 obtain ⟨its,rv,ht,hz⟩:=I.tuple hq
 refine assign_Tuple_tuple (I.ok.hd hc) ht (by simp [hn,← hl,rv.length]) hst fun h' hx=>?_
 have I1:Inv X pins σ H { s with heap:=h' }:=I.kept (t':=s.toks) fun b o e=>hx b o (Nat.ne_of_lt (Heap.lt_size e)) e
 exact h pins _ σ H xs _ Q I1 (by simpa using rv) hw
noncomputable def gSub (to ti:TE) (t:TSet):TG:=fun v σ H Q=>to σ H fun o H1=>ti σ H1 fun i H2=>t o i v H2 fun H3=>Q σ H3
theorem pg_sub {o i:Expr} {to ti:TE} {t:TSet} (ho:PE X o to) (hi:PE X i ti) (hs:PSet X t)
  (ha:∀ v,assign (.Subscript o i pos) X.env v = (do
   let ov ← holding [v] (eval o X.env)
   let iv ← holding [v,ov] (eval i X.env)
   standAt pos
   holding [v,ov,iv] (setItem ov iv v)
   release [v,ov,iv] []):=by intro _; rfl):PG X (.Subscript o i pos) (gSub to ti t):=by
 intro pins s σ H v u Q I r h
 rw [ha]
 refine wpAny_bind (wpAny_holding (thn (ho pins s σ H _ I h) fun ov s1 yy=>?_))
 obtain ⟨x,H1,I1,r1,q1⟩:=yy
 refine wpAny_bind (wpAny_holding (thn (hi pins s1 σ H1 _ I1 q1) fun iv s2 yy=>?_))
 obtain ⟨y,H2,I2,r2,q2⟩:=yy
 refine wpAny_bind (wpAny_standAt (wpAny_bind (wpAny_holding (thn (hs pins s2 σ H2 x y v ov iv u _ I2 r1 r2 r q2) fun _ s3 yy=>?_))))
 obtain ⟨H3,I3,q3⟩:=yy
 exact wpAny_release ⟨σ,H3,I3,q3⟩
noncomputable def tAsg (te:TE) (g:TG):TS:=fun D σ H=>te σ H fun x H1=>g x σ H1 D.nx
theorem ps_asg {tg e:Expr} {te:TE} {g:TG} (he:PE X e te) (hg:PG X tg g) (hs:swapsWithSole [tg] e pos.line X.env = pure false:=by rfl) (hw:swappedStores [tg] e X.env = pure none:=by rfl)
  (h1:(assignEach [tg] X.env).map (·.2) = [assign tg X.env]:=by rfl):PS X (.Assign [tg] e pos) (tAsg te g):=by
 intro pins s σ H D I h
 refine wpAny_Assign_stores (thn (he pins s σ H _ I h) fun v s1 yy=>?_) hs hw
 obtain ⟨x,H1,I1,r1,q1⟩:=yy
 rw [h1]
 exact thn (hg pins s1 σ H1 x v _ I1 r1 q1) fun _ s2 q=>q
theorem ps_set {i:Nat} {x:Str} {e:Expr} {te:TE} {pos':Pos} (hN:X.N.Nodup) (hi:X.N[i]? = some x) (hx:Loc X.env.scope x) (he:PE X e te) (hs:swapsWith e (some (.Name x pos')) pos.line X.env = pure false:=by rfl) (hf:X.fn x = true∨X.env.scope.names.lookup x = some .local:=by first | exact .inl rfl | exact .inr rfl | assumption) :
  PS X (.Assign [.Name x pos'] e pos) (tAsg te (gName i)):=by
 intro pins s σ H D I h
 refine wpAny_Assign_Name (thn (he pins s σ H _ I h) fun v s1 yy=>?_) hs
 obtain ⟨y,H1,I1,r1,q1⟩:=yy
 exact store_ok I1 hN hi hx r1 (fun s2 I2=>⟨_,H1,I2,q1⟩) hf
end
section
variable {X:Cx} {pos:Pos}
noncomputable def tWhile (c:TT) (tb:TS):TS:=fun D σ H=>∃ W:Nat→St→Hp→Prop,(∃ m,W m σ H)∧∀ m σ H,W m σ H →
 c σ H fun b H1=>if b = true then ∃ N:St→Hp→Prop,(∀ σ' H',N σ' H'→∃ m',m' < m∧W m' σ' H')∧tb { D with nx:=N,ct:=N,bk:=D.nx } σ H1 else D.nx σ H1
theorem ps_while {c:Expr} {body:List Stmt} {tc:TT} {tb:TS} (hp:PassesOwn (model X.prog X.w) X.A X.env X.xe) (hc:PT X c tc) (hb:PSs X body tb):PS X (.While c body [] pos) (tWhile tc tb):=by
 intro pins s σ H D I h
 obtain ⟨W,⟨m0,w0⟩,turn⟩:=h
 refine wpAny_While (codeAny_whileLoop (fun n s'=>∃ σ' H',Inv X pins σ' H' s'∧W n σ' H') ?_ m0 ⟨σ,H,I,w0⟩)
 rintro n s1 ⟨σ1,H1,I1,w1⟩
 refine wpAny_passesOwn hp (thn (hc pins s1 σ1 H1 _ I1 (turn n σ1 H1 w1)) fun b s2 yy=>?_)
 obtain ⟨H2,I2,q2⟩:=yy
 cases b with
 | true =>
  obtain ⟨N,hN,q2⟩:=q2
  rw [if_pos rfl]
  refine wpAny_passesOwn hp (thn (hb pins s2 σ1 H2 _ I2 q2) fun f s3 q3=>?_)
  cases f with
  | next =>
   obtain ⟨σ3,H3,I3,n3⟩:=q3
   obtain ⟨m',hm,w3⟩:=hN σ3 H3 n3
   exact ⟨m',hm,σ3,H3,I3,w3⟩
  | cont =>
   obtain ⟨σ3,H3,I3,n3⟩:=q3
   obtain ⟨m',hm,w3⟩:=hN σ3 H3 n3
   exact ⟨m',hm,σ3,H3,I3,w3⟩
  | brk=>exact q3
  | ret v=>exact q3
 | false =>
  rw [if_neg Bool.false_ne_true]
  exact wpAny_execs_nil ⟨σ1,H2,I2,q2⟩
end
structure It where
 go:Nat→Hp→Prop
 yld:Nat→Hp→V→Hp→Prop
 stop:Nat→Hp→Prop
noncomputable def FpOk (X:Cx) (pins:List (Addr × Obj)) (H:Hp) (b:Addr):Prop:=
 H b = none∧b≠X.env.locals∧b ∉ X.fs∧(b∈X.ex∨X.s₀.heap.objs.size≤b)∧(∀ x c,X.env.cells.lookup x = some c→c≠b)∧∀ p∈X.pn ++ pins,p.1≠b
theorem Inv.fpOk {X:Cx} {pins:List (Addr × Obj)} {σ:St} {H H':Hp} {s:Shared} {b:Addr} (I:Inv X pins σ H s) (hb:s.heap.objs.size≤b) (hn:H' b = none):FpOk X pins H' b:=by
 refine ⟨hn,Nat.ne_of_gt (Nat.lt_of_lt_of_le I.lt hb),I.nofs hb,.inr (Nat.le_trans I.sz hb),fun x c e z=>?_,fun p hp z=>?_⟩
 ·obtain ⟨v,q⟩:=I.cell x c e
  exact absurd (Nat.lt_of_lt_of_le q.lt (by rw [z]; exact hb)) (Nat.lt_irrefl _)
 ·exact absurd (Nat.lt_of_lt_of_le (Heap.lt_size (I.pin p hp).1) (by rw [z]; exact hb)) (Nat.lt_irrefl _)
structure Turn (P:Program) (w:World) (K:PySem.W.Frag) (tg:Expr) (J:It) (fp:List Addr) (it:Addr) (tn:Nat→Heap→Prop):Prop where
 mem:it∈fp
 obj:∀ i h,tn i h→∀ b∈fp,∃ o,h.get? b = some o∧∀ v,o.data ≠ .cell v
 keep:∀ i h h',tn i h→(∀ b∈fp,∀ o,h.get? b = some o→h'.get? b = some o)→tn i h'
 item:∀ (X:Cx),X.prog = P→X.w = w→X.K = K→X.calm = true→∀ (i:Nat) (pins:List (Addr × Obj)) (s:Shared) (σ:St) (H:Hp) (E:Value→Shared→Prop),Inv X pins σ H s→(∀ b∈fp,FpOk X pins H b)→tn i s.heap→J.go i H →
  wpAny (model P w) X.A (pyNext (.ref it)) (fun r s1=>∃ u,r = some u ∧
   wpAny (model P w) X.A (letOwnedTupleGo tg (.ref it) u) (fun _ s2=>∃ x H',Inv X pins σ H' s2∧RelV x u∧J.yld i H x H'∧tn (i + 1) s2.heap∧∀ b∈fp,H' b = none) E s1) E s
 done:∀ (X:Cx),X.prog = P→X.w = w→X.K = K→X.calm = true→∀ (i:Nat) (pins:List (Addr × Obj)) (s:Shared) (σ:St) (H:Hp) (E:Value→Shared→Prop),Inv X pins σ H s→(∀ b∈fp,FpOk X pins H b)→tn i s.heap→J.stop i H →
  wpAny (model P w) X.A (pyNext (.ref it)) (fun r s1=>r = none∧Inv X pins σ H s1) E s
 self:∀ (A:Around) (i:Nat) (s:Shared) (Q:Value→Shared→Prop) (E:Value→Shared→Prop),tn i s.heap→Q (.ref it) s→wpAny (model P w) A (pyIter (.ref it)) Q E s
noncomputable abbrev TI:=St→Hp→(It→Hp→Prop)→Prop
noncomputable def PIE (X:Cx) (pins:List (Addr × Obj)) (σ:St) (tg:Expr) (R:It→Hp→Prop) (itv:Value) (s2:Shared):Prop:=
 ∃ (it:Addr) (fp:List Addr) (tn:Nat→Heap→Prop) (J:It) (H':Hp),itv = .ref it∧Inv X pins σ H' s2∧Turn X.prog X.w X.K tg J fp it tn∧tn 0 s2.heap∧(∀ b∈fp,FpOk X pins H' b)∧R J H'
noncomputable def PI (X:Cx) (tg iter:Expr) (wi:TI):Prop:=
 ∀ (pins:List (Addr × Obj)) (s:Shared) (σ:St) (H:Hp) (R:It→Hp→Prop),Inv X pins σ H s→wi σ H R →
  wpAny (model X.prog X.w) X.A (eval iter X.env) (fun v s1=>wpAny (model X.prog X.w) X.A (pyIter v) (PIE X pins σ tg R) X.xe s1) X.xe s
theorem go_of {M:Model} {A:Around} {E:Value→Shared→Prop} {s:Shared} {tg:Expr} {it:Addr} {u:Value} {o:Obj} {n:String} {vs:Array Value} {Q:Unit→Shared→Prop} (ho:s.heap.get? it = some o) (hc:o.cls = .type n) (hd:o.data = .fields vs)
  (hn:["enumerate","zip","dict_itemiterator","dict_reverseitemiterator","odict_iterator","itertools.zip_longest","itertools.pairwise"].contains n = false) (hQ:Q () s):wpAny M A (letOwnedTupleGo tg (.ref it) u) Q E s:=by
 unfold letOwnedTupleGo
 cases tg <;> first
  | exact wpAny_pure hQ
  | (cases u <;> first
    | exact wpAny_pure hQ
    | (refine wpAny_bind (wpAny_load ho ?_)
       rw [hc,hd]
       show wpAny M A (if (["enumerate","zip","dict_itemiterator","dict_reverseitemiterator","odict_iterator","itertools.zip_longest","itertools.pairwise"].contains n && vs[0]? == some (rawInt _)) = true then _ else _) Q E s
       rw [if_neg (by intro h; rw [hn,Bool.false_and] at h; cases h)]
       exact wpAny_pure hQ))
noncomputable def Itl (K:PySem.W.Frag) (a:Addr):It:=
 ⟨fun i H=>∃ xs x,SqL K H a xs∧xs[i]? = some x,fun i H x H'=>H' = H∧∀ xs,SqL K H a xs→xs[i]? = some x,fun i H=>∃ xs,SqL K H a xs∧xs.length≤i⟩
noncomputable def Itt (K:PySem.W.Frag) (a:Addr):It:=
 ⟨fun i H=>∃ xs x,SqT K H a xs∧xs[i]? = some x,fun i H x H'=>H' = H∧∀ xs,SqT K H a xs→xs[i]? = some x,fun i H=>∃ xs,SqT K H a xs∧xs.length≤i⟩
noncomputable def Itr (lo:Int) (n:Nat):It:=⟨fun i _=>i < n,fun i H x H'=>H' = H∧x = .int (lo + i),fun i _=>n≤i⟩
theorem turn_list {P:Program} {w:World} {K:PySem.W.Frag} {tg:Expr} (a it:Addr):Turn P w K tg (Itl K a) [it] it (fun i h=>h.IsListIter it a i) where
 mem:=by simp
 obj:=fun i h st b hb=>by
  have e:b = it:=by simpa using hb
  subst e
  obtain ⟨o,e,c,d⟩:=st
  exact ⟨o,e,fun v z=>by rw [d] at z; cases z⟩
 keep:=fun i h h' st k=>st.at fun o e=>k it (by simp) o e
 item:=by
  intro X hP hw hK hc i pins s σ H E I hf st hg
  subst hP hw hK
  obtain ⟨xs,x,hq,hx⟩:=hg
  obtain ⟨its,rv,p,hz⟩:=I.list hq
  obtain ⟨u,hu,ru⟩:=rv.get hx
  obtain ⟨f0,f1,f2,f3,f4,f5⟩:=hf it (by simp)
  refine wpAny_pyNext_list_item st p.isList (x:=u) (by simpa using hu) fun h' st' sb=>?_
  have I1:Inv X pins σ H { s with heap:=h' }:=I.turned (t':=s.toks) (fun b o hb e=>(sb.2 b hb).trans e) f0 f1 f3 f4 f5
  obtain ⟨o,e,c,d⟩:=id st'
  exact ⟨u,rfl,go_of (s:={ s with heap:=h' }) e c d (by decide) ⟨x,H,I1,ru,⟨rfl,fun ys hy=>by rw [I.list_inj hy hq]; exact hx⟩,st',fun b hb=>(hf b hb).1⟩⟩
 done:=by
  intro X hP hw hK hc i pins s σ H E I hf st hg
  subst hP hw hK
  obtain ⟨xs,hq,hx⟩:=hg
  obtain ⟨its,rv,p,hz⟩:=I.list hq
  obtain ⟨f0,f1,f2,f3,f4,f5⟩:=hf it (by simp)
  have hl:=rv.length
  exact wpAny_pyNext_list_end (I.ok.hd hc) st p.isList (by simp; lia) fun h' eb=>⟨rfl,I.turned (t':=s.toks) (fun b o hb e=>eb b o hb e) f0 f1 f3 f4 f5⟩
 self:=fun _ _ _ _ _ st h=>wpAny_pyIter_listiter st h
theorem turn_tuple {P:Program} {w:World} {K:PySem.W.Frag} {tg:Expr} (a it:Addr):Turn P w K tg (Itt K a) [it] it (fun i h=>h.IsTupleIter it a i) where
 mem:=by simp
 obj:=fun i h st b hb=>by
  have e:b = it:=by simpa using hb
  subst e
  obtain ⟨o,e,c,d⟩:=st
  exact ⟨o,e,fun v z=>by rw [d] at z; cases z⟩
 keep:=fun i h h' st k=>st.at fun o e=>k it (by simp) o e
 item:=by
  intro X hP hw hK hc i pins s σ H E I hf st hg
  subst hP hw hK
  obtain ⟨xs,x,hq,hx⟩:=hg
  obtain ⟨its,rv,p,hz⟩:=I.tuple hq
  obtain ⟨u,hu,ru⟩:=rv.get hx
  obtain ⟨f0,f1,f2,f3,f4,f5⟩:=hf it (by simp)
  refine wpAny_pyNext_tuple_item st (show s.heap.IsTuple a its.toArray from p) (x:=u) (by simpa using hu) fun h' st' sb=>?_
  have I1:Inv X pins σ H { s with heap:=h' }:=I.turned (t':=s.toks) (fun b o hb e=>(sb.2 b hb).trans e) f0 f1 f3 f4 f5
  obtain ⟨o,e,c,d⟩:=id st'
  exact ⟨u,rfl,go_of (s:={ s with heap:=h' }) e c d (by decide) ⟨x,H,I1,ru,⟨rfl,fun ys hy=>by rw [I.tuple_inj hy hq]; exact hx⟩,st',fun b hb=>(hf b hb).1⟩⟩
 done:=by
  intro X hP hw hK hc i pins s σ H E I hf st hg
  subst hP hw hK
  obtain ⟨xs,hq,hx⟩:=hg
  obtain ⟨its,rv,p,hz⟩:=I.tuple hq
  obtain ⟨f0,f1,f2,f3,f4,f5⟩:=hf it (by simp)
  have hl:=rv.length
  exact wpAny_pyNext_tuple_end (I.ok.hd hc) st (show s.heap.IsTuple a its.toArray from p) (by simp; lia) fun h' eb=>⟨rfl,I.turned (t':=s.toks) (fun b o hb e=>eb b o hb e) f0 f1 f3 f4 f5⟩
 self:=fun _ _ _ _ _ st h=>wpAny_pyIter_tupleiter st h
theorem turn_range {P:Program} {w:World} {K:PySem.W.Frag} {tg:Expr} (it:Addr) (lo:Int) (n:Nat):Turn P w K tg (Itr lo n) [it] it (fun i h=>IsRangeIter h it (lo + (i:Nat) * 1) ((n:Int) - (i:Nat)) 1) where
 mem:=by simp
 obj:=fun i h st b hb=>by
  have e:b = it:=by simpa using hb
  subst e
  exact ⟨_,st,fun v z=>by
   have z':Data.fields _ = Data.cell v:=z
   cases z'⟩
 keep:=fun i h h' st k=>k it (by simp) _ st
 item:=by
  intro X hP hw hK hc i pins s σ H E I hf st hg
  subst hP hw hK
  obtain ⟨f0,f1,f2,f3,f4,f5⟩:=hf it (by simp)
  have W:=Walks.range (prog:=X.prog) (w:=X.w) (I.ok.hd hc) it lo 1 n
  refine W.item i s _ _ hg st fun v h' tk hv st' kk=>?_
  obtain ⟨t,rfl⟩:=hv
  have I1:Inv X pins σ H { s with heap:=h',toks:=tk }:=I.turned (fun b o hb e=>kk b o (by simpa using hb) e) f0 f1 f3 f4 f5
  refine ⟨_,rfl,go_of (s:={ s with heap:=h',toks:=tk }) (n := "range_iterator") st' rfl rfl (by decide) ⟨.int (lo + i),H,I1,⟨t,?_⟩,⟨rfl,rfl⟩,st',fun b hb=>(hf b hb).1⟩⟩
  rw [Int.mul_one]
 done:=by
  intro X hP hw hK hc i pins s σ H E I hf st hg
  subst hP hw hK
  obtain ⟨f0,f1,f2,f3,f4,f5⟩:=hf it (by simp)
  exact wpAny_pyNext_range_end (I.ok.hd hc) st (by have:n≤i:=hg; lia) fun h' eb=>⟨rfl,I.turned (t':=s.toks) (fun b o hb e=>eb b o hb e) f0 f1 f3 f4 f5⟩
 self:=fun _ _ _ _ _ st h=>wpAny_pyIter_rangeiter st h
end L2
namespace L2
open PySem PySem.Spec PyProof.Rows
section
variable {X:Cx} {tg:Expr}
theorem range_it {pins:List (Addr × Obj)} {σ:St} {H:Hp} {s:Shared} {R:It→Hp→Prop} {E:Value→Shared→Prop} {lo hi:Int} {t u v:Tok} {tk:Nat} (I:Inv X pins σ H s) (h1 : -(2 ^ 62)≤lo) (h2:lo < 2 ^ 62) (h3 : -(2 ^ 62)≤hi) (h4:hi < 2 ^ 62)
  (q:R (Itr lo (hi - lo).toNat) H):wpAny (model X.prog X.w) X.A (pyIter (.ref s.heap.objs.size)) (PIE X pins σ tg R) E { s with heap:=s.heap.push { cls:=.type "range",data:=.fields #[.int lo t,.int hi u,.int 1 v] },toks:=tk }:=by
 refine wpAny_pyIter_range (IsRange.new ..) (small_one h1 h2 h3 h4) ?_
 have I1:Inv X pins σ H { s with heap:=s.heap.push { cls:=.type "range",data:=.fields #[.int lo t,.int hi u,.int 1 v] },toks:=tk }:=I.kept fun b o e=>Heap.get?_push_of_some _ e
 refine ⟨(s.heap.push { cls:=.type "range",data:=.fields #[.int lo t,.int hi u,.int 1 v] }).objs.size,[(s.heap.push { cls:=.type "range",data:=.fields #[.int lo t,.int hi u,.int 1 v] }).objs.size],_,_,H,rfl,
  I1.kept (t':=tk) fun b o e=>Heap.get?_push_of_some _ e,turn_range _ lo (hi - lo).toNat,?_,fun b hb=>?_,q⟩
 ·have e1:lo + ((0:Nat):Int) * 1 = lo:=by simp
  have e2:(((hi - lo).toNat:Nat):Int) - ((0:Nat):Int) = Builtin.Range.rangeSize lo hi 1:=by rw [rangeSize_one]; split <;> lia
  show IsRangeIter _ _ (lo + ((0:Nat):Int) * 1) ((((hi - lo).toNat:Nat):Int) - ((0:Nat):Int)) 1
  rw [e1,e2]
  exact Heap.get?_push_size _ rfl
 ·have e:b = (s.heap.push { cls:=.type "range",data:=.fields #[.int lo t,.int hi u,.int 1 v] }).objs.size:=by simpa using hb
  subst e
  exact I1.fpOk (Nat.le_refl _) (I1.hok.fresh (Nat.le_refl _))
noncomputable def iRng1 (ta:TA):TI:=fun σ H R=>ta σ H fun vs H1=>∃ j:Int,vs = [.int j] ∧ -(2 ^ 62)≤j∧j < 2 ^ 62∧R (Itr 0 j.toNat) H1
noncomputable def iRng2 (ta:TA):TI:=fun σ H R=>ta σ H fun vs H1=>∃ i j:Int,vs = [.int i,.int j]∧(-(2 ^ 62)≤i∧i < 2 ^ 62 ∧ -(2 ^ 62)≤j∧j < 2 ^ 62)∧R (Itr i (j - i).toNat) H1
theorem pi_range1 {a:Expr} {ta:TA} {p pos:Pos} (hg:Gl X "range") (hm:X.mg "range" = none) (ha:PA X [a] ta) (hs:starEach [a] X.env = [(false,eval a X.env)]:=by rfl):PI X tg (.Call (.Name "range" p) [a] [] pos) (iRng1 ta):=by
 intro pins s σ H R I h
 refine Call_ (ld_blt I hg hm boot_range (PyProof.Rows.callWith_type1 (thn (ha pos pins s σ H _ I h) fun us s1 ⟨vs,H1,I1,r1,q1⟩=>?_) hs rfl))
 obtain ⟨j,e,q1,q2,q⟩:=q1
 subst e
 cases r1 with
 | cons r rr =>
  cases rr
  obtain ⟨t,rfl⟩:=r
  exact call_range_1 (range_it I1 (by lia) (by lia) q1 q2 (by simpa using q))
theorem pi_range2 {a b:Expr} {ta:TA} {p pos:Pos} (hg:Gl X "range") (hm:X.mg "range" = none) (ha:PA X [a,b] ta) (hs:starEach [a,b] X.env = [(false,eval a X.env),(false,eval b X.env)]:=by rfl) (hs2:starEach [b] X.env = [(false,eval b X.env)]:=by rfl) :
  PI X tg (.Call (.Name "range" p) [a,b] [] pos) (iRng2 ta):=by
 intro pins s σ H R I h
 refine Call_ (ld_blt I hg hm boot_range (PyProof.Rows.callWith_type1 (thn (ha pos pins s σ H _ I h) fun us s1 ⟨vs,H1,I1,r1,q1⟩=>?_) (by rw [hs,hs2]) (by rw [hs2]; rfl)))
 obtain ⟨i,j,e,⟨q1,q2,q3,q4⟩,q⟩:=q1
 subst e
 cases r1 with
 | cons r rr =>
  cases rr with
  | cons r' rr =>
   cases rr
   obtain ⟨t,rfl⟩:=r
   obtain ⟨t',rfl⟩:=r'
   exact call_range_2 (range_it I1 q1 q2 q3 q4 q)
noncomputable def tFor (wi:TI) (g:TG) (tb:TS):TS:=fun D σ H=>wi σ H fun J H1=>∃ W:Nat→Nat→St→Hp→Prop,(∃ m,W 0 m σ H1)∧∀ i m σ H,W i m σ H →
 (J.stop i H∧D.nx σ H)∨(J.go i H∧∃ N:St→Hp→Prop,(∀ σ' H',N σ' H'→∃ m',m' < m∧W (i + 1) m' σ' H')∧∀ x H',J.yld i H x H'→g x σ H' fun σ2 H2=>tb { D with nx:=N,ct:=N,bk:=D.nx } σ2 H2)
noncomputable def pinsAt (fp:List Addr) (h:Heap):List (Addr × Obj):=fp.filterMap fun b=>(h.get? b).map fun o=>(b,o)
theorem mem_pinsAt {fp:List Addr} {h:Heap} {b:Addr} {o:Obj} (hb:b∈fp) (e:h.get? b = some o):(b,o)∈pinsAt fp h:=List.mem_filterMap.mpr ⟨b,hb,by rw [e]; rfl⟩
theorem of_pinsAt {fp:List Addr} {h:Heap} {p:Addr × Obj} (hp:p∈pinsAt fp h):p.1∈fp∧h.get? p.1 = some p.2:=by
 obtain ⟨b,hb,e⟩:=List.mem_filterMap.mp hp
 cases q:h.get? b with
 | none=>rw [q] at e; cases e
 | some o =>
  rw [q] at e
  have e':(b,o) = p:=Option.some.inj e
  subst e'
  exact ⟨hb,q⟩
theorem Inv.pinned {pins:List (Addr × Obj)} {σ:St} {H:Hp} {s:Shared} {fp:List Addr} (I:Inv X pins σ H s) (hf:∀ b∈fp,FpOk X pins H b) (ho:∀ b∈fp,∃ o,s.heap.get? b = some o∧∀ v,o.data ≠ .cell v):Inv X (pins ++ pinsAt fp s.heap) σ H s:=
 I.pins_of fun p hp=>(List.mem_append.mp hp).elim (fun z=>I.pin p (List.mem_append_right _ z)) fun z=>by
  obtain ⟨hb,e⟩:=of_pinsAt z
  obtain ⟨f0,f1,f2,_⟩:=hf p.1 hb
  obtain ⟨o,e',d⟩:=ho p.1 hb
  rw [e] at e'; cases e'
  exact ⟨e,f0,f1,f2,d⟩
theorem Inv.unpinned {pins pl:List (Addr × Obj)} {σ:St} {H:Hp} {s:Shared} (I:Inv X (pins ++ pl) σ H s):Inv X pins σ H s:=I.pins_of fun p hp=>I.pin p (List.mem_append_right _ (List.mem_append_left _ hp))
theorem ps_for {iter:Expr} {body:List Stmt} {wi:TI} {g:TG} {tb:TS} {pos:Pos} (hp:PassesOwn (model X.prog X.w) X.A X.env X.xe) (hc:X.calm = true) (hi:PI X tg iter wi) (hg:PG X tg g) (hb:PSs X body tb)
  (hs:∀ x,foldedSetIterable iter X.env x = pure x:=by intro _; rfl):PS X (.For tg iter body [] pos) (tFor wi g tb):=by
 intro pins s σ H D I h
 refine wpAny_For (thn (hi pins s σ H _ I h) fun v s1 h1=>thn h1 fun itv s2 h2=>?_) hs
 obtain ⟨it,fp,tn,J,H2,e,I2,T,st2,f2,W,⟨m0,w0⟩,turn⟩:=h2
 subst e
 -- what stays true of the iterator's objects through the loop
 have stat:∀ {H':Hp},(∀ b∈fp,H' b = none)→∀ b∈fp,FpOk X pins H' b:=fun hn b hb=>⟨hn b hb,(f2 b hb).2⟩
 refine codeAny_forLoop_any (fun n s'=>∃ i σ' H',Inv X pins σ' H' s'∧tn i s'.heap∧(∀ b∈fp,H' b = none)∧W i n σ' H') ?_ m0 ⟨0,σ,H2,I2,st2,fun b hb=>(f2 b hb).1,w0⟩
 rintro n s3 ⟨i,σ3,H3,I3,st3,fr3,w3⟩
 rcases turn i n σ3 H3 w3 with ⟨stop,qn⟩ | ⟨go,N,hN,step⟩
 ·refine wpAny_passesOwn hp (thn (T.done X rfl rfl rfl hc i pins s3 σ3 H3 X.xe I3 (stat fr3) st3 stop) fun r s4 yy=>?_)
  obtain ⟨hr,I4⟩:=yy
  subst hr
  exact wpAny_execs_nil ⟨σ3,H3,I4,qn⟩
 ·refine wpAny_passesOwn hp (thn (T.item X rfl rfl rfl hc i pins s3 σ3 H3 X.xe I3 (stat fr3) st3 go) fun r s4 yy=>?_)
  obtain ⟨u,hr,h4⟩:=yy
  subst hr
  refine wpAny_passesOwn hp (thn h4 fun _ s5 yy=>?_)
  obtain ⟨x,H5,I5,r5,y5,st5,fr5⟩:=yy
  have I5':=I5.pinned (stat fr5) (T.obj _ _ st5)
  refine wpAny_passesOwn hp (thn (hg _ s5 σ3 H5 x u _ I5' r5 (step x H5 y5)) fun _ s6 yy=>?_)
  obtain ⟨σ6,H6,I6,q6⟩:=yy
  refine wpAny_passesOwn hp (thn (hb _ s6 σ6 H6 _ I6 q6) fun f s7 q7=>?_)
  have again:∀ {σ7:St} {H7:Hp},Inv X (pins ++ pinsAt fp s5.heap) σ7 H7 s7→N σ7 H7→∃ m,m < n∧∃ i σ' H',Inv X pins σ' H' s7∧tn i s7.heap∧(∀ b∈fp,H' b = none)∧W i m σ' H':=fun {σ7 H7} I7 n7=>by
   obtain ⟨m',hm,w7⟩:=hN σ7 H7 n7
   refine ⟨m',hm,i + 1,σ7,H7,I7.unpinned,T.keep _ _ _ st5 fun b hb o e=>(I7.pin (b,o) (List.mem_append_right _ (List.mem_append_right _ (mem_pinsAt hb e)))).1,fun b hb=>?_,w7⟩
   obtain ⟨o,e,d⟩:=T.obj _ _ st5 b hb
   exact (I7.pin (b,o) (List.mem_append_right _ (List.mem_append_right _ (mem_pinsAt hb e)))).2.1
  cases f with
  | next=>obtain ⟨σ7,H7,I7,n7⟩:=q7; exact again I7 n7
  | cont=>obtain ⟨σ7,H7,I7,n7⟩:=q7; exact again I7 n7
  | brk=>obtain ⟨σ7,H7,I7,q7⟩:=q7; exact ⟨σ7,H7,I7.unpinned,q7⟩
  | ret v=>obtain ⟨x7,σ7,H7,I7,r7,q7⟩:=q7; exact ⟨x7,σ7,H7,I7.unpinned,r7,q7⟩
end
end L2
namespace L2
open PySem PySem.Spec PyProof.Rows
noncomputable abbrev R2:=V→V→Hp→VK→Prop
noncomputable def OpR (X:Cx) (f:Value→Value→Sem Value) (r:R2):Prop:=
 ∀ (pins:List (Addr × Obj)) (s:Shared) (σ:St) (H:Hp) (x y:V) (v u:Value) (Q:VK),Inv X pins σ H s→RelV x v→RelV y u→r x y H Q →
  wpAny (model X.prog X.w) X.A (f v u) (EP X pins σ Q) X.xe s
noncomputable def UnR (X:Cx) (f:Value→Sem Value) (r:V→Hp→VK→Prop):Prop:=
 ∀ (pins:List (Addr × Obj)) (s:Shared) (σ:St) (H:Hp) (x:V) (v:Value) (Q:VK),Inv X pins σ H s→RelV x v→r x H Q →
  wpAny (model X.prog X.w) X.A (f v) (EP X pins σ Q) X.xe s
noncomputable def CallR (X:Cx) (f:Value) (r:List V→Hp→VK→Prop):Prop:=
 ∀ (pins:List (Addr × Obj)) (s:Shared) (σ:St) (H:Hp) (xs:List V) (us:List Value) (Q:VK),Inv X pins σ H s→Vals xs us→r xs H Q →
  wpAny (model X.prog X.w) X.A (call f us) (EP X pins σ Q) X.xe s
noncomputable def tOp (r:R2) (ta tb:TE):TE:=fun σ H Q=>ta σ H fun x H1=>tb σ H1 fun y H2=>r x y H2 Q
noncomputable def tUn (r:V→Hp→VK→Prop) (ta:TE):TE:=fun σ H Q=>ta σ H fun x H1=>r x H1 Q
noncomputable def rI (C:Int→Int→Prop) (g:Int→Int→V):R2:=fun x y H Q=>∃ i j,x = .int i∧y = .int j∧C i j∧Q (g i j) H
noncomputable def rI0 (g:Int→Int→V):R2:=fun x y H Q=>∃ i j,x = .int i∧y = .int j∧Q (g i j) H
noncomputable def rU (g:Int→V):V→Hp→VK→Prop:=fun x H Q=>∃ i,x = .int i∧Q (g i) H
section
variable {X:Cx} {a b c:Expr} {ta tb tc:TE} {pos:Pos}
theorem binT (ha:PE X a ta) (hb:PE X b tb) {pins:List (Addr × Obj)} {s:Shared} {σ:St} {H:Hp} {R:V→V→Hp→Prop} (I:Inv X pins σ H s)
  (h:ta σ H fun x H1=>tb σ H1 fun y H2=>R x y H2) {Q:Value→Shared→Prop} {f:Value→Value→Sem Value}
  (hf:∀ v u s2 x y H2,Inv X pins σ H2 s2→RelV x v→RelV y u→R x y H2→wpAny (model X.prog X.w) X.A (f v u) Q X.xe s2) :
  wpAny (model X.prog X.w) X.A (eval a X.env) (fun v s₁=>wpAny (model X.prog X.w) X.A (eval b X.env) (fun u s₂=>wpAny (model X.prog X.w) X.A (f v u) Q X.xe s₂) X.xe s₁) X.xe s:=by
 refine thn (ha pins s σ H _ I h) fun v s1 yy=>?_
 obtain ⟨x,H1,I1,r1,q1⟩:=yy
 refine thn (hb pins s1 σ H1 _ I1 q1) fun u s2 yy=>?_
 obtain ⟨y,H2,I2,r2,q2⟩:=yy
 exact hf v u s2 x y H2 I2 r1 r2 q2
theorem pe_op {op:Operator} {r:R2} (ho:OpR X (binaryOp op) r) (ha:PE X a ta) (hb:PE X b tb):PE X (.BinOp a op b pos) (tOp r ta tb):=by
 intro pins s σ H Q I h
 exact wpAny_BinOp (binT ha hb I h fun v u s2 x y H2 I2 rx ry q=>ho pins s2 σ H2 x y v u Q I2 rx ry q)
theorem pe_un {op:UnaryOp} {r:V→Hp→VK→Prop} (ho:UnR X (unaryOp op) r) (ha:PE X a ta):PE X (.UnaryOp op a pos) (tUn r ta):=by
 intro pins s σ H Q I h
 exact UnaryOp_ (thn (ha pins s σ H _ I h) fun v s1 ⟨x,H1,I1,r1,q1⟩=>ho pins s1 σ H1 x v Q I1 r1 q1)
theorem opI {f:Value→Value→Sem Value} {C:Int→Int→Prop} {g:Int→Int→Int}
  (rule:∀ (i j:Int) (t u:Tok) (s:Shared) (Q:Value→Shared→Prop) (E:Value→Shared→Prop),C i j→Q (.int (g i j) s.toks) { s with toks:=s.toks + 1 }→wpAny (model X.prog X.w) X.A (f (.int i t) (.int j u)) Q E s) :
  OpR X f (rI C fun i j=>.int (g i j)):=by
 intro pins s σ H x y v u Q I rx ry h
 obtain ⟨i,j,rfl,rfl,hc,q⟩:=h
 obtain ⟨t,rfl⟩:=rx
 obtain ⟨t',rfl⟩:=ry
 exact rule i j t t' s _ _ hc ⟨.int (g i j),H,I.tok _,⟨_,rfl⟩,q⟩
theorem opI0 {f:Value→Value→Sem Value} {g:Int→Int→Int}
  (rule:∀ (i j:Int) (t u:Tok) (s:Shared) (Q:Value→Shared→Prop) (E:Value→Shared→Prop),Q (.int (g i j) s.toks) { s with toks:=s.toks + 1 }→wpAny (model X.prog X.w) X.A (f (.int i t) (.int j u)) Q E s) :
  OpR X f (rI0 fun i j=>.int (g i j)):=by
 intro pins s σ H x y v u Q I rx ry h
 obtain ⟨i,j,rfl,rfl,q⟩:=h
 obtain ⟨t,rfl⟩:=rx
 obtain ⟨t',rfl⟩:=ry
 exact rule i j t t' s _ _ ⟨.int (g i j),H,I.tok _,⟨_,rfl⟩,q⟩
theorem opB0 {f:Value→Value→Sem Value} {g:Int→Int→Bool}
  (rule:∀ (i j:Int) (t u:Tok) (s:Shared) (Q:Value→Shared→Prop) (E:Value→Shared→Prop),Q (.bool (g i j)) s→wpAny (model X.prog X.w) X.A (f (.int i t) (.int j u)) Q E s) :
  OpR X f (rI0 fun i j=>.bl (g i j)):=by
 intro pins s σ H x y v u Q I rx ry h
 obtain ⟨i,j,rfl,rfl,q⟩:=h
 obtain ⟨t,rfl⟩:=rx
 obtain ⟨t',rfl⟩:=ry
 exact rule i j t t' s _ _ ⟨.bl (g i j),H,I,rfl,q⟩
noncomputable def CDiv (i j:Int):Prop:=0 < j∧j < 1073741824
noncomputable def CPow (i j:Int):Prop:=0≤j∧j≤1000000∧i.natAbs < 2 ^ 64
noncomputable def CMul (i j:Int):Prop:=(-(2 ^ 64) < i∧i < 2 ^ 64)∨(-(2 ^ 64) < j∧j < 2 ^ 64)
theorem CMul.ok {i j:Int} (h:CMul i j):IntMulOk i j:=by
 rcases h with ⟨h1,h2⟩ | ⟨h1,h2⟩
 ·exact .of_left (intBits_le_64 h1 h2)
 ·exact .of_right (intBits_le_64 h1 h2)
theorem two_pow_nn (k:Nat):(0:Int)≤2 ^ k:=by
 rw [two_pow_cast]
 exact Int.natCast_nonneg _
theorem op_add:OpR X (binaryOp .Add) (rI0 fun i j=>.int (i + j)):=opI0 fun _ _ _ _ _ _ _ q=>add_int q
theorem op_sub:OpR X (binaryOp .Sub) (rI0 fun i j=>.int (i - j)):=opI0 fun _ _ _ _ _ _ _ q=>sub_int q
theorem op_mul:OpR X (binaryOp .Mult) (rI CMul fun i j=>.int (i * j)):=opI fun _ _ _ _ _ _ _ hc q=>mul_int q hc.ok
theorem op_fdiv:OpR X (binaryOp .FloorDiv) (rI CDiv fun i j=>.int (i / j)):=opI fun i j _ _ _ _ _ hc q=>by
 have h1:(0:Int) < j:=hc.1
 have h2:j < 1073741824:=hc.2
 exact floordiv_int (by lia) (by rw [Int.fdiv_eq_ediv_of_nonneg i (by lia)]; exact q) (.inl (PyProof.noPylong_small (by lia)))
theorem op_mod:OpR X (binaryOp .Mod) (rI (fun _ j=>0 < j) fun i j=>.int (i % j)):=opI fun i j _ _ _ _ _ hc q=>by
 have h1:(0:Int) < j:=hc
 exact mod_int' (by lia) (by rw [Int.fmod_eq_emod_of_nonneg i (by lia)]; exact q)
theorem op_pow:OpR X (binaryOp .Pow) (rI CPow fun i j=>.int (i ^ j.toNat)):=opI fun _ _ _ _ _ _ _ hc q=>pow_int_small hc.1 hc.2.1 hc.2.2 q
theorem op_shl:OpR X (binaryOp .LShift) (rI CPow fun i j=>.int (i * 2 ^ j.toNat)):=opI fun _ _ _ _ _ _ _ hc q=>lshift_int_small hc.1 hc.2.1 hc.2.2 q
theorem op_shr:OpR X (binaryOp .RShift) (rI (fun _ j=>0≤j) fun i j=>.int (i / 2 ^ j.toNat)):=opI fun i j _ _ _ _ _ hc q =>
 rshift_int hc (by rw [Int.fdiv_eq_ediv_of_nonneg i (two_pow_nn _)]; exact q)
theorem op_and:OpR X (binaryOp .BitAnd) (rI0 fun i j=>.int (Builtin.bitAnd i j)):=opI0 fun _ _ _ _ _ _ _ q=>and_int q
theorem op_or:OpR X (binaryOp .BitOr) (rI0 fun i j=>.int (Builtin.bitOr i j)):=opI0 fun _ _ _ _ _ _ _ q=>or_int q
theorem unI {f:Value→Sem Value} {g:Int→Int}
  (rule:∀ (i:Int) (t:Tok) (s:Shared) (Q:Value→Shared→Prop) (E:Value→Shared→Prop),Q (.int (g i) s.toks) { s with toks:=s.toks + 1 }→wpAny (model X.prog X.w) X.A (f (.int i t)) Q E s) :
  UnR X f (rU fun i=>.int (g i)):=by
 intro pins s σ H x v Q I rx h
 obtain ⟨i,rfl,q⟩:=h
 obtain ⟨t,rfl⟩:=rx
 exact rule i t s _ _ ⟨.int (g i),H,I.tok _,⟨_,rfl⟩,q⟩
theorem un_neg:UnR X (unaryOp .USub) (rU fun i=>.int (-i)):=unI fun _ _ _ _ _ q=>neg_int q
end
section
variable {X:Cx} {a b c:Expr} {ta tb tc:TE} {pos:Pos}
theorem fin_bl {pins:List (Addr × Obj)} {σ:St} {H:Hp} {s:Shared} {Q:VK} {k k':Bool} (I:Inv X pins σ H s) (q:Q (.bl k) H) (e:k = k'):EP X pins σ Q (.bool k') s:=by
 subst e
 exact ⟨.bl k,H,I,rfl,q⟩
theorem op_lt:OpR X (compareOp .Lt) (rI0 fun i j=>.bl (decide (i < j))):=opB0 fun _ _ _ _ _ _ _ q=>lt_int q
theorem op_le:OpR X (compareOp .LtE) (rI0 fun i j=>.bl (decide (i≤j))):=opB0 fun _ _ _ _ _ _ _ q=>le_int q
theorem op_gt:OpR X (compareOp .Gt) (rI0 fun i j=>.bl (decide (j < i))):=opB0 fun _ _ _ _ _ _ _ q=>gt_int q
theorem op_ge:OpR X (compareOp .GtE) (rI0 fun i j=>.bl (decide (j≤i))):=opB0 fun _ _ _ _ _ _ _ q=>ge_int q
theorem op_lt_str:OpR X (compareOp .Lt) (fun x y H Q=>∃ i j,x = .str i∧y = .str j∧Q (.bl (decide (i.cps.toList < j.cps.toList))) H):=by
 intro pins s σ H x y v u Q I rx ry h
 obtain ⟨i,j,rfl,rfl,q⟩:=h
 obtain ⟨t,rfl⟩:=rx
 obtain ⟨t',rfl⟩:=ry
 exact lt_str (fin_bl I q rfl)
theorem op_in_str:OpR X (compareOp .In) (fun x y H Q=>∃ i j,x = .str i∧y = .str j∧Q (.bl (!(Builtin.Str.occurrences j i 0 j.length 1).isEmpty)) H):=by
 intro pins s σ H x y v u Q I rx ry h
 obtain ⟨i,j,rfl,rfl,q⟩:=h
 obtain ⟨t,rfl⟩:=rx
 obtain ⟨t',rfl⟩:=ry
 exact in_str (fin_bl I q rfl)
theorem OpR.or {f:Value→Value→Sem Value} {r r':R2} (h:OpR X f r) (h':OpR X f r'):OpR X f (fun x y H Q=>r x y H Q∨r' x y H Q):=by
 intro pins s σ H x y v u Q I rx ry q
 rcases q with q | q
 ·exact h pins s σ H x y v u Q I rx ry q
 ·exact h' pins s σ H x y v u Q I rx ry q
theorem nomark (b:Expr) {op:CmpOp} (h:op ≠ .In:=by decide) (h2:op ≠ .NotIn:=by decide):behindInMarks op b = false:=by
 have e1:(op == CmpOp.In) = false:=by cases op <;> first | rfl | exact absurd rfl h
 have e2:(op == CmpOp.NotIn) = false:=by cases op <;> first | rfl | exact absurd rfl h2
 cases b <;> simp [behindInMarks,e1,e2]
theorem pe_cmpR {op:CmpOp} {r:R2} (ho:OpR X (compareOp op) r) (ha:PE X a ta) (hb:PE X b tb) (hm:behindInMarks op b = false):PE X (.Compare a [op] [b] pos) (tOp r ta tb):=by
 intro pins s σ H Q I h
 exact wpAny_Compare1 (binT ha hb I h fun v u s2 x y H2 I2 rx ry q=>ho pins s2 σ H2 x y v u Q I2 rx ry q) hm
noncomputable def tTest (t:TE):TT:=fun σ H Q=>t σ H fun x H'=>∃ k,x = .bl k∧Q k H'
theorem pt_cmpR {op:CmpOp} {r:R2} (ho:OpR X (compareOp op) r) (ha:PE X a ta) (hb:PE X b tb) (hm:behindInMarks op b = false):PT X (.Compare a [op] [b] pos) (tTest (tOp r ta tb)):=by
 intro pins s σ H Q I h
 refine wpAny_isTrue_Compare1 (thn (ha pins s σ H _ I h) fun v s1 yy=>?_) hm
 obtain ⟨x,H1,I1,r1,q1⟩:=yy
 refine thn (hb pins s1 σ H1 _ I1 q1) fun u s2 yy=>?_
 obtain ⟨y,H2,I2,r2,q2⟩:=yy
 refine thn (ho pins s2 σ H2 x y v u _ I2 r1 r2 q2) fun c s3 yy=>?_
 obtain ⟨z,H3,I3,r3,k,e,q3⟩:=yy
 subst e
 cases r3
 exact wpAny_truthy_bool ⟨H3,I3,q3⟩
noncomputable def tChain (r r':R2) (ta tb tc:TE):TE:=fun σ H Q=>ta σ H fun x H1=>tb σ H1 fun y H2=>r x y H2 fun z H3=>∃ k,z = .bl k ∧
 (if k = true then tc σ H3 fun w' H4=>r' y w' H4 Q else Q (.bl false) H3)
theorem pe_chain {op op':CmpOp} {r r':R2} (ho:OpR X (compareOp op) r) (ho':OpR X (compareOp op') r') (ha:PE X a ta) (hb:PE X b tb) (hc:PE X c tc)
  (hm:lastMarks [op,op'] [b,c] = false:=by with_unfolding_all rfl):PE X (.Compare a [op,op'] [b,c] pos) (tChain r r' ta tb tc):=by
 intro pins s σ H Q I h
 refine Compare_chain (thn (ha pins s σ H _ I h) fun v s1 yy=>?_) hm
 obtain ⟨x,H1,I1,r1,q1⟩:=yy
 refine chain_link (thn (hb pins s1 σ H1 _ I1 q1) fun u s2 yy=>?_)
 obtain ⟨y,H2,I2,r2,q2⟩:=yy
 refine thn (ho pins s2 σ H2 x y v u _ I2 r1 r2 q2) fun d s3 yy=>?_
 obtain ⟨z,H3,I3,r3,k,e,q3⟩:=yy
 subst e
 cases r3
 refine wpAny_truthy_bool ?_
 cases k with
 | false=>exact ite_ff ⟨.bl false,H3,I3,rfl,q3⟩
 | true=>exact ite_tt (chain_last (thn (hc pins s3 σ H3 _ I3 q3) fun w' s4 ⟨z',H4,I4,r4,q4⟩=>ho' pins s4 σ H4 y z' u w' Q I4 r2 r4 q4))
theorem pt_chain {op op':CmpOp} {r r':R2} (ho:OpR X (compareOp op) r) (ho':OpR X (compareOp op') r') (ha:PE X a ta) (hb:PE X b tb) (hc:PE X c tc)
  (hm:lastMarks [op,op'] [b,c] = false:=by with_unfolding_all rfl):PT X (.Compare a [op,op'] [b,c] pos) (tTest (tChain r r' ta tb tc)):=by
 intro pins s σ H Q I h
 refine isTrue_chain (thn (ha pins s σ H _ I h) fun v s1 yy=>?_) hm
 obtain ⟨x,H1,I1,r1,q1⟩:=yy
 refine test_link (thn (hb pins s1 σ H1 _ I1 q1) fun u s2 yy=>?_)
 obtain ⟨y,H2,I2,r2,q2⟩:=yy
 refine thn (ho pins s2 σ H2 x y v u _ I2 r1 r2 q2) fun d s3 yy=>?_
 obtain ⟨z,H3,I3,r3,k,e,q3⟩:=yy
 subst e
 cases r3
 refine wpAny_truthy_bool ?_
 cases k with
 | false =>
  obtain ⟨k',e',q'⟩:=q3
  cases e'
  exact ite_ff ⟨H3,I3,q'⟩
 | true =>
  refine ite_tt (test_last (thn (hc pins s3 σ H3 _ I3 q3) fun w' s4 ⟨z',H4,I4,r4,q4⟩=>thn (ho' pins s4 σ H4 y z' u w' _ I4 r2 r4 q4) fun d' s5 yy=>?_))
  obtain ⟨z2,H5,I5,r5,k2,e2,q5⟩:=yy
  subst e2
  cases r5
  exact wpAny_truthy_bool ⟨H5,I5,q5⟩
theorem line63:(sizeLine:Nat) < 2 ^ 63:=by rw [sizeLine_eq]; decide
theorem op_add_str:OpR X (binaryOp .Add) (fun x y H Q=>∃ i j,x = .str i∧y = .str j∧i.length + j.length≤sizeLine∧Q (.str (i ++ j)) H):=by
 intro pins s σ H x y v u Q I rx ry h
 obtain ⟨i,j,rfl,rfl,hz,q⟩:=h
 obtain ⟨t,rfl⟩:=rx
 obtain ⟨t',rfl⟩:=ry
 exact add_str (fun t' tk=>⟨.str (i ++ j),H,I.tok _,⟨_,rfl⟩,q⟩) hz
theorem vals1 {x:V} {us:List Value} (r:Vals [x] us):∃ u,us = [u]∧RelV x u:=by
 cases r with
 | cons r1 r2=>cases r2; exact ⟨_,rfl,r1⟩
theorem vals2 {x y:V} {us:List Value} (r:Vals [x,y] us):∃ u w',us = [u,w']∧RelV x u∧RelV y w':=by
 cases r with
 | cons r1 r2 =>
  cases r2 with
  | cons r3 r4=>cases r4; exact ⟨_,_,rfl,r1,r3⟩
theorem call_abs:CallR X (.builtin "abs") (fun xs H Q=>∃ i,xs = [.int i]∧Q (.int (if i < 0 then -i else i)) H):=by
 intro pins s σ H xs us Q I r h
 obtain ⟨i,rfl,q⟩:=h
 obtain ⟨u,rfl,t,rfl⟩:=vals1 r
 exact call_abs_int fun u tk=>⟨.int (if i < 0 then -i else i),H,I.tok _,⟨_,rfl⟩,q⟩
theorem call_max2 (hc:X.calm = true):CallR X (.builtin "max") (fun xs H Q=>∃ i j,xs = [.int i,.int j]∧Q (.int (if j > i then j else i)) H):=by
 intro pins s σ H xs us Q I r h
 obtain ⟨i,j,rfl,q⟩:=h
 obtain ⟨u,w',rfl,⟨t,rfl⟩,⟨t',rfl⟩⟩:=vals2 r
 refine max_two_ints (I.ok.hd hc) fun h' tk k=>⟨_,H,I.kept k,?_,q⟩
 by_cases hj:j > i
 ·rw [if_pos hj,if_pos hj]; exact ⟨_,rfl⟩
 ·rw [if_neg hj,if_neg hj]; exact ⟨_,rfl⟩
theorem call_min2 (hc:X.calm = true):CallR X (.builtin "min") (fun xs H Q=>∃ i j,xs = [.int i,.int j]∧Q (.int (if j < i then j else i)) H):=by
 intro pins s σ H xs us Q I r h
 obtain ⟨i,j,rfl,q⟩:=h
 obtain ⟨u,w',rfl,⟨t,rfl⟩,⟨t',rfl⟩⟩:=vals2 r
 refine min_two_ints (I.ok.hd hc) fun h' tk k=>⟨_,H,I.kept k,?_,q⟩
 by_cases hj:j < i
 ·rw [if_pos hj,if_pos hj]; exact ⟨_,rfl⟩
 ·rw [if_neg hj,if_neg hj]; exact ⟨_,rfl⟩
end
end L2
namespace L2
open PySem PySem.Spec PyProof.Rows
structure ObjM (h:Heap) (x dx C:Addr) (mA:Str→Option Value):Prop where
 obj:h.get? x = some (PySem.W.instObj C dx)
 ns:h.Ns1 dx mA
 ne:dx≠x
theorem lookIn_ns {h:Heap} {dx:Addr} {mA:Str→Option Value} (n:h.Ns1 dx mA):∃ od,h.get? dx = some od∧∀ name,PySem.W.lookIn name od = some (mA name):=by
 obtain ⟨o,es,ep,ho,hd,hk,_,hm⟩:=n
 refine ⟨o,ho,fun name=>?_⟩
 have e:=hm name
 unfold nsFind findBy at e
 rw [← Array.find?_toList] at e
 unfold PySem.W.lookIn
 rw [hd]
 dsimp only
 split
 ·rename_i y q
  rw [q] at e
  exact congrArg some e
 ·rename_i q
  rw [q] at e
  have a:es.toList.any (·.refKey) = false:=by
   rw [List.any_eq_false]
   intro y hy
   obtain ⟨z,t,hkey⟩:=hk y (Array.mem_toList_iff.mp hy)
   simp [DictEntry.refKey,hkey]
  have a':¬ es.toList.any (·.refKey) = true:=by rw [a]; exact Bool.false_ne_true
  rw [if_neg a']
  exact congrArg some e
theorem ObjM.look {h:Heap} {x dx C:Addr} {mA:Str→Option Value} (I:ObjM h x dx C mA):∃ od,PySem.W.InstAt h x (PySem.W.instObj C dx) C (some od)∧∀ name,PySem.W.lookIn name od = some (mA name):=
 let ⟨od,ho,hl⟩:=lookIn_ns I.ns
 ⟨od,⟨I.obj,rfl,rfl,ho⟩,hl⟩
section
variable {prog:Program} {w:World} {A:Around} {E:Value→Shared→Prop} {s:Shared} {K:PySem.W.Frag} {x dx C f:Addr} {mA:Str→Option Value} {name:Str} {v:Value}
end
theorem RelO.some_of {v:V} {o:Option Value} (r:RelO (some v) o):∃ u,o = some u∧RelV v u:=by
 cases o with
 | none=>exact (show False from r).elim
 | some u=>exact ⟨u,rfl,r⟩
section
variable {P:Program} {w:World} {H H':Hp} {h h':Heap} {a C dx:Addr} {fs fs':List (Str × V)}
theorem ins_get (hok:HOk P w H h) (e:H a = some (.ins C dx fs)):∃ mA,ObjM h a dx C mA∧(∀ f,RelO (fs.lookup f) (mA f))∧PySem.Within mA (fs.map (·.1))∧fs.length≤1000∧H dx = some (.own a):=by
 obtain ⟨d,z,ne,ob,mA,n,r,q⟩:=(show ObjOk P w H h a (.ins C dx fs) from hok a _ e)
 exact ⟨mA,⟨ob,n,ne⟩,r,q,z,d⟩
end
structure Cls (K:PySem.W.Frag) (C:Addr):Prop where
 pg:PySem.W.plainGet K C Str.empty = true
 hd:PySem.W.hasDictIn K C = true
 po:PySem.W.plainOver K C = true
 sa:PySem.W.findIn K (.ref C) "__setattr__" = some (some (.builtin "object.__setattr__"))
theorem Cls.get {K:PySem.W.Frag} {C:Addr} (c:Cls K C) (f:Str):PySem.W.plainGet K C f = true:=c.pg
section
variable {X:Cx} {pins:List (Addr × Obj)} {σ:St} {H:Hp} {s:Shared} {a C dx:Addr} {fs:List (Str × V)} {f:Str} {v:V} {A:Around} {E:Value→Shared→Prop}
end
section
variable {X:Cx} {o e value:Expr} {f:Str} {pos pos' tpos:Pos} {ta tv:TE}
end
section
variable {X:Cx} {pins:List (Addr × Obj)} {σ:St} {H:Hp} {s:Shared} {A:Around} {E:Value→Shared→Prop} {Q:Value→Shared→Prop} {c:Value} {b:Bool}
inductive TyOf (K:PySem.W.Frag) (H:Hp):V→Value→Prop where
 | non:TyOf K H .non (.type "NoneType")
 | bl (x:Bool):TyOf K H (.bl x) (.type "bool")
 | int (i:Int):TyOf K H (.int i) (.type "int")
 | str (x:Str):TyOf K H (.str x) (.type "str")
 | flt (x:UInt64):TyOf K H (.flt x) (.type "float")
 | lst {a:Addr} {xs:List V} (e:H a = some (.lst xs)):TyOf K H (.ref a) (.type "list")
 | frz {a:Addr} {o:Obj} {xs:List V} (e:H a = some (.frz o (.lst xs))):TyOf K H (.ref a) (.type "list")
 | tup {a:Addr} {xs:List V} (e:H a = some (.tup xs)):TyOf K H (.ref a) (.type "tuple")
 | dK {a:Addr} {kvs:List (Key × V)} (e:H a = some (.dK kvs)):TyOf K H (.ref a) (.type "dict")
 | dT {a:Addr} {kvs:List (List Key × V)} (e:H a = some (.dT kvs)):TyOf K H (.ref a) (.type "dict")
 | ins {a C dx:Addr} {fs:List (Str × V)} (e:H a = some (.ins C dx fs)) (cl:Cls K C) (ha:PySem.W.findIn K (.ref C) "__class__" = some (some (.builtin "object.__class__")))
   (hn:PySem.W.specialIn K (.builtin "object.__class__") "__get__" = some (some (.builtin "getset_descriptor.__get__"))) (htk:PySem.W.takesIn K (.builtin "object.__class__") = some true)
   (hm:PySem.W.mroIn K C (.type "object") = some true):TyOf K H (.ref a) (.ref C)
theorem isinst_ok {x:V} {u t:Value} (I:Inv X pins σ H s) (rx:RelV x u) (ty:TyOf X.K H x t) (e:PySem.W.kitOne X.K t c = some b) (h:∀ tk,Q (.bool b) { s with toks:=tk }) :
  wpAny (model X.prog X.w) A (call (.builtin "isinstance") [u,c]) Q E s:=by
 cases ty with
 | non=>cases (show u = Value.none from rx); exact PySem.W.kia_one PySem.W.kitx_none I.kIn True.intro e (fun z=>nomatch z) h
 | bl y=>cases (show u = Value.bool y from rx); exact PySem.W.kia_one PySem.W.kitx_bool I.kIn True.intro e (fun z=>nomatch z) h
 | int i=>obtain ⟨t,q⟩:=(show ∃ t,u = Value.int i t from rx); cases q; exact PySem.W.kia_one PySem.W.kitx_int I.kIn True.intro e (fun z=>nomatch z) h
 | str y=>obtain ⟨t,q⟩:=(show ∃ t,u = Value.str y t from rx); cases q; exact PySem.W.kia_one PySem.W.kitx_str I.kIn True.intro e (fun z=>nomatch z) h
 | flt y=>obtain ⟨t,q⟩:=(show ∃ t,u = Value.float y t from rx); cases q; exact PySem.W.kia_one PySem.W.kitx_float I.kIn True.intro e (fun z=>nomatch z) h
 | @lst a xs ea =>
  cases (show u = Value.ref a from rx)
  obtain ⟨_,_,n,_,h1⟩:=(show ObjOk X.prog X.w H s.heap a (.lst xs) from I.hok a _ ea)
  exact PySem.W.kia_one PySem.W.kitx_list I.kIn ⟨_,h1,rfl⟩ e (fun z=>nomatch z) h
 | @frz a ob xs ea =>
  cases (show u = Value.ref a from rx)
  obtain ⟨_,_,_,n,_,h1⟩:=(show ObjOk X.prog X.w H s.heap a (.frz ob (.lst xs)) from I.hok a _ ea)
  exact PySem.W.kia_one PySem.W.kitx_list I.kIn ⟨_,h1,rfl⟩ e (fun z=>nomatch z) h
 | @tup a xs ea =>
  cases (show u = Value.ref a from rx)
  obtain ⟨_,_,_,p⟩:=(show ObjOk X.prog X.w H s.heap a (.tup xs) from I.hok a _ ea)
  obtain ⟨o,h1,h2,_⟩:=p
  exact PySem.W.kia_one PySem.W.kitx_tuple I.kIn ⟨o,h1,h2⟩ e (fun z=>nomatch z) h
 | @dK a kvs ea =>
  cases (show u = Value.ref a from rx)
  obtain ⟨_,_,vs,_,p⟩:=(show ObjOk X.prog X.w H s.heap a (.dK kvs) from I.hok a _ ea)
  obtain ⟨o,es,ep,h1,h2,_⟩:=p
  exact PySem.W.kia_one PySem.W.kitx_dict I.kIn ⟨o,h1,h2.1⟩ e (fun z=>nomatch z) h
 | @dT a kvs ea =>
  cases (show u = Value.ref a from rx)
  obtain ⟨_,_,xs,_,o,es,ep,h1,h2,_⟩:=(show ObjOk X.prog X.w H s.heap a (.dT kvs) from I.hok a _ ea)
  exact PySem.W.kia_one PySem.W.kitx_dict I.kIn ⟨o,h1,h2.1⟩ e (fun z=>nomatch z) h
 | @ins a C dx fs ea cl ha hn htk hm =>
  cases (show u = Value.ref a from rx)
  obtain ⟨mA,O,_⟩:=ins_get I.hok ea
  obtain ⟨od,J,_⟩:=O.look
  exact PySem.W.kia_one (PySem.W.kitx_own (cl.get _) cl.hd ha hn htk hm) I.kIn J e (fun z=>nomatch z) h
end
end L2
namespace L2
open PySem PySem.Spec PyProof.Rows
structure Room (k:Nat) (A:Around):Prop where
 hd:A.handled = none
 dp:A.depth + 3 * k + 5 < recursionLimit
 un:A.units + 16 * k + 200 < cLine
theorem Room.mono {j k:Nat} {A:Around} (r:Room k A) (h:j≤k):Room j A:=⟨r.hd,by have:=r.dp; lia,by have:=r.un; lia⟩
theorem Room.deeper {k:Nat} {A:Around} (r:Room (k + 1) A) (env:Env):Room k (A.deeper env):=
 ⟨r.hd,by have:=r.dp; show A.depth + 1 + 3 * k + 5 < _; lia,by have:=r.un; show A.units + 3 + 16 * k + 200 < _; lia⟩
theorem Room.depth {k:Nat} {A:Around} (r:Room k A):A.depth < recursionLimit:=by have:=r.dp; lia
theorem Room.units {k:Nat} {A:Around} (r:Room k A):A.units + 64 < cLine:=by have:=r.un; lia
noncomputable def tNil:TA:=fun _ H Q=>Q [] H
noncomputable def tCons (ta:TE) (tr:TA):TA:=fun σ H Q=>ta σ H fun x H1=>tr σ H1 fun xs H2=>Q (x :: xs) H2
section
variable {X:Cx} {e:Expr} {es:List Expr} {te:TE} {t:TA} {pos:Pos}
theorem pa_nil:PA X [] tNil:=fun _ _ _ _ H Q I h=>Calls.spliced_nil ⟨[],H,I,.nil,h⟩
theorem pa_cons (ha:PE X e te) (hr:PA X es t) (hs:starEach (e :: es) X.env = (false,eval e X.env) :: starEach es X.env:=by rfl):PA X (e :: es) (tCons te t):=by
 intro pos pins s σ H Q I h
 rw [hs]
 show wpAny _ _ (spliced ((false,eval e X.env) :: backTo pos (starEach es X.env))) _ _ s
 refine Calls.spliced_cons (thn (ha pins s σ H _ I h) fun u s1 yy=>?_)
 obtain ⟨x,H1,I1,r1,q1⟩:=yy
 exact thn (hr pos pins s1 σ H1 _ I1 q1) fun us s2 ⟨xs,H2,I2,r2,q2⟩=>⟨x :: xs,H2,I2,.cons r1 r2,q2⟩
noncomputable def tTup (t:TA):TE:=fun σ H Q=>t σ H fun xs H1=>xs.length≤sizeLine∧∀ p,H1 p = none→Q (.ref p) (upd H1 p (.tup xs))
noncomputable def tLst (t:TA):TE:=fun σ H Q=>t σ H fun xs H1=>xs.length≤sizeLine∧∀ p,H1 p = none→Q (.ref p) (upd H1 p (.lst xs))
theorem pe_tup {x1} (h:PA X es t):PE X (.Tuple es x1 pos) (tTup t):=by
 intro pins s σ H Q I hq
 refine wpAny_Tuple_spliced (thn (h pos pins s σ H _ I hq) fun us s1 ⟨xs,H1,I1,r,z,q⟩=>⟨by rw [← r.length]; exact z,?_⟩)
 have hf:H1 s1.heap.objs.size = none:=I1.hok.fresh (Nat.le_refl _)
 refine ⟨.ref s1.heap.objs.size,upd H1 s1.heap.objs.size (.tup xs),I1.laid (t':=s1.toks) (fun b u e=>Heap.get?_push_of_some _ e) (Nat.le_refl _) ?_,rfl,q _ hf⟩
 exact ⟨z,us,r,⟨_,Heap.get?_push_size _ rfl,rfl,_,rfl⟩⟩
theorem pe_lst (h:PA X es t):PE X (.List es pos) (tLst t):=by
 intro pins s σ H Q I hq
 refine wpAny_List_spliced (thn (h pos pins s σ H _ I hq) fun us s1 ⟨xs,H1,I1,r,z,q⟩=>⟨by rw [← r.length]; exact z,?_⟩)
 have hf:H1 s1.heap.objs.size = none:=I1.hok.fresh (Nat.le_refl _)
 refine ⟨.ref s1.heap.objs.size,upd H1 s1.heap.objs.size (.lst xs),I1.laid (t':=s1.toks) (fun b u e=>Heap.get?_push_of_some _ e) (Nat.le_refl _) ?_,rfl,q _ hf⟩
 exact ⟨z,us,0,r,Heap.get?_push_size _ rfl⟩
end
noncomputable abbrev Sp:=List V→Hp→VK→XK→Prop
noncomputable abbrev CXT:=List Env→Hp→Shared→XK→Value→Shared→Prop
structure Env0 (P:Program) (w:World) (K:PySem.W.Frag) (mg:Str→Option Value) (base:Heap) (A:Around) (outer:List Env) (s:Shared) (H:Hp):Prop where
 frames:A.frames = some outer
 mod:Mod K mg base
 bs:∀ b o,base.get? b = some o→s.heap.get? b = some o∧H b = none
 bsz:base.objs.size≤s.heap.objs.size
 funs:s.heap.FunFrames base outer
 frf:∀ b∈frs outer,H b = none
 hok:HOk P w H s.heap
 bare:AllBare s.gens
 tb:Tabs K H
noncomputable def CE (outer:List Env) (P:Program) (w:World) (H:Hp) (s:Shared) (Q:VK) (u:Value) (s':Shared):Prop:=
 ∃ v H',s'.os = s.os∧AllBare s'.gens∧Un (frs outer) [] H H' s.heap s'.heap∧HOk P w H' s'.heap∧RelV v u∧Q v H'
noncomputable def CR (CX:CXT) (outer:List Env) (P:Program) (w:World) (H:Hp) (s:Shared) (Q:VK) (E:XK) (r:Result) (s':Shared):Prop:=
 match r with
 | .ok (.ret u)=>CE outer P w H s Q u s'
 | .ok _=>False
 | .error e=>CX outer H s E e s'
structure FnOk (P:Program) (w:World) (K:PySem.W.Frag) (mg:Str→Option Value) (base:Heap) (CX:CXT) (k:Nat) (f:Addr) (fd:FuncData) (ps:List Str) (sp:Sp):Prop where
 len:∀ vs H Q E,sp vs H Q E→vs.length = ps.length
 run:∀ (A:Around) (outer:List Env) (s:Shared) (H:Hp) (args:Args) (us:List Value) (vs:List V) (Q:VK) (E:XK),Room k A→Env0 P w K mg base A outer s H→BindsTo s fd args (ps.zip us)→Vals vs us→sp vs H Q E →
  codeAny (model P w) A (.call (.ref f) args) (CR CX outer P w H s Q E) s
section
variable {X:Cx} {pins:List (Addr × Obj)} {σ:St} {H:Hp} {s s':Shared}
theorem Inv.env0 (I:Inv X pins σ H s):Env0 X.prog X.w X.K X.mg X.base X.A X.stack s H:=
 ⟨I.ok.frames,I.ok.mod,I.bs,Nat.le_trans I.ok.bsz I.sz,I.stack,I.stkFree,I.hok,I.bare,I.tabs⟩
theorem Inv.after {Q:VK} {u:Value} (I:Inv X pins σ H s) (h:CE X.stack X.prog X.w H s Q u s'):EP X pins σ Q u s':=by
 obtain ⟨v,H',os,bare,un,hok,r,q⟩:=h
 obtain ⟨hh,g,d,t,os'⟩:=s'
 obtain rfl:os' = s.os:=os
 exact ⟨v,H',I.call (h':=hh) (g':=g) (d':=d) (t':=t) (ch:=[]) un hok bare (fun b z=>absurd z (by simp)),r,q⟩
end
noncomputable def tCall (sp:Sp) (dvs:List V) (E:XK) (t:TA):TE:=fun σ H Q=>t σ H fun vs H1=>sp (vs ++ dvs) H1 Q E
noncomputable def Binds (K:PySem.W.Frag) (fd:FuncData) (ps:List Str) (ds:List Value):Prop:=
 ∀ (s:Shared) (us:List Value),K.In s.heap→(us ++ ds).length = ps.length→BindsTo s fd ⟨us,[]⟩ (ps.zip (us ++ ds))
theorem Binds.all {K:PySem.W.Frag} {fd:FuncData} {ps:List Str} (h:∀ us:List Value,us.length = ps.length→bindArgs fd ⟨us,[]⟩ = pure (ps.zip us)):Binds K fd ps []:=fun s us _ hl=>by
 rw [List.append_nil] at hl ⊢
 exact .of_eq (h us hl)
noncomputable def Passes (CX:CXT) (X:Cx) (E:XK):Prop:=∀ (pins:List (Addr × Obj)) (σ:St) (H:Hp) (s:Shared) (e:Value) (s':Shared),Inv X pins σ H s→CX X.stack H s E e s'→X.xe e s'
section
variable {X:Cx} {CX:CXT} {k:Nat} {f C:Addr} {fd:FuncData} {ps:List Str} {sp:Sp} {dvs:List V} {ds:List Value} {E:XK} {x m:Str} {p pos apos:Pos} {e o:Expr} {es:List Expr} {ta:TE} {t:TA}
theorem run_fn {pins:List (Addr × Obj)} {σ:St} {H:Hp} {s:Shared} {Q:VK} {us:List Value} {vs:List V} (F:FnOk X.prog X.w X.K X.mg X.base CX k f fd ps sp) (hr:Room k X.A) (hb:Binds X.K fd ps ds) (hd:Vals dvs ds) (hx:Passes CX X E)
  (I:Inv X pins σ H s) (r:Vals vs us) (h:sp (vs ++ dvs) H Q E):wpAny (model X.prog X.w) X.A (call (.ref f) us) (EP X pins σ Q) X.xe s:=by
 have r2:Vals (vs ++ dvs) (us ++ ds):=r.append hd
 have hl:(us ++ ds).length = ps.length:=by rw [← r2.length]; exact F.len _ _ _ _ h
 refine wpAny_call (codeAny_mono (F.run X.A X.stack s H ⟨us,[]⟩ (us ++ ds) (vs ++ dvs) Q E hr I.env0 (hb s us I.kIn hl) r2 h) fun r s' hq=>?_)
 cases r with
 | error e=>exact hx pins σ H s e s' I hq
 | ok fl =>
  cases fl with
  | ret u=>exact I.after hq
  | next=>exact False.elim hq
  | brk=>exact False.elim hq
  | cont=>exact False.elim hq
theorem pe_call (F:FnOk X.prog X.w X.K X.mg X.base CX k f fd ps sp) (hr:Room k X.A) (hg:Gl X x) (hm:X.mg x = some (.ref f)) (hk:PySem.W.keepIn X.K (.ref f) = true) (hb:Binds X.K fd ps ds) (hd:Vals dvs ds) (hx:Passes CX X E)
  (ha:PA X (e :: es) t) (hdb:(x == ("__debug__" : Str)) = false:=by decide) (he:starEach (e :: es) X.env = (false,eval e X.env) :: starEach es X.env:=by rfl) (hpl:(backTo pos (starEach es X.env)).any (·.1) = false:=by rfl) :
  PE X (.Call (.Name x p) (e :: es) [] pos) (tCall sp dvs E t):=by
 intro pins s σ H Q I h
 refine wpAny_Call_Name_kw (ld_glob I hg hm ?_ hdb)
 refine PySem.W.callWith_K (h₀:=X.base) I.ok.mod.kin hk (thn (ha pos pins s σ H _ I h) fun us s1 ⟨vs,H1,I1,r,q⟩=>⟨I1.kIn,?_⟩) he hpl
 exact run_fn F hr hb hd hx I1 r q
end
section
variable {X:Cx} {CX:CXT} {k:Nat} {f C:Addr} {fd:FuncData} {ps ks:List Str} {sp:Sp} {E:XK} {x m:Str} {p pos apos kpos:Pos} {e o:Expr} {es:List Expr} {kws:List Keyword} {te ta:TE} {t tk:TA} {nm:Option Str}
variable {g:List Value→List Value→List Value} {gV:List V→List V→List V}
end
structure FnScope (N P:List Str) (sc:Scope):Prop where
 kind:sc.kind = .function
 co:sc.isCoroutine = false
 gen:sc.isGenerator = false
 nd:N.Nodup
 pre:N.take P.length = P
 par:∀ x∈P,sc.names.lookup x = some .local∨sc.names.lookup x = some .cell
 nofree:∀ y∈sc.names,y.2 ≠ .free
theorem bindL_out {kindOf:Str→Option NameKind} {x:Str}:∀ {binds:List (Str × Value)} {m:Str→Option Value},(∀ v,(x,v) ∉ binds)→bindL kindOf binds m x = m x
 | [],_,_=>rfl
 | (n,v) :: r,m,h=>by
  unfold bindL
  rw [bindL_out fun w hw=>h w (List.mem_cons_of_mem _ hw)]
  split
  ·have:x≠n:=by rintro rfl; exact h v List.mem_cons_self
   simp [this]
  ·rfl
theorem bindC_out {kindOf:Str→Option NameKind} {x:Str}:∀ {binds:List (Str × Value)} {m:Str→Option Value},(∀ v,(x,v) ∉ binds)→bindC kindOf binds m x = m x
 | [],_,_=>rfl
 | (n,v) :: r,m,h=>by
  unfold bindC
  rw [bindC_out fun w hw=>h w (List.mem_cons_of_mem _ hw)]
  split
  ·rfl
  ·have:x≠n:=by rintro rfl; exact h v List.mem_cons_self
   simp [this]
theorem bindL_get {kindOf:Str→Option NameKind} {x:Str} {v:Value}:∀ {P:List Str} {vs:List Value} {i:Nat} {m:Str→Option Value},P.Nodup→P[i]? = some x→vs[i]? = some v→kindOf x = some .local →
  bindL kindOf (P.zip vs) m x = some v
 | [],_,_,_,_,h,_,_=>by simp at h
 | _ :: _,[],_,_,_,_,h,_=>by simp at h
 | p :: P,w :: vs,0,m,nd,h1,h2,hk=>by
  simp at h1 h2; subst h1; subst h2
  show bindL kindOf ((p,w) :: P.zip vs) m p = _
  unfold bindL
  rw [bindL_out fun v hv=>(List.nodup_cons.mp nd).1 (List.of_mem_zip hv).1,if_pos hk]
  simp
 | p :: P,w :: vs,i + 1,m,nd,h1,h2,hk=>by
  show bindL kindOf ((p,w) :: P.zip vs) m x = _
  unfold bindL
  exact bindL_get (i:=i) (List.nodup_cons.mp nd).2 (by simpa using h1) (by simpa using h2) hk
theorem bindC_get {kindOf:Str→Option NameKind} {x:Str} {v:Value}:∀ {P:List Str} {vs:List Value} {i:Nat} {m:Str→Option Value},P.Nodup→P[i]? = some x→vs[i]? = some v→kindOf x≠some .local →
  bindC kindOf (P.zip vs) m x = some v
 | [],_,_,_,_,h,_,_=>by simp at h
 | _ :: _,[],_,_,_,_,h,_=>by simp at h
 | p :: P,w :: vs,0,m,nd,h1,h2,hk=>by
  simp at h1 h2; subst h1; subst h2
  show bindC kindOf ((p,w) :: P.zip vs) m p = _
  unfold bindC
  rw [bindC_out fun v hv=>(List.nodup_cons.mp nd).1 (List.of_mem_zip hv).1,if_neg hk]
  simp
 | p :: P,w :: vs,i + 1,m,nd,h1,h2,hk=>by
  show bindC kindOf ((p,w) :: P.zip vs) m x = _
  unfold bindC
  exact bindC_get (i:=i) (List.nodup_cons.mp nd).2 (by simpa using h1) (by simpa using h2) hk
noncomputable def start (N:List Str) (vs:List V):St:=vs.map some ++ List.replicate (N.length - vs.length) none
noncomputable def cxOf (CX:CXT) (P:Program) (w:World) (K:PySem.W.Frag) (mg:Str→Option Value) (base:Heap) (N:List Str) (qual:Str) (scope:Scope) (f:Addr) (cd:Value) (A:Around) (outer:List Env) (s:Shared) (H:Hp) (E:XK):Cx where
 prog:=P
 w:=w
 K:=K
 mg:=mg
 base:=base
 A:=A.deeper (envOfC qual scope s.heap.objs.size f cd)
 N:=N
 s₀:=s
 H₀:=H
 env:=envOfC qual scope s.heap.objs.size f cd
 outer:=outer
 stack:=envOfC qual scope s.heap.objs.size f cd :: outer
 ex:=[]
 calm:=true
 fn:=fun _=>true
 pn:=[]
 xe:=fun e s'=>wpAny (model P w) (A.deeper (envOfC qual scope s.heap.objs.size f cd)) (leaving (envOfC qual scope s.heap.objs.size f cd) e) (fun _ s''=>CX outer H s E e s'') (fun e' s''=>CX outer H s E e' s'') s'
theorem cell_has {sc:Scope} {n:Nat} {x:Str} (h:sc.names.lookup x = some .cell):∃ c,(cellsFrom n sc.names []).lookup x = some c:=by
 have q:=PySem.W.cellsFrom_some sc.names n [] (.inl h)
 exact Option.isSome_iff_exists.mp q
theorem inv_start {CX:CXT} {P:Program} {w:World} {K:PySem.W.Frag} {mg:Str→Option Value} {base:Heap} {N ps:List Str} {qual:Str} {scope:Scope} {f:Addr} {cd:Value} {A:Around} {outer:List Env} {s s1:Shared} {H:Hp} {E:XK} {us:List Value} {vs:List V}
  (S:FnScope N ps scope) (hd:A.handled = none) (e0:Env0 P w K mg base A outer s H) (hl:vs.length = ps.length) (r:Vals vs us)
  (x:InCallC s s.heap.objs.size (bindL (envOfC qual scope s.heap.objs.size f cd).kindOf (ps.zip us) fun _=>none) (cellsFrom (s.heap.objs.size + 1) scope.names []) (bindC (envOfC qual scope s.heap.objs.size f cd).kindOf (ps.zip us) fun _=>none) s1) :
  Inv (cxOf CX P w K mg base N qual scope f cd A outer s H E) [] (start N vs) H s1:=by
 have hpl:ps.length≤N.length:=by have:=congrArg List.length S.pre; rw [List.length_take] at this; lia
 obtain ⟨h1,tk,rfl,hk⟩:=x.done
 have noA:∀ b:Addr,b ∉ (cxOf CX P w K mg base N qual scope f cd A outer s H E).ex:=fun b z=>absurd (show b∈([]:List Addr) from z) (by simp)
 refine ⟨⟨e0.mod,S.kind,rfl,rfl,Nat.le_refl _,fun y z c h1 h2=>?_,fun y hy=>?_,fun y c _ h=>?_,fun _=>hd,Around.frames_deeper e0.frames,.inr ⟨rfl,rfl⟩,fun b z=>absurd z (noA b),e0.bs,e0.bsz,fun b _ _=>noA b,fun b z=>absurd z (noA b),e0.funs,e0.frf,e0.tb⟩,
  rfl,e0.bare,Un.kept hk,⟨_,x.toInCall.ns,fun i y v h1 h2 h3=>?_⟩,fun y c h=>⟨_,x.cell y c h⟩,e0.hok.fresh (Nat.le_refl _),fun y c h=>?_,fun p hp=>absurd (show p∈([]:List (Addr × Obj)) from hp) (by simp),e0.hok.kept hk,?_⟩
 ·exact name_of_addr x.apart (PySem.mem_of_lookup h1) (PySem.mem_of_lookup h2)
 ·have hy:scope.names.lookup y = some .cell∨scope.names.lookup y = some .free:=hy
  rcases hy with hy | hy
  ·exact cell_has hy
  ·exact absurd rfl (S.nofree _ (PySem.mem_of_lookup hy))
 ·exact Nat.le_of_lt (x.above y c (PySem.mem_of_lookup h))
 ·have hi:i < vs.length:=by
   unfold start at h2
   by_cases hi:i < vs.length
   ·exact hi
   ·rw [List.getElem?_append_right (by simpa using hi)] at h2
    rw [List.getElem?_replicate] at h2
    split at h2 <;> cases h2
  have ha:vs[i]? = some v:=by
   unfold start at h2
   rw [List.getElem?_append_left (by simpa using hi),List.getElem?_map] at h2
   cases e:vs[i]? with
   | none=>rw [e] at h2; cases h2
   | some a=>rw [e] at h2; cases h2; rfl
  obtain ⟨u,hu,rv⟩:=r.get ha
  have hp:ps[i]? = some y:=by
   rw [← S.pre,List.getElem?_take_of_lt (by lia)]; exact h1
  have ndP:ps.Nodup:=by rw [← S.pre]; exact S.nd.sublist (List.take_sublist _ _)
  refine ⟨u,rv,?_⟩
  rcases S.par y (List.mem_of_getElem? hp) with k | k
  ·exact .inl ⟨k,bindL_get ndP hp hu k⟩
  ·obtain ⟨c,e⟩:=cell_has (n:=s.heap.objs.size + 1) k
   refine .inr ⟨.inl k,c,e,?_⟩
   have q:=x.cell y c e
   rw [bindC_get ndP hp hu (by show scope.names.lookup y≠_; rw [k]; decide)] at q
   exact q
 ·exact e0.hok.fresh (Nat.le_of_lt (x.above y c (PySem.mem_of_lookup h)))
 ·unfold start
  show _ = N.length
  rw [List.length_append,List.length_map,List.length_replicate]
  lia
theorem fn_of {CX:CXT} {P:Program} {w:World} {K:PySem.W.Frag} {mg:Str→Option Value} {base:Heap} {k:Nat} {f:Addr} {name qual:Str} {params:Arguments} {body:List Stmt} {scope:Scope} {dV kV doc pm cdv ct oc:Value} {an od:Option Addr}
  {osl:Array (Option Value)} {N ps:List Str} {sp:Sp} (lk:K.lookup f = some ⟨oc,od,.func (PySem.W.fnOf name qual params body scope dV kV doc pm an cdv ct),osl⟩) (hcd:PySem.W.codeIn K cdv qual = true) (S:FnScope N ps scope)
  (len:∀ vs H Q E,sp vs H Q E→vs.length = ps.length)
  (hbody:∀ (A:Around) (outer:List Env) (s:Shared) (H:Hp) (vs:List V) (Q:VK) (E:XK),Room k (A.deeper (envOfC qual scope s.heap.objs.size f cdv))→sp vs H Q E →
   ∃ t,PSs (cxOf CX P w K mg base N qual scope f cdv A outer s H E) body t∧t { nx:=fun _ H'=>Q .non H',rt:=Q } (start N vs) H) :
  FnOk P w K mg base CX (k + 1) f (PySem.W.fnOf name qual params body scope dV kV doc pm an cdv ct) ps sp:=by
 refine ⟨len,fun A outer s H args us vs Q E hr e0 hb r hsp=>?_⟩
 have hl:=len _ _ _ _ hsp
 have KX:K.In s.heap:=e0.mod.kin.keeps fun b o e=>(e0.bs b o e).1
 have lim:s.heap.NoLimit:=e0.mod.nolimit.keeps fun b o e=>(e0.bs b o e).1
 have hkind:∀ y∈ps.zip us,scope.names.lookup y.1 = some .local∨(scope.names.lookup y.1 = some .cell∧((cellsFrom (s.heap.objs.size + 1) scope.names []).lookup y.1).isSome = true):=fun ⟨n,v⟩ hy=>by
  rcases S.par n (List.of_mem_zip hy).1 with q | q
  ·exact .inl q
  ·exact .inr ⟨q,PySem.W.cellsFrom_some _ _ _ (.inl q)⟩
 refine codeAny_call_function hr.depth (KX _ _ lk) rfl S.co S.gen rfl (PySem.W.codeRec_of KX hcd) (hb _ _ _ _ ?_)
 refine wpAny_newFunctionEnv_cells S.kind hkind fun env he s1 x=>?_
 subst he
 refine ⟨lim.keeps x.toInCall.keep,codeAny_func ?_⟩
 obtain ⟨t,ht,hq⟩:=hbody A outer s H vs Q E (hr.deeper _) hsp
 have I:Inv (cxOf CX P w K mg base N qual scope f cdv A outer s H E) [] (start N vs) H s1:=inv_start S hr.hd e0 hl r x
 refine wpAny_mono (ht [] s1 (start N vs) H _ I hq) (fun fl s' hs=>?_) fun e s' hs=>hs
 have fin:∀ {σ':St} {H':Hp} {v:V} {u:Value},Inv (cxOf CX P w K mg base N qual scope f cdv A outer s H E) [] σ' H' s'→RelV v u→Q v H'→CE outer P w H s Q u s':=
  fun {σ' H' v u} J rv q=>⟨v,H',J.os,J.bare,J.base,J.hok,rv,q⟩
 cases fl with
 | ret u =>
  obtain ⟨v,σ',H',J,rv,q⟩:=hs
  exact fin J rv q
 | next =>
  obtain ⟨σ',H',J,q⟩:=hs
  exact fin (v:=V.non) (u:=Value.none) J rfl q
 | brk =>
  obtain ⟨_,_,_,q⟩:=hs
  exact False.elim q
 | cont =>
  obtain ⟨_,_,_,q⟩:=hs
  exact False.elim q
end L2
namespace L2
open PySem PySem.Spec PyProof.Rows
section
variable {X:Cx} {x:Str} {p pos:Pos} {e:Expr} {es:List Expr} {t:TA} {id T:String} {r:List V→Hp→VK→Prop}
noncomputable def tCB (r:List V→Hp→VK→Prop) (t:TA):TE:=fun σ H Q=>t σ H fun vs H1=>r vs H1 Q
theorem pe_callB (hc:CallR X (.builtin id) r) (hg:Gl X x) (hm:X.mg x = none) (hv:bootBuiltins x = some (.builtin id)) (ha:PA X (e :: es) t) (hn:x ≠ "__name__" := by decide) (hdb:(x == ("__debug__" : Str)) = false:=by decide)
  (he:starEach (e :: es) X.env = (false,eval e X.env) :: starEach es X.env:=by rfl) (hpl:(backTo pos (starEach es X.env)).any (·.1) = false:=by rfl):PE X (.Call (.Name x p) (e :: es) [] pos) (tCB r t):=by
 intro pins s σ H Q I h
 refine wpAny_Call_Name_kw (ld_blt I hg hm hv ?_ hn hdb)
 exact PyProof.Rows.callWith_builtin1 (thn (ha pos pins s σ H _ I h) fun us s1 ⟨vs,H1,I1,r1,q1⟩=>hc pins s1 σ H1 vs us Q I1 r1 q1) he hpl
theorem pe_callTy (hc:CallR X (.type T) r) (hg:Gl X x) (hm:X.mg x = none) (hv:bootBuiltins x = some (.type T)) (ha:PA X (e :: es) t) (hn:x ≠ "__name__" := by decide) (hdb:(x == ("__debug__" : Str)) = false:=by decide)
  (he:starEach (e :: es) X.env = (false,eval e X.env) :: starEach es X.env:=by rfl) (hpl:(backTo pos (starEach es X.env)).any (·.1) = false:=by rfl):PE X (.Call (.Name x p) (e :: es) [] pos) (tCB r t):=by
 intro pins s σ H Q I h
 refine wpAny_Call_Name_kw (ld_blt I hg hm hv ?_ hn hdb)
 exact PyProof.Rows.callWith_type1 (thn (ha pos pins s σ H _ I h) fun us s1 ⟨vs,H1,I1,r1,q1⟩=>hc pins s1 σ H1 vs us Q I1 r1 q1) he hpl
end
end L2
namespace HT
open PySem PyProof.Rows
section
open PySem.SeqAt
open PySem.AutoSeq1 (wpAny_loadPart')
open PySem.MeetsSeq PySem.MeetsSeq2 PySem.MeetsSeq3
end
section
variable {prog:Program} {w:World} {A:Around} {E:Value→Shared→Prop} {s:Shared}
noncomputable def sIx (n d:Nat):Option Int→Nat
 | none=>d
 | some v=>if v < 0 then (v + (n:Int)).toNat else min v.toNat n
theorem sIx_nat (n d k:Nat):sIx n d (some (k:Int)) = min k n:=by
 show (if (k:Int) < 0 then ((k:Int) + (n:Int)).toNat else min (k:Int).toNat n) = min k n
 rw [if_neg (by lia),Int.toNat_natCast]
end
end HT
namespace L2
open PySem PySem.Spec PyProof.Rows
noncomputable abbrev TO:=St→Hp→(Option Int→Hp→Prop)→Prop
noncomputable def PO (X:Cx) (e:Option Expr) (t:TO):Prop:=
 ∀ (pins:List (Addr × Obj)) (s:Shared) (σ:St) (H:Hp) (Q:Option Int→Hp→Prop),Inv X pins σ H s→t σ H Q →
  wpAny (model X.prog X.w) X.A (evalPart e X.env) (fun u s'=>∃ o H',Inv X pins σ H' s'∧IsPart u o∧Q o H') X.xe s
noncomputable def tNoPart:TO:=fun _ H Q=>Q none H
noncomputable def tPart (t:TE):TO:=fun σ H Q=>t σ H fun x H1=>∃ i,x = .int i∧Q (some i) H1
section
variable {X:Cx} {e:Expr} {te:TE} {lo hi:Option Expr} {tl th:TO} {pos p2:Pos}
theorem po_none:PO X none tNoPart:=by
 intro pins s σ H Q I h
 rw [evalPart_none]
 exact wpAny_pure ⟨none,H,I,.none,h⟩
theorem po_some (h:PE X e te):PO X (some e) (tPart te):=by
 intro pins s σ H Q I hw
 rw [evalPart_some]
 refine thn (h pins s σ H _ I hw) fun u s1 yy=>?_
 obtain ⟨x,H1,I1,r1,q1⟩:=yy
 obtain ⟨i,rfl,q⟩:=q1
 obtain ⟨t,rfl⟩:=r1
 exact ⟨some i,H1,I1,.int i t,q⟩
noncomputable def SlR (X:Cx) (r:V→Option Int→Option Int→Hp→VK→Prop):Prop:=
 ∀ (pins:List (Addr × Obj)) (s:Shared) (σ:St) (H:Hp) (x:V) (v vl vu:Value) (lo hi:Option Int) (sl:Addr) (Q:VK),Inv X pins σ H s→RelV x v→s.heap.IsSliceOf sl vl vu .none→IsPart vl lo→IsPart vu hi→r x lo hi H Q →
  ∃ T id,typeLookup (.type T) "__getitem__" = pure (some (.builtin id))∧s.TypeIs v T∧wpAny (model X.prog X.w) X.A (getItem v (.ref sl)) (EP X pins σ Q) X.xe s
noncomputable def tSl (r:V→Option Int→Option Int→Hp→VK→Prop) (te:TE) (tl th:TO):TE:=fun σ H Q=>te σ H fun x H1=>tl σ H1 fun l H2=>th σ H2 fun u H3=>r x l u H3 Q
theorem pe_slice {r:V→Option Int→Option Int→Hp→VK→Prop} (hr:SlR X r) (he:PE X e te) (hl:PO X lo tl) (hu:PO X hi th):PE X (.Subscript e (.Slice lo hi none p2) pos) (tSl r te tl th):=by
 intro pins s σ H Q I h
 refine Subscript_ (thn (he pins s σ H _ I h) fun v s1 yy=>?_)
 obtain ⟨x,H1,I1,r1,q1⟩:=yy
 refine wpAny_Slice (thn (hl pins s1 σ H1 _ I1 q1) fun vl s2 ⟨l,H2,I2,pl,q2⟩=>thn (hu pins s2 σ H2 _ I2 q2) fun vu s3 yy=>?_)
 obtain ⟨u,H3,I3,pu,q3⟩:=yy
 rw [evalPart_none]
 refine wpAny_pure ?_
 have I4:Inv X pins σ H3 { s3 with heap:=s3.heap.push { cls:=.type "slice",data:=.fields #[vl,vu,.none] } }:=I3.kept (t':=s3.toks) fun b ob q=>Heap.get?_push_of_some _ q
 obtain ⟨T,id,hT,ht,hg⟩:=hr pins { s3 with heap:=s3.heap.push { cls:=.type "slice",data:=.fields #[vl,vu,.none] } } σ H3 x v vl vu l u s3.heap.objs.size Q I4 r1 (Heap.IsSliceOf.new ..) pl pu q3
 show wpAny (model X.prog X.w) X.A (subscriptTail e (.Slice lo hi none p2) v (.ref s3.heap.objs.size)) (EP X pins σ Q) X.xe { s3 with heap:=s3.heap.push { cls:=.type "slice",data:=.fields #[vl,vu,.none] } }
 exact tail_any (ops:=[.ref s3.heap.objs.size,v]) ht hT hg (by with_unfolding_all rfl)
noncomputable def cutV (xs:List V) (lo hi:Option Int):List V:=(xs.drop (HT.sIx xs.length 0 lo)).take (HT.sIx xs.length xs.length hi - HT.sIx xs.length 0 lo)
theorem cutV_length (xs:List V) (lo hi:Option Int):(cutV xs lo hi).length≤xs.length:=by
 unfold cutV
 rw [List.length_take,List.length_drop]
 lia
end
end L2
namespace L2
open PySem PySem.Spec PyProof.Rows
noncomputable def ixN (n:Nat) (i:Int):Option Nat:=if 0≤i then (if i < n then some i.toNat else none) else if -(n:Int)≤i then some (i + n).toNat else none
noncomputable def atI {α:Type} (xs:List α) (i:Int):Option α:=(ixN xs.length i).bind fun j=>xs[j]?
theorem ixN_seq {n:Nat} {i:Int} {j:Nat} (h:ixN n i = some j):seqIndex? i n = some j∧j < n ∧ -(n:Int)≤i∧i < n:=by
 unfold ixN at h
 by_cases h0:0≤i
 ·rw [if_pos h0] at h
  by_cases h1:i < n
  ·rw [if_pos h1] at h
   have e:i.toNat = j:=Option.some.inj h
   exact ⟨by rw [seqIndex_of h0 h1,e],by lia,by lia,h1⟩
  ·rw [if_neg h1] at h; cases h
 ·rw [if_neg h0] at h
  by_cases h1 : -(n:Int)≤i
  ·rw [if_pos h1] at h
   have e:(i + n).toNat = j:=Option.some.inj h
   exact ⟨by rw [seqIndex_neg (by lia) h1,e],by lia,h1,by lia⟩
  ·rw [if_neg h1] at h; cases h
theorem atI_get {α:Type} {xs:List α} {i:Int} {v:α} (h:atI xs i = some v):∃ j,seqIndex? i xs.length = some j∧xs[j]? = some v∧j < xs.length ∧ -(xs.length:Int)≤i∧i < xs.length:=by
 unfold atI at h
 cases e:ixN xs.length i with
 | none=>rw [e] at h; cases h
 | some j =>
  rw [e] at h
  obtain ⟨h1,h2,h3,h4⟩:=ixN_seq e
  exact ⟨j,h1,h,h2,h3,h4⟩
noncomputable def PlainIx (b:Expr):Prop:=∀ o i,subscripted b false o i = operate [o,i] (getItem o i)
noncomputable def IxR (X:Cx) (r:R2):Prop:=
 ∀ (value slice:Expr) (pins:List (Addr × Obj)) (s:Shared) (σ:St) (H:Hp) (x y:V) (v u:Value) (Q:VK),Inv X pins σ H s→RelV x v→RelV y u→r x y H Q →
  subscripted slice false v u = operate [v,u] (getItem v u)→wpAny (model X.prog X.w) X.A (subscriptTail value slice v u) (EP X pins σ Q) X.xe s
noncomputable def MtR (X:Cx) (id:String) (r:V→List V→Hp→VK→Prop):Prop:=
 ∀ (pins:List (Addr × Obj)) (s:Shared) (σ:St) (H:Hp) (x:V) (xs:List V) (v:Value) (us:List Value) (Q:VK),Inv X pins σ H s→RelV x v→Vals xs us→r x xs H Q →
  wpAny (model X.prog X.w) X.A (call (.builtin id) (v :: us)) (EP X pins σ Q) X.xe s
section
variable {X:Cx} {a b:Expr} {ta tb:TE} {pos:Pos}
theorem IxR.or {r r':R2} (h:IxR X r) (h':IxR X r'):IxR X (fun x y H Q=>r x y H Q∨r' x y H Q):=by
 intro value slice pins s σ H x y v u Q I rx ry q hs
 rcases q with q | q
 ·exact h value slice pins s σ H x y v u Q I rx ry q hs
 ·exact h' value slice pins s σ H x y v u Q I rx ry q hs
theorem pe_ix {r:R2} (hr:IxR X r) (ha:PE X a ta) (hb:PE X b tb) (hs:PlainIx b):PE X (.Subscript a b pos) (tOp r ta tb):=by
 intro pins s σ H Q I h
 exact Subscript_ (binT ha hb I h fun v u s2 x y H2 I2 rx ry q=>hr a b pins s2 σ H2 x y v u Q I2 rx ry q (hs _ _))
noncomputable def rIxL (K:PySem.W.Frag):R2:=fun x y H Q=>∃ p xs i v,x = .ref p∧y = .int i∧SqL K H p xs∧atI xs i = some v∧Q v H
noncomputable def rIxT (K:PySem.W.Frag):R2:=fun x y H Q=>∃ p xs i v,x = .ref p∧y = .int i∧SqT K H p xs∧atI xs i = some v∧Q v H
noncomputable def rIxS:R2:=fun x y H Q=>∃ z i c,x = .str z∧y = .int i∧z.length≤sizeLine∧atI z.cps.toList i = some c∧Q (.str ⟨#[c]⟩) H
theorem ix_list:IxR X (rIxL X.K):=by
 intro value slice pins s σ H x y v u Q I rx ry h hs
 obtain ⟨p,xs,i,z,rfl,rfl,hq,he,q⟩:=h
 cases rx
 obtain ⟨t,rfl⟩:=ry
 obtain ⟨its,r,pl,hz⟩:=I.list hq
 obtain ⟨j,h1,h2,h3,h4,h5⟩:=atI_get he
 obtain ⟨w,ew,rw'⟩:=r.get h2
 have hl:=r.length
 have hn:=line63
 have fin:EP X pins σ Q w s:=⟨z,H,I,rw',q⟩
 by_cases h0:0≤i
 ·have hj:i.toNat = j:=by
   rw [seqIndex_of h0 h5] at h1
   exact Option.some.inj h1
  exact item_listR pl.isList h0 (by lia) (by rw [hj]; simpa using ew) fin hs
 ·have hj:(i + (its.toArray.size:Int)).toNat = j:=by
   rw [seqIndex_neg (by lia) h4] at h1
   rw [List.size_toArray,← hl]
   exact Option.some.inj h1
  exact subscriptTail_builtinR (x:=w) pl.isList.typeIs slot_list_getitem.lookup
   (wpAny_getItem_list_neg (Q:=fun r s'=>r = w∧EP X pins σ Q r s') pl.isList (by lia) (by rw [List.size_toArray] <;> lia) (by lia) (by rw [hj]; simpa using ew) ⟨rfl,fin⟩) hs
theorem ix_tup:IxR X (rIxT X.K):=by
 intro value slice pins s σ H x y v u Q I rx ry h hs
 obtain ⟨p,xs,i,z,rfl,rfl,hq,he,q⟩:=h
 cases rx
 obtain ⟨t,rfl⟩:=ry
 obtain ⟨its,r,pl,hz⟩:=I.tuple hq
 obtain ⟨j,h1,h2,h3,h4,h5⟩:=atI_get he
 obtain ⟨w,ew,rw'⟩:=r.get h2
 have hl:=r.length
 have hn:=line63
 have fin:EP X pins σ Q w s:=⟨z,H,I,rw',q⟩
 exact subscriptTail_builtinR (x:=w) pl.typeIs slot_tuple_getitem.lookup
  (getItem_tuple (j:=j) (Q:=fun r s'=>r = w∧EP X pins σ Q r s') pl (by lia) (by lia) (by rw [List.size_toArray,← hl]; exact h1) (by simpa using ew) ⟨rfl,fin⟩) hs
theorem ix_str:IxR X rIxS:=by
 intro value slice pins s σ H x y v u Q I rx ry h hs
 obtain ⟨z,i,c,rfl,rfl,hz,he,q⟩:=h
 obtain ⟨t,rfl⟩:=rx
 obtain ⟨t',rfl⟩:=ry
 obtain ⟨j,h1,h2,h3,h4,h5⟩:=atI_get he
 have hl:z.cps.toList.length = z.length:=by simp [Str.length]
 rw [hl] at h1 h4 h5
 have hn:=line63
 exact tail_any (typeIs_str s z t) slot_str_getitem.lookup (getItem_str (c:=c) (by
  have e1:decide (i < -(2 ^ 63:Int)) = false:=decide_eq_false (by lia)
  have e2:decide (i ≥ 2 ^ 63) = false:=decide_eq_false (by lia)
  rw [e1,e2,Bool.or_false]) (by rw [h1]; simpa using h2) ⟨.str ⟨#[c]⟩,H,I.tok _,⟨_,rfl⟩,q⟩) hs
noncomputable def rIx (K:PySem.W.Frag):R2:=fun x y H Q=>rIxL K x y H Q∨rIxT K x y H Q∨rIxS x y H Q
theorem ix_seq:IxR X (rIx X.K):=ix_list.or (ix_tup.or ix_str)
theorem mapSeq_set (its:List Value) (n j:Nat) (u:Value):Obj.mapSeq (·.setIfInBounds j u) { cls:=.type "list",data:=.seq its.toArray n } = { cls:=.type "list",data:=.seq (its.set j u).toArray n }:=by
 simp [Obj.mapSeq]
theorem Inv.lst {pins:List (Addr × Obj)} {σ:St} {H:Hp} {s:Shared} {p:Addr} {xs:List V} (I:Inv X pins σ H s) (h:H p = some (.lst xs)) :
  ∃ (its:List Value) (n:Nat),Vals xs its∧s.heap.get? p = some { cls:=.type "list",data:=.seq its.toArray n }∧xs.length≤sizeLine:=by
 obtain ⟨z,its,n,r,e⟩:=I.hok p _ h
 exact ⟨its,n,r,e,z⟩
theorem Inv.lstUpd {pins:List (Addr × Obj)} {σ:St} {H:Hp} {s:Shared} {p:Addr} {xs ys:List V} {its its':List Value} {n n':Nat} {f:Obj→Obj} (I:Inv X pins σ H s) (h:H p = some (.lst xs))
  (ho:s.heap.get? p = some { cls:=.type "list",data:=.seq its.toArray n }) (hf:f { cls:=.type "list",data:=.seq its.toArray n } = { cls:=.type "list",data:=.seq its'.toArray n' }) (r:Vals ys its') (hz:ys.length≤sizeLine) (t:Nat) :
  Inv X pins σ (upd H p (.lst ys)) { s with heap:=s.heap.update p f,toks:=t }:=by
 have e:(s.heap.update p f).get? p = some { cls:=.type "list",data:=.seq its'.toArray n' }:=by
  rw [Heap.get?_update_self f ho (by rw [hf] <;> rfl),hf]
 refine I.write (x:=p) (e:=p) (by rw [h]; trivial) (.inl rfl) (fun b u hb q=>(Heap.get?_update_other _ _ (Ne.symm hb)).trans q) ⟨_,e⟩ ?_
 exact ⟨hz,its',n',r,e⟩
noncomputable def rSetL:V→V→V→Hp→(Hp→Prop)→Prop:=fun o i v H Q=>∃ p xs k j,o = .ref p∧i = .int k∧H p = some (.lst xs)∧ixN xs.length k = some j∧Q (upd H p (.lst (xs.set j v)))
theorem set_list:PSet X rSetL:=by
 intro pins s σ H o i v ov iv u Q I ro ri rv h
 obtain ⟨p,xs,k,j,rfl,rfl,hp,hj,q⟩:=h
 cases ro
 obtain ⟨t,rfl⟩:=ri
 obtain ⟨its,n,r,ho,hz⟩:=I.lst hp
 obtain ⟨h1,h2,h3,h4⟩:=ixN_seq hj
 have hl:=r.length
 have hn:=line63
 have I':Inv X pins σ (upd H p (.lst (xs.set j v))) { s with heap:=s.heap.update p (Obj.mapSeq (·.setIfInBounds j u)) }:=
  I.lstUpd hp ho (mapSeq_set its n j u) (r.set rv j) (by rw [List.length_set]; exact hz) s.toks
 by_cases h0:0≤k
 ·have hk:k.toNat = j:=by
   rw [seqIndex_of h0 h4] at h1
   exact Option.some.inj h1
  exact PySem.W.ki_setAt ho h0 (by lia) (by rw [List.size_toArray,← hl]; exact h4) (by rw [hk]; exact ⟨_,I',q⟩)
 ·have hk:(k + (its.toArray.size:Int)).toNat = j:=by
   rw [seqIndex_neg (by lia) h3] at h1
   rw [List.size_toArray,← hl]
   exact Option.some.inj h1
  exact PySem.W.ki_setBack ho (by lia) (by rw [List.size_toArray,← hl]; exact h3) (by lia) (by rw [hk]; exact ⟨_,I',q⟩)
theorem slice_bounds (lo hi:Option Int) (n:Nat):(sliceBounds lo hi none n).1 = ((HT.sIx n 0 lo:Nat):Int)∧(sliceBounds lo hi none n).2.1 = ((HT.sIx n n hi:Nat):Int)∧(sliceBounds lo hi none n).2.2 = 1:=by
 refine ⟨?_,?_,rfl⟩
 ·cases lo with
  | none=>simp [sliceBounds,HT.sIx]
  | some i =>
   simp only [sliceBounds,HT.sIx,Option.getD_none,show (1:Int) > 0 by decide,if_true]
   by_cases h:i < 0
   ·simp only [h,if_true] <;> lia
   ·simp only [h,if_false] <;> lia
 ·cases hi with
  | none=>simp [sliceBounds,HT.sIx]
  | some i =>
   simp only [sliceBounds,HT.sIx,Option.getD_none,show (1:Int) > 0 by decide,if_true]
   by_cases h:i < 0
   ·simp only [h,if_true] <;> lia
   ·simp only [h,if_false] <;> lia
theorem slicePick_cut (its:List Value) (lo hi:Option Int):slicePick its.toArray lo hi none = ((its.drop (HT.sIx its.length 0 lo)).take (HT.sIx its.length its.length hi - HT.sIx its.length 0 lo)).toArray:=by
 obtain ⟨h1,h2,h3⟩:=slice_bounds lo hi its.toArray.size
 unfold slicePick
 rw [h1,h2,h3]
 simp only [sliceRange_one,pick_run,List.size_toArray] <;> rfl
noncomputable def rSlL (K:PySem.W.Frag):V→Option Int→Option Int→Hp→VK→Prop:=fun x lo hi H Q=>∃ a xs,x = .ref a∧SqL K H a xs∧∀ p,H p = none→Q (.ref p) (upd H p (.lst (cutV xs lo hi)))
theorem sl_list:SlR X (rSlL X.K):=by
 intro pins s σ H x v vl vu lo hi sl Q I rx hs pl pu h
 obtain ⟨a,xs,rfl,hx,q⟩:=h
 cases rx
 obtain ⟨its,r,ht,hz⟩:=I.list hx
 have hlen:=r.length
 refine ⟨"list",_,slot_list_getitem.lookup,ht.isList.typeIs,?_⟩
 refine wpAny_getItem_list_slice ht.isList hs pl pu .none (by simp) ?_ (by rw [List.size_toArray] <;> lia)
 rw [slicePick_cut,← hlen]
 refine ⟨.ref s.heap.objs.size,_,I.laid (t':=s.toks) (o:=.lst (cutV xs lo hi)) (fun b ob q=>Heap.get?_push_of_some _ q) (Nat.le_refl _) ?_,rfl,q _ (I.hok.fresh (Nat.le_refl _))⟩
 exact ⟨Nat.le_trans (cutV_length xs lo hi) hz,_,0,(r.drop (HT.sIx xs.length 0 lo)).take (HT.sIx xs.length xs.length hi - HT.sIx xs.length 0 lo),Heap.get?_push_size _ rfl⟩
noncomputable def flatV:V→Bool
 | .non=>true
 | .bl _=>true
 | .int _=>true
 | .str _=>true
 | _=>false
noncomputable def eqV:V→V→Bool
 | .non,.non=>true
 | .bl a,.bl b=>a == b
 | .bl a,.int b=>(if a then 1 else 0) == b
 | .int a,.bl b=>a == (if b then 1 else 0)
 | .int a,.int b=>a == b
 | .str a,.str b=>a == b
 | _,_=>false
theorem eqAt_V {A:Around} {s:Shared} {y x:V} {u v:Value} (ry:RelV y u) (rx:RelV x v) (fy:flatV y = true) (fx:flatV x = true):SeqAt.EqAt A s u v (eqV y x):=by
 cases y with
 | non =>
  cases ry
  cases x with
  | non=>cases rx; exact SeqAt.EqAt.same _
  | bl b=>cases rx; exact SeqAt.EqAt.none_bool b
  | int b=>obtain ⟨t,rfl⟩:=rx; exact SeqAt.EqAt.none_int b t
  | str b=>obtain ⟨t,rfl⟩:=rx; exact SeqAt.EqAt.none_str b t
  | _=>exact absurd (show false = true from fx) Bool.false_ne_true
 | bl a =>
  cases ry
  cases x with
  | non=>cases rx; exact SeqAt.EqAt.bool_none a
  | bl b=>cases rx; exact SeqAt.EqAt.bool_bool a b
  | int b=>obtain ⟨t,rfl⟩:=rx; exact SeqAt.EqAt.bool_int a b t
  | str b=>obtain ⟨t,rfl⟩:=rx; exact SeqAt.EqAt.bool_str a b t
  | _=>exact absurd (show false = true from fx) Bool.false_ne_true
 | int a =>
  obtain ⟨t',rfl⟩:=ry
  cases x with
  | non=>cases rx; exact SeqAt.EqAt.int_none a t'
  | bl b=>cases rx; exact SeqAt.EqAt.int_bool a t' b
  | int b=>obtain ⟨t,rfl⟩:=rx; exact SeqAt.EqAt.int_int a t' b t
  | str b=>obtain ⟨t,rfl⟩:=rx; exact SeqAt.EqAt.int_str a t' b t
  | _=>exact absurd (show false = true from fx) Bool.false_ne_true
 | str a =>
  obtain ⟨t',rfl⟩:=ry
  cases x with
  | non=>cases rx; exact SeqAt.EqAt.str_none a t'
  | bl b=>cases rx; exact SeqAt.EqAt.str_bool a t' b
  | int b=>obtain ⟨t,rfl⟩:=rx; exact SeqAt.EqAt.str_int a t' b t
  | str b=>obtain ⟨t,rfl⟩:=rx; exact SeqAt.EqAt.str_str a t' b t
  | _=>exact absurd (show false = true from fx) Bool.false_ne_true
 | _=>exact absurd (show false = true from fy) Bool.false_ne_true
noncomputable def eqU (x:V) (u:Value):Bool:=match u with
 | .none=>eqV .non x
 | .bool b=>eqV (.bl b) x
 | .int i _=>eqV (.int i) x
 | .str z _=>eqV (.str z) x
 | _=>false
theorem eqU_of {x y:V} {u:Value} (r:RelV y u) (f:flatV y = true):eqU x u = eqV y x:=by
 cases y with
 | non=>cases r; rfl
 | bl b=>cases r; rfl
 | int i=>obtain ⟨t,rfl⟩:=r; rfl
 | str z=>obtain ⟨t,rfl⟩:=r; rfl
 | _=>exact absurd (show false = true from f) Bool.false_ne_true
theorem any_eqU {x:V} {xs:List V} {us:List Value} (h:Vals xs us):xs.all flatV = true→us.any (eqU x) = xs.any fun y=>eqV y x:=by
 induction h with
 | nil=>exact fun _=>rfl
 | cons r t ih =>
  intro f
  rw [List.all_cons,Bool.and_eq_true] at f
  rw [List.any_cons,List.any_cons,eqU_of r f.1,ih f.2]
theorem mem_eqAt {A:Around} {s:Shared} {x:V} {v:Value} (rx:RelV x v) (fx:flatV x = true):∀ {xs:List V} {us:List Value},Vals xs us→xs.all flatV = true→∀ u∈us,SeqAt.EqAt A s u v (eqU x u)
 | _,_,.nil,_=>fun u hu=>by cases hu
 | y :: xs,u :: us,.cons r t,f=>fun u' hu=>by
  rw [List.all_cons,Bool.and_eq_true] at f
  rcases List.mem_cons.mp hu with rfl | hu
  ·rw [eqU_of r f.1]; exact eqAt_V r rx f.1 fx
  ·exact mem_eqAt rx fx t f.2 u' hu
noncomputable def inV (x:V) (xs:List V):Bool:=xs.any fun y=>eqV y x
noncomputable def rIn (K:PySem.W.Frag) (neg:Bool):R2:=fun x y H Q=>∃ p xs,y = .ref p∧(SqL K H p xs∨SqT K H p xs)∧flatV x = true∧xs.all flatV = true∧Q (.bl (if neg then !inV x xs else inV x xs)) H
theorem op_in_seq:OpR X (compareOp .In) (rIn X.K false):=by
 intro pins s σ H x y v u Q I rx ry h
 obtain ⟨p,xs,rfl,hq,fx,fs,q⟩:=h
 cases ry
 rcases hq with hq | hq
 ·obtain ⟨its,r,pl,hz⟩:=I.list hq
  refine SeqAt.in_listAt (eqU x) pl.isList (fun w hw=>mem_eqAt rx fx r fs w (by simpa using hw)) ⟨.bl _,H,I,rfl,?_⟩
  rw [show its.toArray.any (eqU x) = its.any (eqU x) by simp,any_eqU r fs]
  exact q
 ·obtain ⟨its,r,pl,hz⟩:=I.tuple hq
  refine SeqAt.in_tupleAt (eqU x) pl (fun w hw=>mem_eqAt rx fx r fs w (by simpa using hw)) ⟨.bl _,H,I,rfl,?_⟩
  rw [show its.toArray.any (eqU x) = its.any (eqU x) by simp,any_eqU r fs]
  exact q
theorem call_len_seq:CallR X (.builtin "len") (fun xs H Q=>∃ p ys,xs = [.ref p]∧(SqL X.K H p ys∨SqT X.K H p ys)∧Q (.int ys.length) H):=by
 intro pins s σ H xs us Q I r h
 obtain ⟨p,ys,rfl,hq,q⟩:=h
 obtain ⟨u,rfl,rx⟩:=vals1 r
 cases rx
 have hn:=line63
 rcases hq with hq | hq
 ·obtain ⟨its,r',pl,hz⟩:=I.list hq
  have hlen:=r'.length
  exact Calls.call_len_list pl.isList (by simp only [List.size_toArray] <;> lia) ⟨.int ys.length,H,I.tok _,⟨s.toks + 1,by rw [List.size_toArray,hlen]⟩,q⟩
 ·obtain ⟨its,r',pl,hz⟩:=I.tuple hq
  have hlen:=r'.length
  exact len_tuple pl (by simp only [List.size_toArray] <;> lia) ⟨.int ys.length,H,I.tok _,⟨s.toks + 1,by rw [List.size_toArray,hlen]⟩,q⟩
theorem call_len_str:CallR X (.builtin "len") (fun xs H Q=>∃ z,xs = [.str z]∧z.length≤sizeLine∧Q (.int z.length) H):=by
 intro pins s σ H xs us Q I r h
 obtain ⟨z,rfl,hz,q⟩:=h
 obtain ⟨u,rfl,t,rfl⟩:=vals1 r
 have hn:=line63
 exact len_str (by lia) ⟨.int z.length,H,I.tok _,⟨_,rfl⟩,q⟩
theorem CallR.or {f:Value} {r r':List V→Hp→VK→Prop} (h:CallR X f r) (h':CallR X f r'):CallR X f (fun xs H Q=>r xs H Q∨r' xs H Q):=by
 intro pins s σ H xs us Q I rs q
 rcases q with q | q
 ·exact h pins s σ H xs us Q I rs q
 ·exact h' pins s σ H xs us Q I rs q
theorem call_list_of:CallR X (.type "list") (fun xs H Q=>∃ p ys,xs = [.ref p]∧(SqL X.K H p ys∨SqT X.K H p ys)∧∀ l,H l = none→Q (.ref l) (upd H l (.lst ys))):=by
 intro pins s σ H xs us Q I r h
 obtain ⟨p,ys,rfl,hq,q⟩:=h
 obtain ⟨u,rfl,rx⟩:=vals1 r
 cases rx
 have fin:∀ (its:List Value),Vals ys its→ys.length≤sizeLine→∀ (h':Heap) (c':Nat),(∀ b o',s.heap.get? b = some o'→h'.get? b = some o') →
   h'.get? s.heap.objs.size = some { cls:=.type "list",dict:=none,data:=.seq its.toArray c',slots:=#[] }→EP X pins σ Q (.ref s.heap.objs.size) { s with heap:=h' }:=fun its r' hz h' c' kp e =>
  ⟨.ref s.heap.objs.size,_,I.laid (t':=s.toks) kp (Nat.le_refl _) (show ObjOk X.prog X.w _ h' _ (.lst ys) from ⟨hz,its,c',r',e⟩),rfl,q _ (I.hok.fresh (Nat.le_refl _))⟩
 rcases hq with hq | hq
 ·obtain ⟨its,r',pl,hz⟩:=I.list hq
  have hlen:=r'.length
  obtain ⟨o,ho,hc,n,hd⟩:=pl.isList
  exact call_list_seq p (.inl rfl) ho hc hd (fun h' c' kp e=>fin its r' hz h' c' kp e) (by simp only [List.size_toArray] <;> lia)
 ·obtain ⟨its,r',pl,hz⟩:=I.tuple hq
  have hlen:=r'.length
  obtain ⟨o,ho,hc,n,hd⟩:=pl
  exact call_list_seq p (.inr rfl) ho hc hd (fun h' c' kp e=>fin its r' hz h' c' kp e) (by simp only [List.size_toArray] <;> lia)
noncomputable def tyV (K:PySem.W.Frag) (T:String) (x:V) (H:Hp):Prop:=match x with
 | .str _=>T = "str"
 | .int _=>T = "int"
 | .ref p=>(T = "list" ∧ ∃ xs,SqL K H p xs)∨(T = "tuple" ∧ ∃ o,K.lookup p = some o∧o.cls = .type "tuple" ∧ o.dict = none) ∨
   (T = "dict" ∧ ((∃ kvs,H p = some (.dK kvs))∨∃ kvs,H p = some (.dT kvs)))∨(T = "set" ∧ ∃ S n,H p = some (.set S n))
 | _=>False
theorem tyV_is {pins:List (Addr × Obj)} {σ:St} {H:Hp} {s:Shared} {T:String} {x:V} {v:Value} (I:Inv X pins σ H s) (r:RelV x v) (ty:tyV X.K T x H) :
  s.TypeIs v T∧∀ a,v = .ref a→∃ ob,s.heap.get? a = some ob∧ob.dict = none:=by
 cases x with
 | str z =>
  obtain ⟨t,rfl⟩:=r
  cases (show T = "str" from ty)
  exact ⟨typeIs_str s z t,fun _ e=>nomatch e⟩
 | int i =>
  obtain ⟨t,rfl⟩:=r
  cases (show T = "int" from ty)
  exact ⟨typeIs_int s i t,fun _ e=>nomatch e⟩
 | ref p =>
  cases r
  rcases ty with ⟨rfl,xs,hq⟩ | ⟨rfl,o,hk,hc,hd⟩ | ⟨rfl,hk⟩ | ⟨rfl,S,n,hk⟩
  ·obtain ⟨its,_,pl,_⟩:=I.list hq
   refine ⟨pl.isList.typeIs,fun a e=>?_⟩
   cases e
   obtain ⟨o,n,e,c,hd,_⟩:=pl
   exact ⟨o,e,hd⟩
  ·refine ⟨⟨o,I.kIn p o hk,hc⟩,fun a e=>?_⟩
   cases e
   exact ⟨o,I.kIn _ o hk,hd⟩
  ·have z:∃ o,s.heap.get? p = some o∧o.ExactDict:=by
    rcases hk with ⟨kvs,hk⟩ | ⟨kvs,hk⟩
    ·obtain ⟨_,_,_,_,o,_,_,e,ex,_⟩:=I.hok p _ hk
     exact ⟨o,e,ex⟩
    ·obtain ⟨_,_,_,_,o,_,_,e,ex,_⟩:=I.hok p _ hk
     exact ⟨o,e,ex⟩
   obtain ⟨o,e,ex⟩:=z
   refine ⟨⟨o,e,ex.1⟩,fun a e2=>?_⟩
   cases e2
   exact ⟨o,e,ex.2.1⟩
  ·obtain ⟨o,_,_,_,e,ex,_⟩:=I.hok p _ hk
   refine ⟨⟨o,e,ex.1⟩,fun a e2=>?_⟩
   cases e2
   exact ⟨o,e,ex.2.1⟩
 | _=>exact False.elim ty
noncomputable def tBM (K:PySem.W.Frag) (T:String) (r:V→List V→Hp→VK→Prop) (to:TE) (t:TA):TE:=fun σ H Q=>to σ H fun x H1=>tyV K T x H1∧t σ H1 fun xs H2=>r x xs H2 Q
variable {o e:Expr} {es:List Expr} {to:TE} {t:TA} {name:Str} {apos cpos:Pos} {T id:String} {r:V→List V→Hp→VK→Prop}
theorem pe_bm (pa:PlainAttrs T) (slot:Slot T name id) (hty:typeOf (.builtin id) = pure (.type "method_descriptor")) (hm:MtR X id r) (ho:PE X o to) (ha:PA X (e :: es) t)
  (hbase:attributeBase o name X.env (eval o X.env) = eval o X.env:=by rfl)
  (hfew:((backTo cpos (starEach (e :: es) X.env)).all (fun x=>!x.1) && (backToKw cpos (keywordEach [] X.env)).all (fun x=>x.1.isSome)
   && decide ((e :: es).length + ([]:List Keyword).length + (if ([]:List Keyword).isEmpty then 0 else 1) < 30)) = true:=by rfl)
  (hline:(apos.endLine == cpos.line) = true:=by rfl) (hs:starEach (e :: es) X.env = (false,eval e X.env) :: starEach es X.env:=by rfl) (hplain:(backTo cpos (starEach es X.env)).any (·.1) = false:=by rfl) :
  PE X (.Call (.Attribute o name apos) (e :: es) [] cpos) (tBM X.K T r to t):=by
 intro pins s σ H Q I h
 refine wpAny_Call_method_late hbase hfew hline rfl (thn (ho pins s σ H _ I h) fun v s1 yy=>?_)
 obtain ⟨x,H1,I1,r1,ty,q1⟩:=yy
 obtain ⟨h1,h2⟩:=tyV_is I1 r1 ty
 refine ⟨T,id,pa,slot,hty,h1,h2,?_⟩
 have hA:=ha cpos pins s1 σ H1 _ I1 q1
 rw [hs] at hA ⊢
 refine Calls.callWith_builtin (by show (false || (backTo cpos (starEach es X.env)).any (·.1)) = false; rw [hplain] <;> rfl) (Calls.evalArgs_plain ?_)
 exact thn hA fun us s2 ⟨vs,H2,I2,r2,q2⟩=>hm pins s2 σ H2 x vs v us Q I2 r1 r2 q2
/- xs.append(e),list.index on a module's tuple .. are MtR facts of 06m -/
end
end L2
namespace L2
open PySem PySem.Spec PyProof.Rows
noncomputable def MtM (X:Cx) (id:String) (r:V→List V→Hp→VK→Prop):Prop:=
 ∀ (pins:List (Addr × Obj)) (s:Shared) (σ:St) (H:Hp) (x:V) (xs:List V) (v:Value) (us:List Value) (Q:VK),Inv X pins σ H s→RelV x v→Vals xs us→r x xs H Q →
  wpAny (model X.prog X.w) X.A (call (.builtin id) (v :: us)) (EP X pins σ Q) X.xe s
theorem Vals.one {x:V} {us:List Value} (h:Vals [x] us):∃ u,us = [u]∧RelV x u:=by
 cases h with
 | cons r t=>cases t; exact ⟨_,rfl,r⟩
theorem Vals.two {x y:V} {us:List Value} (h:Vals [x,y] us):∃ u v,us = [u,v]∧RelV x u∧RelV y v:=by
 cases h with
 | cons r t =>
  obtain ⟨v,rfl,q⟩:=Vals.one t
  exact ⟨_,_,rfl,r,q⟩
section
variable {X:Cx} {pins:List (Addr × Obj)} {σ:St} {H:Hp} {s:Shared} {l b:Addr} {xs ys zs:List V}
theorem Inv.lset {its its':List Value} {n:Nat} {f:Array Value→Array Value} {t':Nat} (I:Inv X pins σ H s) (hH:H l = some (.lst xs))
  (e:s.heap.get? l = some { cls:=.type "list",data:=.seq its.toArray n }) (hf:f its.toArray = its'.toArray) (hv:Vals ys its') (hz:ys.length≤sizeLine) :
  Inv X pins σ (upd H l (.lst ys)) { s with heap:=s.heap.update l (Obj.mapSeq f),toks:=t' }:=by
 have q:=PySem.IsL.update e f
 rw [hf] at q
 refine I.write (x:=l) (e:=l) (by rw [hH]; exact trivial) (.inl rfl) (fun b' u hb hu=>(Heap.get?_update_other s.heap (Obj.mapSeq f) (Ne.symm hb)).trans hu) ⟨_,q⟩ ?_
 exact ⟨hz,its',_,hv,q⟩
theorem Inv.lnew {its:List Value} {t':Nat} (I:Inv X pins σ H s) (hv:Vals ys its) (hz:ys.length≤sizeLine) :
  Inv X pins σ (upd H s.heap.objs.size (.lst ys)) { s with heap:=s.heap.push { cls:=.type "list",data:=.seq its.toArray },toks:=t' }:=
 I.laid (fun _ _ q=>Heap.get?_push_of_some _ q) (Nat.le_refl _) ⟨hz,its,0,hv,Heap.get?_push_size _ rfl⟩
theorem Inv.fresh (I:Inv X pins σ H s):H s.heap.objs.size = none:=I.hok.fresh (Nat.le_refl _)
theorem Inv.lstM (I:Inv X pins σ H s) (hH:H l = some (.lst xs)):xs.length≤sizeLine∧∃ (its:List Value) (n:Nat),Vals xs its∧xs.length = its.length∧s.heap.get? l = some { cls:=.type "list",data:=.seq its.toArray n }:=by
 obtain ⟨z,its,n,r,e⟩:=I.hok l _ hH
 exact ⟨z,its,n,r,r.length,e⟩
theorem notLongL {n:Nat} (h:n≤sizeLine):Builtin.List.listTooLong n = false:=by
 unfold Builtin.List.listTooLong
 exact decide_eq_false (by lia)
end
section
variable {X:Cx}
noncomputable def rAppend:V→List V→Hp→VK→Prop:=fun x vs H Q=>∃ l xs y,x = .ref l∧vs = [y]∧H l = some (.lst xs)∧xs.length < sizeLine∧Q .non (upd H l (.lst (xs ++ [y])))
theorem mt_append:MtM X "list.append" rAppend:=by
 intro pins s σ H x vs v us Q I rx rv h
 obtain ⟨l,xs,y,rfl,rfl,hH,hz,q⟩:=h
 cases rx
 obtain ⟨u,rfl,ru⟩:=rv.one
 obtain ⟨z,its,n,r,hl,e⟩:=I.lstM hH
 refine call_meets F.slot_list_append ⟨_,e,rfl⟩ F.entry_list_append (F.args_list_append_2 _ _) (PySem.list_append l its.toArray n u (by rw [List.size_toArray]; lia)) ⟨e,?_⟩
 refine ⟨.non,_,I.lset (its':=its ++ [u]) hH e (by simp) (r.append (.cons ru .nil)) ?_,rfl,q⟩
 rw [List.length_append,List.length_singleton]
 lia
noncomputable def rExtend:V→List V→Hp→VK→Prop:=fun x vs H Q=>∃ l b xs zs,x = .ref l∧vs = [.ref b]∧H l = some (.lst xs)∧H b = some (.lst zs)∧xs.length + zs.length≤sizeLine∧Q .non (upd H l (.lst (xs ++ zs)))
theorem mt_extend:MtM X "list.extend" rExtend:=by
 intro pins s σ H x vs v us Q I rx rv h
 obtain ⟨l,b,xs,zs,rfl,rfl,hH,hB,hz,q⟩:=h
 cases rx
 obtain ⟨u,rfl,ru⟩:=rv.one
 cases ru
 obtain ⟨z,its,n,r,hl,e⟩:=I.lstM hH
 obtain ⟨z2,its2,n2,r2,hl2,e2⟩:=I.lstM hB
 have hsz:its.toArray.size + its2.toArray.size≤sizeLine:=by rw [List.size_toArray,List.size_toArray]; lia
 have hlong:¬ (!its.toArray.isEmpty && Builtin.List.listTooLong (its.toArray.size + its2.toArray.size)) = true:=by
  rw [notLongL hsz,Bool.and_false]
  exact Bool.false_ne_true
 refine call_meets F.slot_list_extend ⟨_,e,rfl⟩ F.entry_list_extend (F.args_list_extend_2 _ _)
  (AutoSeq1.list_extend_list_list_0 l its.toArray n b its2.toArray n2 hlong (by rw [List.size_toArray]; lia) (by lia)) ⟨e,e2,?_⟩
 refine ⟨.non,_,I.lset (its':=its ++ its2) hH e (by simp) (r.append r2) ?_,rfl,q⟩
 rw [List.length_append]
 lia
noncomputable def rCat:R2:=fun x y H Q=>∃ l b xs zs,x = .ref l∧y = .ref b∧H l = some (.lst xs)∧H b = some (.lst zs)∧xs.length + zs.length≤sizeLine∧∀ p,H p = none→Q (.ref p) (upd H p (.lst (xs ++ zs)))
theorem op_cat:OpR X (binaryOp .Add) rCat:=by
 intro pins s σ H x y v u Q I rx ry h
 obtain ⟨l,b,xs,zs,rfl,rfl,hH,hB,hz,q⟩:=h
 cases rx
 cases ry
 obtain ⟨z,its,n,r,hl,e⟩:=I.lstM hH
 obtain ⟨z2,its2,n2,r2,hl2,e2⟩:=I.lstM hB
 refine PySem.P.add_list e e2 ?_ (by rw [List.size_toArray,List.size_toArray]; lia)
 have ea:its.toArray ++ its2.toArray = (its ++ its2).toArray:=by simp
 rw [ea]
 exact ⟨.ref _,_,I.lnew (t':=s.toks) (r.append r2) (by rw [List.length_append]; lia),rfl,q _ I.fresh⟩
end
section
variable {prog:Program} {w:World} {A:Around} {E:Value→Shared→Prop} {s:Shared}
set_option maxRecDepth 100000 in
end
section
variable {X:Cx}
end
end L2
namespace Att
open PySem PySem.W PySem.Calls PyProof.Rows
theorem ints_of_wellAll {P:Params} {h:Heap}:∀ (ns:List Int) (vs:List Value),WellAll P h vs (ns.map WData.int)→IntsAre vs ns:=by
 intro ns
 induction ns with
 | nil =>
  intro vs w
  rw [List.map_nil] at w
  cases w
  exact .nil
 | cons n ns ih =>
  intro vs w
  rw [List.map_cons] at w
  cases w with
  | cons a b =>
   cases a
   exact .cons _ _ (ih _ b)
theorem script_of {l:OpenLaw} {n:Nat} (hn:l.most = some n) {P:Params} {h:Heap} {args:List WData} {vals:List Value}
  (hpre:l.row.toRowW.claim.pre args = true) (hwl:WellAll P h vals args) :
  ∃ a vs ns,vals = [Value.ref a]∧args = [WData.list (ns.map WData.int)]∧h.get? a = some { cls:=.type "list",data:=.seq vs.toArray }∧IntsAre vs ns∧ns.length≤n:=by
 have hsh:WShape.hasAll [] args [.list .int] = true:=(pre_splitW hpre).1
 have hc:l.pre.holds [] { args:=args } = true:=(pre_splitW hpre).2
 obtain ⟨d,r,rfl,h1,h2⟩:=hasAllW_cons hsh
 obtain rfl:=hasAllW_nil h2
 obtain ⟨xs,rfl,h3⟩:=hasW_list h1
 obtain ⟨ns,rfl⟩:=items_int h3
 have hlen:ns.length≤n:=by
  unfold OpenLaw.pre at hc
  have h4:(WTm.not (.lt (.lit (.int (n:Int))) (.len (.arg 0)))).holds [] { args:=[.list (ns.map .int)] } = true:=by
   have h4:=(holds_andW hc).1
   rw [hn] at h4
   exact h4
  have h5:=condW_of h4 (w_not (w_lt w_lit (w_len_list (w_arg rfl))))
  rw [List.length_map] at h5
  refine Nat.le_of_not_lt fun q=>?_
  have q':(n:Int) < ((ns.length:Nat):Int):=by lia
  first
   | (rw [decide_eq_true q'] at h5; exact absurd h5 (by decide))
   | (simp at h5; lia)
 cases hwl with
 | cons w1 w2 =>
  cases w2
  cases w1 with
  | list ho hall=>exact ⟨_,_,ns,rfl,rfl,ho,ints_of_wellAll ns _ hall,hlen⟩
theorem post_true (l:OpenLaw) (args:List WData):l.row.toRowW.claim.post args (.bool true) args = true:=
 postW_of (r:=l.row.toRowW) (X:=(true == true))
  (show WShape.has [] (.bool true) .bool = true by first | rfl | decide | simp [WShape.has,WShape.arms,WShape.armsAll])
  (show (WTm.eq .res (.lit (.bool true))).value [] { args:=args,res:=some (.bool true),after:=args } = some (.bool (true == true)) from w_eq_bool (w_res rfl) w_lit) rfl
theorem attach_call {l:OpenLaw} {n:Nat} {q:Program} {loose:List Str} {XP:(Str→Option Value)→Heap→Prop} {YP:World→Heap→Prop} {d:DefRec}
  (hn:l.most = some n) (hdf:d.params.defaults = [])
  (call:∀ (w:World) (s₀ s₁:Shared) (mg mb:Str→Option Value) (fa:Addr) (o:Obj) (pm cd doc:Value) (a:Addr) (vs:List Value) (ns:List Int),
   Ground q loose [] XP w s₀ mg mb s₁.heap→YP w s₁.heap →
   s₁.heap.get? fa = some o→o.data = .func (docDef d.name d.params d.body d.scope pm cd doc)→s₁.heap.CodeRec cd d.name→mg d.name = some (.ref fa) →
   s₁.heap.get? a = some { cls:=.type "list",data:=.seq vs.toArray }→IntsAre vs ns→ns.length≤n→s₁.gens = #[] →
   codeAny (model l.prog w) callerA (.call (.ref fa) ⟨[.ref a],[]⟩) (fun r s'=>r = .ok (.ret (.bool true))∧OldK s₁.heap s'.heap∧s'.os = s₁.os∧AllBare s'.gens) s₁) :
  WalkO q loose XP YP l.row.toRowW d [] (fun f vs=>PySem.call f vs):=by
 intro w s₀ s₁ mg mb G Y fa o pm cd doc dV kV ho hd hcd hD hmg hg args vals as hpre hlay hrd hwl hlo
 obtain rfl:dV = .none:=Dflts.none hD hdf
 obtain rfl:kV = .none:=Dflts.noKw hD
 obtain ⟨a,vs,ns,rfl,rfl,hobj,hints,hlen⟩:=script_of hn hpre hwl
 refine enter_call (codeAny_mono (call w s₀ s₁ mg mb fa o pm cd doc a vs ns G Y ho (fd_plain hd) hcd hmg hobj hints hlen hg) fun r s' hq=>?_)
 obtain ⟨rfl,h2,h3,h4⟩:=hq
 exact ⟨.inl ⟨.bool true,.bool true,[],rfl,fun _=>rfl,.bool true,post_true l _,fun _=>⟨List.Pairwise.nil,fun _ hm=>(nomatch hm)⟩⟩,h2,h3,h4⟩
section
variable {prog:Program} {w:World} {A:Around} {E:Value→Shared→Prop} {s:Shared} {K:Frag}
end
end Att
namespace L2
open PySem PySem.Spec PyProof.Rows
theorem vals_ints {vs:List Value} {ns:List Int} (h:IntsAre vs ns):Vals (ns.map V.int) vs:=by
 induction h with
 | nil=>exact .nil
 | cons n t h ih=>exact .cons ⟨t,rfl⟩ ih
noncomputable def Only (H:Hp):Prop:=∀ b,H b = none∨(∃ o xs,H b = some (.frz o (.lst xs)))∨∃ ps,H b = some (.tbl ps)
noncomputable def tabA (K:PySem.W.Frag) (b:Addr):Prop:=∃ c,PySem.W.tabIn K lamDef = some (c,b)
noncomputable def tabH (K:PySem.W.Frag) (H:Hp):Hp:=fun b=>by classical exact if tabA K b then some (.tbl #[.str lamQual 0]) else H b
theorem tabH_in {K:PySem.W.Frag} {H:Hp} {b:Addr} (h:tabA K b):tabH K H b = some (.tbl #[.str lamQual 0]):=if_pos h
theorem tabH_out {K:PySem.W.Frag} {H:Hp} {b:Addr} (h:¬ tabA K b):tabH K H b = H b:=if_neg h
theorem law_call {P:Program} {w:World} {K:PySem.W.Frag} {mg mb:Str→Option Value} {CX:CXT} {k:Nat} {fa a:Addr} {fd:FuncData} {x:Str} {sp:Sp} {s₁:Shared} {vs:List Value} {ns:List Int}
  (KX:K.In s₁.heap) (hns:s₁.heap.Ns mainGlobals mg) (hb:s₁.heap.Ns builtinsNs mb) (hbb:∀ x:Str,x ≠ "__name__" → mb x = bootBuiltins x) (hlim:s₁.heap.NoLimit) (hg:s₁.gens = #[])
  (ha:s₁.heap.get? a = some { cls:=.type "list",data:=.seq vs.toArray }) (hi:IntsAre vs ns) (hl:ns.length≤sizeLine) (hr:Room k callerA)
  (F:∀ base:Heap,K.In base→base.Ns mainGlobals mg→FnOk P w K mg base CX k fa fd [x] sp) (hbind:∀ (s:Shared) (u:Value),BindsTo s fd ⟨[u],[]⟩ [(x,u)])
  (hsp:∀ H:Hp,Only H→SqL K H a (ns.map V.int)→sp [.ref a] H (fun v _=>v = .bl true) fun _ _ _=>False)
  (hCX:∀ H e s',CX [] H s₁ (fun _ _ _=>False) e s'→False) (hT:∀ c b,PySem.W.tabIn K lamDef = some (c,b)→PySem.W.CodeHd s₁.heap c b∧s₁.heap.get? b = some { cls:=.none,data:=.fields #[] }∧K.lookup b = none)
  (hbm:∃ bm ob,mg "__builtins__" = some (.ref bm)∧bm≠builtinsNs∧s₁.heap.get? bm = some ob∧ob.cls = .type "module" ∧ ob.dict = some builtinsNs∧ob.data = .plain) :
  codeAny (model P w) callerA (.call (.ref fa) ⟨[.ref a],[]⟩) (fun r s'=>r = .ok (.ret (.bool true))∧OldK s₁.heap s'.heap∧s'.os = s₁.os∧AllBare s'.gens) s₁:=by
 have rv:=vals_ints hi
 have lenV:=hi.length
 have naT:¬ tabA K a:=fun ⟨c,e⟩=>by
  obtain ⟨_,e2,_⟩:=hT c a e
  rw [ha] at e2; cases e2
 have core:∀ H₁:Hp,(∀ b,H₁ b = none∨∃ o xs,H₁ b = some (.frz o (.lst xs)))→SqL K (tabH K H₁) a (ns.map V.int)→HOk P w H₁ s₁.heap→(∀ b,H₁ b≠none→b = a)→(H₁ a≠none→K.lookup a = none) →
   codeAny (model P w) callerA (.call (.ref fa) ⟨[.ref a],[]⟩) (fun r s'=>r = .ok (.ret (.bool true))∧OldK s₁.heap s'.heap∧s'.os = s₁.os∧AllBare s'.gens) s₁:=by
  intro H₁ hO₁ hS hok₁ hA₁ hK₁
  generalize hH:tabH K H₁ = H at hS
  have hin:∀ {b},tabA K b→H b = some (.tbl #[.str lamQual 0]):=fun h=>by rw [← hH]; exact tabH_in h
  have hout:∀ {b},¬ tabA K b→H b = H₁ b:=fun h=>by rw [← hH]; exact tabH_out h
  have hO:Only H:=fun b=>by
   by_cases q:tabA K b
   ·exact .inr (.inr ⟨_,hin q⟩)
   ·rw [hout q]
    exact (hO₁ b).imp id .inl
  have hok:HOk P w H s₁.heap:=fun b u e=>by
   by_cases q:tabA K b
   ·rw [hin q] at e; cases e
    obtain ⟨c,ec⟩:=q
    exact ⟨#[],(hT c b ec).2.1,trivial,fun pos c h=>by cases h⟩
   ·rw [hout q] at e
    rcases hO₁ b with z | ⟨o,xs,z⟩
    ·rw [z] at e; cases e
    ·rw [z] at e; cases e
     obtain ⟨e1,e2⟩:=hok₁ b _ z
     exact ⟨e1,e2⟩
  have hA:∀ b,H b≠none→b = a∨tabA K b:=fun b z=>by
   by_cases q:tabA K b
   ·exact .inr q
   ·rw [hout q] at z; exact .inl (hA₁ b z)
  have base_of:∀ {b:Addr} {o:Obj},s₁.heap.get? b = some o→H b = none→(hidT s₁.heap H).get? b = some o:=fun e n=>hidT_get e n
  have noA:∀ {b:Addr} {o:Obj} {es:Array DictEntry} {ep:Nat},s₁.heap.get? b = some o→o.data = .dict es ep→H b = none:=fun {b o es ep} e d=>by
   cases q:H b with
   | none=>rfl
   | some u =>
    rcases hA b (by rw [q]; simp) with e' | ⟨c,ec⟩
    ·subst e'
     rw [ha] at e; cases e
     have d':Data.seq vs.toArray _ = Data.dict es ep:=d
     cases d'
    ·rw [(hT c b ec).2.1] at e; cases e
     have d':Data.fields _ = Data.dict es ep:=d
     cases d'
  have nsK:∀ {b:Addr} {m:Str→Option Value},s₁.heap.Ns b m→(hidT s₁.heap H).Ns b m:=fun {b m} ⟨o,es,ep,e,d,r⟩=>⟨o,es,ep,base_of e (noA e d),d,r⟩
  have hKb:K.In (hidT s₁.heap H):=fun b o e=>base_of (KX b o e) (by
   cases q:H b with
   | none=>rfl
   | some u =>
    rcases hA b (by rw [q]; simp) with e' | ⟨c,ec⟩
    ·subst e'
     rw [hout naT] at q
     rw [hK₁ (by rw [q]; simp)] at e; cases e
    ·rw [(hT c b ec).2.2] at e; cases e)
  have bmK:∃ bm ob,mg "__builtins__" = some (.ref bm)∧bm≠builtinsNs∧(hidT s₁.heap H).get? bm = some ob∧ob.cls = .type "module" ∧ ob.dict = some builtinsNs∧ob.data = .plain:=by
   obtain ⟨bm,ob,m1,m2,m3,m4,m5,m6⟩:=hbm
   refine ⟨bm,ob,m1,m2,base_of m3 ?_,m4,m5,m6⟩
   cases q:H bm with
   | none=>rfl
   | some u =>
    rcases hA bm (by rw [q]; simp) with e' | ⟨c,ec⟩
    ·subst e'
     rw [ha] at m3; cases m3
     cases m6
    ·rw [(hT c bm ec).2.1] at m3; cases m3
     cases m6
  have hM:Mod K mg (hidT s₁.heap H):=⟨hKb,nsK hns,⟨mb,nsK hb,hbb⟩,let ⟨mc,h1,h2⟩:=hlim; ⟨mc,nsK h1,h2⟩,bmK⟩
  have e0:Env0 P w K mg (hidT s₁.heap H) callerA [] s₁ H:=⟨rfl,hM,fun b o e=>of_hidT e,Nat.le_of_eq (hidT_size _ _),trivial,fun b hb=>absurd (show b∈([]:List Addr) from hb) (by simp),hok,.of_eq hg,fun c b e=>⟨_,hin ⟨c,e⟩,rfl⟩⟩
  refine codeAny_mono ((F _ hKb (nsK hns)).run callerA [] s₁ H ⟨[.ref a],[]⟩ [.ref a] [.ref a] _ _ hr e0 (hbind s₁ (.ref a)) (.cons rfl .nil) (hsp H hO hS)) fun r s' h=>?_
  cases r with
  | error e=>exact (hCX H e s' h).elim
  | ok fl =>
   cases fl with
   | next=>exact False.elim h
   | brk=>exact False.elim h
   | cont=>exact False.elim h
   | ret u =>
    obtain ⟨v,H',os,bare,un,hok',r',q⟩:=h
    have q':v = .bl true:=q
    subst q'
    obtain rfl:u = Value.bool true:=r'
    have fin:∀ b o,s₁.heap.get? b = some o→s'.heap.get? b = some o∨∃ qs,tabA K b∧s'.heap.get? b = some { cls:=.none,data:=.fields qs }:=fun b o e=>by
     cases q:H b with
     | none=>exact .inl (un.keep b o e q (by intro z; exact absurd (show b∈([]:List Addr) from z) (by simp)) (by simp))
     | some u =>
      by_cases tq:tabA K b
      ·rw [hin tq] at q; cases q
       obtain ⟨more,z2⟩:=un.tbls b _ (hin tq)
       obtain ⟨qs,e2,_⟩:=hok' b _ z2
       exact .inr ⟨qs,tq,e2⟩
      ·rcases hO₁ b with z | ⟨ob,xs,z⟩
       ·rw [hout tq,z] at q; cases q
       ·have z2:=un.frzs b ob _ (by rw [hout tq]; exact z)
        obtain ⟨e1,_⟩:=hok₁ b _ z
        obtain ⟨e2,_⟩:=hok' b _ z2
        rw [e] at e1; cases e1
        exact .inl e2
    refine ⟨rfl,⟨fun b o e=>?_,fun b o e=>?_⟩,os,bare⟩
    ·rcases fin b o e with z | ⟨qs,⟨c,ec⟩,z⟩
     ·exact .inl z
     ·obtain ⟨h1,h2,_⟩:=hT c b ec
      rw [e] at h2; cases h2
      refine .inr (.inl ⟨(h1.tab e).isCodeTable,rfl,#[],qs,rfl,?_⟩)
      rw [z]; simp
    ·rcases fin b o e with z | ⟨qs,_,z⟩
     ·exact ⟨_,z⟩
     ·exact ⟨_,z⟩
 cases hk:K.lookup a with
 | some o =>
  -- the script is one of the module's own objects
  have e:=KX a o hk
  rw [ha] at e
  cases e
  refine core (fun _=>none) (fun _=>.inl rfl) (.inr ⟨_,vs.toArray,_,hk,rfl,rfl,rfl,by rw [List.size_toArray,lenV]; exact hl,by simpa using rv⟩) (fun b u z=>by have z':(none:Option HO) = some u:=z; cases z') (fun b z=>absurd rfl z) fun z=>absurd rfl z
 | none =>
  refine core (fun b=>if b = a then some (.frz { cls:=.type "list",data:=.seq vs.toArray } (.lst (ns.map V.int))) else none) (fun b=>?_) (.inl (.inr ⟨{ cls:=.type "list",data:=.seq vs.toArray },by rw [tabH_out naT]; exact if_pos rfl⟩)) (fun b u z=>?_) (fun b z=>?_) fun _=>hk
  ·by_cases hb:b = a
   ·exact .inr ⟨_,_,if_pos hb⟩
   ·exact .inl (if_neg hb)
  ·by_cases hb:b = a
   ·have z':=(if_pos hb).symm.trans z
    cases z'
    subst hb
    exact ⟨ha,by rw [List.length_map]; exact hl,vs,_,rv,ha⟩
   ·have z':=(if_neg hb).symm.trans z
    cases z'
  ·by_cases hb:b = a
   ·exact hb
   ·exact absurd (if_neg hb) z
end L2
namespace L2
open PySem PySem.Spec PyProof.Rows
noncomputable abbrev KOf {K:PySem.W.Frag} {h:Heap} (_:K.In h):PySem.W.Frag:=K
theorem walk_of {l:PySem.W.OpenLaw} {n k:Nat} {q:Program} {loose:List Str} {XP:(Str→Option Value)→Heap→Prop} {YP:World→Heap→Prop} {d:DefRec} {K:Params→PySem.W.Frag} {CX:World→CXT} {sp:World→Sp} {x:Str}
  (hn:l.most = some n) (hn2:n≤sizeLine) (hdf:d.params.defaults = []) (hr:Room k callerA)
  (hY:∀ (w:World) (h:Heap),YP w h→(K w.params).In h)
  (F:∀ (w:World) (mg:Str→Option Value) (fa:Addr) (h:Heap),(K w.params).In h→h.Ns mainGlobals mg→mg d.name = some (.ref fa) →
   ∃ fd:FuncData,(∀ (s:Shared) (u:Value),BindsTo s fd ⟨[u],[]⟩ [(x,u)]) ∧
    ∀ base:Heap,(K w.params).In base→base.Ns mainGlobals mg→FnOk l.prog w (K w.params) mg base (CX w) k fa fd [x] (sp w))
  (hsp:∀ (w:World) (H:Hp) (a:Addr) (ns:List Int),ns.length≤n→Only H→SqL (K w.params) H a (ns.map V.int)→sp w [.ref a] H (fun v _=>v = .bl true) fun _ _ _=>False)
  (hCX:∀ (w:World) (H:Hp) (s:Shared) (e:Value) (s':Shared),CX w [] H s (fun _ _ _=>False) e s'→False)
  (hT:∀ (w:World) (c b:Addr),PySem.W.tabIn (K w.params) lamDef = some (c,b)→(∃ d',(recsOf q).find? (fun e=>e.name == lamDef) = some d')∧(K w.params).lookup b = none) :
  PySem.W.WalkO q loose XP YP l.row.toRowW d [] (fun f vs=>PySem.call f vs):=by
 refine Att.attach_call hn hdf fun w s₀ s₁ mg mb fa o pm cd doc a vs ns G Y ho hd hcd hmg hobj hints hlen hg=>?_
 have KX:=hY w _ Y
 obtain ⟨fd,hb,hF⟩:=F w mg fa _ KX G.T.g hmg
 exact law_call KX G.T.g G.T.b G.T.builtins G.T.nolimit hg hobj hints (Nat.le_trans hlen hn2) hr hF hb (fun H hO hS=>hsp w H a ns hlen hO hS) (fun H e s'=>hCX w H s₁ e s') (fun c b e=>by
  obtain ⟨⟨d',hd'⟩,hk⟩:=hT w c b e
  obtain ⟨z1,z2⟩:=PySem.W.tab_of G.T KX hd' e
  exact ⟨z1,z2,hk⟩) G.T.bmain
end L2

namespace L2
open PySem PySem.Spec PyProof.Rows
noncomputable def defArgs (s:Stmt):Arguments:=match s with
 | .FunctionDef _ a _ _ _ _ _ _ _ _=>a
 | _=>{ posonlyargs:=[],args:=[],vararg:=none,kwonlyargs:=[],kw_defaults:=[],kwarg:=none,defaults:=[] }
noncomputable def defBody (s:Stmt):List Stmt:=match s with
 | .FunctionDef _ _ b _ _ _ _ _ _ _=>b
 | _=>[]
noncomputable def defScope (s:Stmt):Scope:=match s with
 | .FunctionDef _ _ _ _ _ _ sc _ _ _=>sc
 | _=>{ kind:=.function,names:=[],isGenerator:=false,isCoroutine:=false }
noncomputable abbrev CX0:CXT:=fun _ _ _ _ _ _=>False
noncomputable abbrev E0:XK:=fun _ _ _=>False
theorem pass0 {X:Cx}:Passes CX0 X E0:=fun _ _ _ _ _ _ _ h=>h.elim
structure Fun (K:PySem.W.Frag) (x qual:Str) (st:Stmt) (f:Addr) (fd:FuncData):Prop where
 ex:∃ (oc:Value) (od:Option Addr) (kV doc pm:Value) (an:Option Addr) (cdv ct:Value) (osl:Array (Option Value)),
  fd = PySem.W.fnOf x qual (defArgs st) (defBody st) (defScope st) .none kV doc pm an cdv ct∧K.lookup f = some ⟨oc,od,.func fd,osl⟩∧PySem.W.codeIn K cdv qual = true
 kp:PySem.W.keepIn K (.ref f) = true
section
variable {P:Program} {w:World} {K:PySem.W.Frag} {mg:Str→Option Value} {base:Heap}
theorem Fun.ok {x qual:Str} {st:Stmt} {f:Addr} {fd:FuncData} {N ps:List Str} {k:Nat} {sp:Sp} (F:Fun K x qual st f fd) (S:FnScope N ps (defScope st)) (len:∀ vs H Q E,sp vs H Q E→vs.length = ps.length)
  (hbody:∀ (cdv:Value) (A:Around) (outer:List Env) (s:Shared) (H:Hp) (vs:List V) (Q:VK) (E:XK),Room k (A.deeper (envOfC qual (defScope st) s.heap.objs.size f cdv))→sp vs H Q E →
   ∃ t,PSs (cxOf CX0 P w K mg base N qual (defScope st) f cdv A outer s H E).nox (defBody st) t∧t { nx:=fun _ H'=>Q .non H',rt:=Q } (start N vs) H):FnOk P w K mg base CX0 (k + 1) f fd ps sp:=by
 obtain ⟨oc,od,kV,doc,pm,an,cdv,ct,osl,rfl,lk,hcd⟩:=F.ex
 refine fn_of lk hcd S len fun A outer s H vs Q E hr hsp=>?_
 obtain ⟨t,h,q⟩:=hbody cdv A outer s H vs Q E hr hsp
 exact ⟨t,h.nox,q⟩
theorem Fun.binds {x qual:Str} {st:Stmt} {f:Addr} {fd:FuncData} {ps:List Str} (F:Fun K x qual st f fd)
  (h:∀ (kV doc pm:Value) (an:Option Addr) (cdv ct:Value) (us:List Value),us.length = ps.length→bindArgs (PySem.W.fnOf x qual (defArgs st) (defBody st) (defScope st) .none kV doc pm an cdv ct) ⟨us,[]⟩ = pure (ps.zip us)):Binds K fd ps []:=by
 obtain ⟨oc,od,kV,doc,pm,an,cdv,ct,osl,rfl,lk,hcd⟩:=F.ex
 exact .all (h kV doc pm an cdv ct)
theorem fun_mk {x qual:Str} {st:Stmt} {f:Addr} {oc:Value} {od an:Option Addr} {osl:Array (Option Value)} {kV doc pm cdv ct:Value} (l:K.lookup f = some ⟨oc,od,.func (PySem.W.fnOf x qual (defArgs st) (defBody st) (defScope st) .none kV doc pm an cdv ct),osl⟩)
  (c:PySem.W.codeIn K cdv qual = true) (k:PySem.W.keepIn K (.ref f) = true):Fun K x qual st f (PySem.W.fnOf x qual (defArgs st) (defBody st) (defScope st) .none kV doc pm an cdv ct):=⟨⟨oc,od,kV,doc,pm,an,cdv,ct,osl,rfl,l,c⟩,k⟩
end
theorem hu_of {A:Around} {k:Nat} (hr:Room k A):A.units + 1 < cLine:=Nat.lt_of_le_of_lt (Nat.add_le_add_left (by decide:1≤64) _) hr.units
section
variable {X:Cx}
end
noncomputable def Same (H H':Hp):Prop:=∀ b o,H b = some o→H' b = some o
end L2
end
section
set_option Elab.async false
set_option linter.all false
set_option maxRecDepth 100000
set_option maxHeartbeats 4000000
namespace L2
open PySem PySem.Spec PyProof.Rows
noncomputable def clo (cells:List (Str × Addr)):List (Str × NameKind)→List (Str × Addr)→List (Str × Addr)
 | [],cs=>cs
 | (n,k) :: r,cs=>clo cells r (if (k == .free) = true then (n,(cells.lookup n).getD 0) :: cs else cs)
theorem clo_loop {env:Env}:∀ (names:List (Str × NameKind)) (cs:List (Str × Addr)),(∀ x∈names,(x.2 == .free) = true→(env.cells.lookup x.1).isSome = true) →
  (forIn names cs fun (x:Str × NameKind) (r:List (Str × Addr))=>(if (x.2 == NameKind.free) = true then do let c ← cellOf env x.1; pure (ForInStep.yield ((x.1,c) :: r)) else pure (ForInStep.yield r):Sem (ForInStep (List (Str × Addr))))) = pure (clo env.cells names cs)
 | [],cs,_=>rfl
 | (n,k) :: r,cs,h=>by
  rw [List.forIn_cons]
  have hr:=fun cs'=>clo_loop (env:=env) r cs' fun x hx=>h x (List.mem_cons_of_mem _ hx)
  cases hk:(k == NameKind.free) with
  | true =>
   have hc:=h (n,k) List.mem_cons_self hk
   obtain ⟨c,hc⟩:=Option.isSome_iff_exists.mp hc
   have e:cellOf env n = pure c:=by unfold cellOf; rw [hc]
   dsimp only at hc
   simp only [hk,if_true,e,pure_bind]
   rw [hr]
   simp only [clo,hk,if_true,hc,Option.getD_some]
  | false =>
   simp only [hk,Bool.false_eq_true,if_false,pure_bind]
   rw [hr]
   simp only [clo,hk,Bool.false_eq_true,if_false]
theorem clo_of {env:Env} {scope:Scope} (h:∀ x∈scope.names,(x.2 == .free) = true→(env.cells.lookup x.1).isSome = true):closureFor scope env = pure (clo env.cells scope.names []):=by
 rw [← clo_loop _ _ h]
 unfold closureFor
 simp
theorem clo_sub {cells:List (Str × Addr)} {x:Str} {c:Addr}:∀ {names:List (Str × NameKind)} {cs:List (Str × Addr)},(∀ y∈names,(y.2 == .free) = true→(cells.lookup y.1).isSome = true) →
  (clo cells names cs).lookup x = some c→cs.lookup x = some c∨cells.lookup x = some c
 | [],_,_,h=>.inl h
 | (n,k) :: r,cs,hn,h=>by
  simp only [clo] at h
  have hr:=clo_sub (names:=r) (fun y hy=>hn y (List.mem_cons_of_mem _ hy)) h
  rcases hr with hr | hr
  ·cases hk:(k == NameKind.free) with
   | true =>
    simp only [hk,if_true] at hr
    rw [List.lookup_cons] at hr
    cases hx:(x == n) with
    | true =>
     simp only [hx] at hr
     obtain ⟨c',hc'⟩:=Option.isSome_iff_exists.mp (hn (n,k) List.mem_cons_self hk)
     have hx':x = n:=by simpa using hx
     rw [hc'] at hr
     refine .inr ?_
     rw [hx']
     exact hc'.trans hr
    | false =>
     simp only [hx] at hr
     exact .inl hr
   | false =>
    simp only [hk,Bool.false_eq_true,if_false] at hr
    exact .inl hr
  ·exact .inr hr
theorem clo_keep {cells:List (Str × Addr)} {x:Str}:∀ {names:List (Str × NameKind)} {cs:List (Str × Addr)},(∃ c,cs.lookup x = some c)→∃ c,(clo cells names cs).lookup x = some c
 | [],_,h=>h
 | (n,k) :: r,cs,h=>by
  simp only [clo]
  refine clo_keep (names:=r) ?_
  cases hk:(k == NameKind.free) with
  | true =>
   simp only [if_true]
   rw [List.lookup_cons]
   cases hx:(x == n) with
   | true=>exact ⟨_,rfl⟩
   | false=>exact h
  | false =>
   simp only [Bool.false_eq_true,if_false]
   exact h
theorem clo_has {cells:List (Str × Addr)} {x:Str}:∀ {names:List (Str × NameKind)} {cs:List (Str × Addr)},names.lookup x = some .free→∃ c,(clo cells names cs).lookup x = some c
 | [],_,h=>by simp at h
 | (n,k) :: r,cs,h=>by
  rw [List.lookup_cons] at h
  simp only [clo]
  cases hx:(x == n) with
  | true =>
   simp only [hx] at h
   have hk:k = .free:=Option.some.inj h
   subst hk
   refine clo_keep (names:=r) ⟨(cells.lookup n).getD 0,?_⟩
   rw [if_pos (by decide),List.lookup_cons]
   simp only [hx]
  | false =>
   simp only [hx] at h
   exact clo_has (names:=r) h
noncomputable abbrev cxD (X:Cx) (own:List Str) (scope:Scope) (C:Addr) (cl:List (Str × Addr)) (fn:Str→Bool) (s:Shared) (H:Hp) (fp:List Addr) (pins:List (Addr × Obj)):Cx:=
 { X with N:=own ++ X.N,s₀:=s,H₀:=H,env:=compEnvC scope cl C X.env,outer:=X.stack,ex:=fp,fn:=fn,pn:=X.pn ++ pins,xe:=fun _ _=>False }
noncomputable abbrev cxC (X:Cx) (own:List Str) (scope:Scope) (C:Addr) (s:Shared) (H:Hp) (fp:List Addr) (pins:List (Addr × Obj)):Cx:=
 cxD X own scope C (clo X.env.cells scope.names []) (fun _=>false) s H fp pins
noncomputable def lcOk (own N:List Str) (sc sco:Scope):Bool:=
 N.all (fun x=>match sc.names.lookup x with
  | some .local=>false
  | some .cell=>false
  | some .free=>sco.names.lookup x == some .cell || sco.names.lookup x == some .free
  | _=>true) &&
 sc.names.all (fun y=>(y.2 != .cell) && (y.2 != .free || sco.names.lookup y.1 == some .cell || sco.names.lookup y.1 == some .free) && (y.2 != .local || sc.names.lookup y.1 == some .local)) &&
 (sc.kind == .function) && own.all fun x=>!N.contains x
theorem lookup_relabel {env:Env}:∀ {names:List (Str × NameKind)} {x:Str} {k:NameKind},
  (names.map fun (n,k)=>if (k == NameKind.free && env.scope.kind == .function && env.kindOf n == some .cell) then (n,NameKind.cell) else (n,k)).lookup x = some k →
  names.lookup x = some k∨(k = .cell∧names.lookup x = some .free)
 | [],_,_,h=>by simp at h
 | (n,j) :: r,x,k,h=>by
  have ih:=@lookup_relabel env r x k
  have h':List.lookup x ((if (j == NameKind.free && env.scope.kind == .function && env.kindOf n == some .cell) = true then (n,NameKind.cell) else (n,j)) :: _) = some k:=h
  rw [List.lookup_cons]
  cases hx:x == n with
  | true =>
   by_cases hc:(j == NameKind.free && env.scope.kind == .function && env.kindOf n == some .cell) = true
   ·rw [if_pos hc,List.lookup_cons] at h'
    simp only [hx] at h'
    have hj:j = .free:=by
     simp only [Bool.and_eq_true] at hc
     simpa using hc.1.1
    exact .inr ⟨(Option.some.inj h').symm,by simp only [hj]⟩
   ·rw [if_neg hc,List.lookup_cons] at h'
    simp only [hx] at h'
    exact .inl h'
  | false =>
   refine ih ?_
   by_cases hc:(j == NameKind.free && env.scope.kind == .function && env.kindOf n == some .cell) = true
   ·rw [if_pos hc,List.lookup_cons] at h'
    simp only [hx] at h'
    exact h'
   ·rw [if_neg hc,List.lookup_cons] at h'
    simp only [hx] at h'
    exact h'
theorem codeAny_lc {prog:Program} {w:World} {A:Around} {R:Result→Shared→Prop} {s:Shared} {elt target iter:Expr} {ifs:List Expr} {scope:Scope} {pos:Pos} {it acc:Value} {env:Env} (I:Nat→Shared→Prop)
  (turn:∀ n s,I n s→wpAny (model prog w) A (pyNext it) (fun r s₁=>match r with
   | none=>R (.ok .next) s₁
   | some v=>wpAny (model prog w) A (letOwnedTupleGo target it v) (fun _ s₁'=>wpAny (model prog w) A (assign target env v) (fun _ s₂ =>
     wpAny (model prog w) A (forIn ifs true fun c r=>if r = true then do let ok ← isTrue c env (eval c env); pure (ForInStep.yield ok) else pure (ForInStep.yield r)) (fun ok s₃ =>
      if ok = true then wpAny (model prog w) A (eval elt env) (fun x s₄ =>
       wpAny (model prog w) A (call (.builtin "list.append") [acc,x]) (fun _ s₅=>∃ m,m < n∧I m s₅) (fun _ _=>False) s₄) (fun _ _=>False) s₃
      else ∃ m,m < n∧I m s₃) (fun _ _=>False) s₂) (fun _ _=>False) s₁') (fun _ _=>False) s₁) (fun _ _=>False) s)
  (n:Nat) (h:I n s):codeAny (model prog w) A (.compLoop (.ListComp elt [⟨target,iter,ifs,0⟩] scope pos) 0 it acc env) R s:=by
 refine codeAny_loop rfl I (fun n s hI=>?_) n h
 show wpAny _ A ((compTurn (.ListComp elt [⟨target,iter,ifs,0⟩] scope pos) 0 it acc env).onRaise (fun x=>do noteFrame x env; theTreesLotGoes x)) _ _ s
 refine wpAny_noted ?_
 rw [compTurn_list]
 refine wpAny_bind (wpAny_standAt (wpAny_bind (wpAny_mono (turn n s hI) (fun r s₁ h₁=>?_) fun _ _ h'=>h'.elim)))
 cases r with
 | none=>exact wpAny_pure h₁
 | some v =>
  refine wpAny_bind (wpAny_mono h₁ (fun _ s₁' h₁'=>?_) fun _ _ h'=>h'.elim)
  refine wpAny_bind (wpAny_mono h₁' (fun _ s₂ h₂=>wpAny_bind (wpAny_mono h₂ (fun ok s₃ h₃=>?_) fun _ _ h'=>h'.elim)) fun _ _ h'=>h'.elim)
  cases ok with
  | false=>exact wpAny_pure ⟨rfl,h₃⟩
  | true =>
   exact wpAny_bind (wpAny_bind (wpAny_mono h₃ (fun x s₄ h₄=>wpAny_bind (wpAny_mono h₄ (fun _ s₅ h₅=>wpAny_pure (wpAny_pure ⟨rfl,h₅⟩)) fun _ _ h'=>h'.elim)) fun _ _ h'=>h'.elim))
noncomputable def PTs (X:Cx) (ifs:List Expr) (t:TT):Prop:=
 ∀ (pins:List (Addr × Obj)) (s:Shared) (σ:St) (H:Hp) (Q:Bool→Hp→Prop),Inv X pins σ H s→t σ H Q →
  wpAny (model X.prog X.w) X.A (forIn ifs true fun c r=>if r = true then do let ok ← isTrue c X.env (eval c X.env); pure (ForInStep.yield ok) else pure (ForInStep.yield r)) (TP X pins σ Q) X.xe s
noncomputable def tYes:TT:=fun _ H Q=>Q true H
theorem pts_nil {X:Cx}:PTs X [] tYes:=fun _ _ _ H _ I h=>wpAny_tests_nil ⟨H,I,h⟩
theorem pts_one {X:Cx} {c:Expr} {t:TT} (h:PT X c t):PTs X [c] t:=fun pins s σ H Q I q=>wpAny_tests_one (h pins s σ H Q I q)
noncomputable abbrev TU:=V→Hp→List V→Prop
noncomputable def PGo (X:Cx) (target:Expr) (n:Nat) (un:TU):Prop:=
 ∀ (pins:List (Addr × Obj)) (s:Shared) (σ0 σ:St) (H:Hp) (v:V) (u:Value) (vs:List V),σ0.length = n→Inv X pins (σ0 ++ σ) H s→RelV v u→un v H vs →
  wpAny (model X.prog X.w) X.A (assign target X.env u) (fun _ s'=>vs.length = n∧Inv X pins (vs.map some ++ σ) H s') X.xe s
noncomputable def uOne:TU:=fun v _ vs=>vs = [v]
noncomputable def uPair (K:PySem.W.Frag):TU:=fun v H vs=>∃ a x y,v = .ref a∧SqT K H a [x,y]∧vs = [x,y]
theorem len1 {α:Type} {l:List α} (h:l.length = 1):∃ o,l = [o]:=by
 cases l with
 | nil=>cases h
 | cons a t=>cases t with
  | nil=>exact ⟨a,rfl⟩
  | cons b t=>cases h
theorem len2 {α:Type} {l:List α} (h:l.length = 2):∃ o p,l = [o,p]:=by
 cases l with
 | nil=>cases h
 | cons a t =>
  obtain ⟨p,rfl⟩:=len1 (Nat.succ.inj h)
  exact ⟨a,p,rfl⟩
theorem pgo_name {X:Cx} {x:Str} {pos:Pos} (hi:X.N[0]? = some x) (hN:X.N.Nodup) (hx:X.env.scope.names.lookup x = some .local):PGo X (.Name x pos) 1 uOne:=by
 intro pins s σ0 σ H v u vs hl I r h
 obtain ⟨o,rfl⟩:=len1 hl
 cases h
 exact wpAny_assign_Name (store_ok I hN hi (.inl hx) r (fun s' I'=>⟨rfl,I'⟩) (.inr hx))
theorem pgo_pair {X:Cx} {x y:Str} {px py pos:Pos} {k:Nat} (hc:X.calm = true) (hi:X.N[0]? = some x) (hj:X.N[1]? = some y) (hN:X.N.Nodup) (hx:X.env.scope.names.lookup x = some .local) (hy:X.env.scope.names.lookup y = some .local) :
  PGo X (.Tuple [.Name x px,.Name y py] k pos) 2 (uPair X.K):=by
 intro pins s σ0 σ H v u vs hl I r h
 obtain ⟨o,o',rfl⟩:=len2 hl
 obtain ⟨a,v1,v2,rfl,hq,rfl⟩:=h
 have P:=pg_tup (X:=X) (pos:=pos) (k:=k) hc (pgs_cons (pg_name (pos:=px) hN hi (.inl hx) (.inr hx)) (pgs_cons (pg_name (pos:=py) hN hj (.inl hy) (.inr hy)) pgs_nil)) (n:=2)
 refine thn (P pins s _ H (.ref a) u (fun σ2 H2=>σ2 = [v1,v2].map some ++ σ ∧ H2 = H) I r ⟨a,_,rfl,hq,rfl,v1,[v2],rfl,v2,[],rfl,rfl,rfl,rfl⟩) fun _ s1 yy=>?_
 obtain ⟨σ2,H2,I2,e1,e2⟩:=yy
 subst e1; subst e2
 exact ⟨rfl,I2⟩
noncomputable def LcR (J:It) (un:TU) (tc:TT) (te:TE) (σ:St) (H1:Hp) (Q:VK):Prop:=∀ acc,H1 acc = none→∃ W:Nat→Nat→List V→Hp→Prop,(∃ m,W 0 m [] (upd H1 acc (.lst [])))∧∀ i m ys H,W i m ys H→H acc = some (.lst ys) ∧
 ((J.stop i H∧Q (.ref acc) H)∨(J.go i H∧∀ x H',J.yld i H x H'→∃ vs,un x H' vs∧tc (vs.map some ++ σ) H' fun b H3 =>
  if b = true then te (vs.map some ++ σ) H3 fun v H4=>H4 acc = some (.lst ys)∧ys.length < sizeLine∧∃ m',m' < m∧W (i + 1) m' (ys ++ [v]) (upd H4 acc (.lst (ys ++ [v])))
  else ∃ m',m' < m∧W (i + 1) m' ys H3))
noncomputable def tLc (wi:TI) (un:TU) (tc:TT) (te:TE):TE:=fun σ H Q=>wi σ H fun J H1=>LcR J un tc te σ H1 Q
section
variable {X:Cx} {pins:List (Addr × Obj)} {σ:St} {H:Hp} {s:Shared}
theorem lcOk.free {own:List Str} {scope:Scope} (hok:lcOk own X.N scope X.env.scope = true) (I:Inv X pins σ H s):∀ x∈scope.names,(x.2 == NameKind.free) = true→(X.env.cells.lookup x.1).isSome = true:=fun x hx hf=>by
 simp only [lcOk,Bool.and_eq_true,List.all_eq_true] at hok
 have:=(hok.1.1.2 x hx).1.2
 have hf':x.2 = .free:=by simpa using hf
 rw [hf'] at this
 simp only [bne_self_eq_false,Bool.false_or,Bool.or_eq_true] at this
 obtain ⟨c,hc⟩:=I.ok.has x.1 (this.elim (fun z=>.inl (by simpa [Env.kindOf] using z)) fun z=>.inr (by simpa [Env.kindOf] using z))
 rw [hc]; rfl
theorem inv_block {own:List Str} {scope:Scope} {fp:List Addr} {h1:Heap} {t':Nat} (hok:lcOk own X.N scope X.env.scope = true) (I:Inv X pins σ H s) (f2:∀ b∈fp,FpOk X pins H b) (fo:∀ b∈fp,∃ o,s.heap.get? b = some o)
  (hns:h1.Ns s.heap.objs.size fun _=>none) (hk:∀ b o,s.heap.get? b = some o→h1.get? b = some o) :
  Inv (cxC X own scope s.heap.objs.size s H fp pins) [] (List.replicate own.length none ++ σ) H { s with heap:=h1,toks:=t' }:=by
 have hfree:=lcOk.free hok I
 simp only [lcOk,Bool.and_eq_true,List.all_eq_true] at hok
 obtain ⟨⟨⟨hN,hS⟩,hkd⟩,hown⟩:=hok
 have hkind:scope.kind = .function:=by simpa using hkd
 have sub:∀ x c,(clo X.env.cells scope.names []).lookup x = some c→X.env.cells.lookup x = some c:=fun x c e=>by
  rcases clo_sub hfree e with z | z
  ·simp at z
  ·exact z
 have ltS:∀ {b:Addr} {o:Obj},s.heap.get? b = some o→b≠s.heap.objs.size:=fun e=>Nat.ne_of_lt (Heap.lt_size e)
 have isFree:∀ x,((relabel scope X.env).names.lookup x = some .cell∨(relabel scope X.env).names.lookup x = some .free)→scope.names.lookup x = some .free:=fun x hx'=>by
  rcases hx' with z | z
  ·rcases lookup_relabel z with z | z
   ·have:=(hS _ (PySem.mem_of_lookup z)).1.1
    simp at this
   ·exact z.2
  ·rcases lookup_relabel z with z | z
   ·exact z
   ·cases z.1
 refine ⟨⟨I.ok.mod,hkind,I.ok.glob,I.ok.blt,Nat.le_refl _,fun x y c e1 e2=>I.ok.inj x y c (sub x c e1) (sub y c e2),fun x hx=>clo_has (isFree x hx),fun x c z=>(by cases z),I.ok.hd,I.ok.frames,.inl rfl,fun b hb=>?_,I.bs,Nat.le_trans I.ok.bsz I.sz,fun b o e hb=>?_,fun b hb hz=>?_,I.stack,I.stkFree,I.tabs⟩,
  rfl,I.bare,Un.kept hk,⟨_,hns,fun i x v e1 e2 e3=>?_⟩,fun x c e=>?_,I.hok.fresh (Nat.le_refl _),fun x c e=>I.freeC x c (sub x c e),fun p hp=>?_,I.hok.kept hk,?_⟩
 ·refine ⟨fun z=>?_,fun x c e z=>?_⟩
  ·obtain ⟨o,e⟩:=fo b hb
   exact ltS e z
  ·exact (f2 b hb).2.2.2.2.1 x c (sub x c e) z
 ·obtain ⟨_,_,_,f4,_⟩:=f2 b hb
  rcases f4 with f4 | f4
  ·exact I.ok.noex b o e f4
  ·have:=Nat.lt_of_lt_of_le (Heap.lt_size e) (Nat.le_trans I.ok.bsz f4)
   exact absurd this (Nat.lt_irrefl _)
 ·obtain ⟨_,f1,f3,_⟩:=f2 b hb
  rcases List.mem_cons.mp (I.stkSub b hz) with z | z
  ·exact f1 z
  ·exact f3 z
 ·by_cases hi:i < own.length
  ·rw [List.getElem?_append_left (by simpa using hi),List.getElem?_replicate] at e2
   split at e2 <;> cases e2
  ·have e1':X.N[i - own.length]? = some x:=by
    have e1:(own ++ X.N)[i]? = some x:=e1
    rw [List.getElem?_append_right (by omega)] at e1
    exact e1
   have e2' : σ[i - own.length]? = some (some v):=by
    rw [List.getElem?_append_right (by simpa using hi)] at e2
    simpa using e2
   have hx:=hN x (List.mem_of_getElem? e1')
   have q:scope.names.lookup x = some .free:=by
    rcases e3 with z | z
    ·rcases lookup_relabel z with z | z
     ·rw [z] at hx; cases hx
     ·cases z.1
    ·exact isFree x z
   rw [q] at hx
   simp only [Bool.or_eq_true] at hx
   have hx2:X.env.scope.names.lookup x = some .cell∨X.env.scope.names.lookup x = some .free:=hx.elim (fun z=>.inl (by simpa using z)) fun z=>.inr (by simpa using z)
   obtain ⟨m,_,hl⟩:=I.loc
   obtain ⟨u,r,l⟩:=hl _ x v e1' e2' (.inr hx2)
   refine ⟨u,r,?_⟩
   obtain ⟨c',hc'⟩:=clo_has (cells:=X.env.cells) (cs:=[]) q
   rcases l with ⟨k,_⟩ | ⟨k,c,hc,o,ho,hd⟩
   ·have k':X.env.scope.names.lookup x = some .local:=k
    rcases hx2 with z | z <;> (rw [k'] at z; cases z)
   ·have ec:=sub x c' hc'
    have ec':c' = c:=Option.some.inj (ec.symm.trans hc)
    rw [ec'] at hc'
    refine .inr ⟨?_,c,hc',o,hk c o ho,hd⟩
    rcases e3 with z | z
    ·rcases lookup_relabel z with z | z
     ·rw [q] at z; cases z
     ·cases z.1
    ·exact z
 ·obtain ⟨v,o,ho,hd⟩:=I.cell x c (sub x c e)
  exact ⟨v,o,hk c o ho,hd⟩
 ·have hp':p∈X.pn ++ pins:=by simpa using hp
  obtain ⟨e,n,ne,nf,d⟩:=I.pin p hp'
  refine ⟨hk _ _ e,n,ltS e,fun hz=>?_,d⟩
  rcases List.mem_cons.mp (I.stkSub p.1 hz) with z | z
  ·exact ne z
  ·exact nf z
 ·show (List.replicate own.length none ++ σ).length = (own ++ X.N).length
  rw [List.length_append,List.length_replicate,List.length_append,I.len]
theorem inv_unblock {own:List Str} {scope:Scope} {fp:List Addr} {cl:List (Str × Addr)} {fn:Str→Bool} {σ':St} {H':Hp} {s':Shared} {h':Heap} (I:Inv X pins σ H s) (f2:∀ b∈fp,FpOk X pins H b)
  (J:Inv (cxD X own scope s.heap.objs.size cl fn s H fp pins) [] σ' H' s') (hs:Heap.SameBut s.heap.objs.size s'.heap h'):Inv X pins σ H' { s' with heap:=h' }:=by
 have lt:∀ {b:Addr} {o:Obj},s.heap.get? b = some o→b≠s.heap.objs.size:=fun e=>Nat.ne_of_lt (Heap.lt_size e)
 have hC:H' s.heap.objs.size = none:=J.free
 have u:=J.base
 refine I.call' (s':={ s' with heap:=h' }) (ch:=fp) J.os ⟨fun b o e n hb hx=>(hs.2 b (lt e)).trans (u.keep b o e n hb hx),fun b o e n hb hx=>?_,u.free,fun b o e hx=>?_,u.tups,u.frzs,u.tbls⟩ (fun b o e=>?_) J.bare fun b hb=>?_
 ·obtain ⟨sl,q⟩:=u.slot b o e n hb hx
  exact ⟨sl,(hs.2 b (lt e)).trans q⟩
 ·obtain ⟨o',q⟩:=u.there b o e hx
  exact ⟨o',(hs.2 b (lt e)).trans q⟩
 ·refine (J.hok b o e).stay (fun c w' hc q=>(hs.2 c ?_).trans q) (fun _ q=>q) fun _ _ q=>q
  rintro rfl
  rcases hc with z | z
  ·rw [← z,hC] at e; cases e
  ·rw [hC] at z; cases z
 ·obtain ⟨_,f1,_,f4,f5,f6⟩:=f2 b hb
  exact ⟨f4,f1,f5,f6⟩
theorem run_loop {own:List Str} {scope:Scope} {fp:List Addr} {it:Addr} {tn:Nat→Heap→Prop} {J:It} {target iter elt:Expr} {ifs:List Expr} {pos:Pos} {un:TU} {tc:TT} {te:TE} {acc:Addr} {Q:VK} {R:Result→Shared→Prop}
  {cl:List (Str × Addr)} {fn:Str→Bool} {h1:Heap} {t1:Nat} (hc:X.calm = true)
  (hg:PGo (cxD X own scope s.heap.objs.size cl fn s H fp pins) target own.length un) (ht:PTs (cxD X own scope s.heap.objs.size cl fn s H fp pins) ifs tc) (he:PE (cxD X own scope s.heap.objs.size cl fn s H fp pins) elt te)
  (I:Inv X pins σ H s) (T:Turn X.prog X.w X.K target J fp it tn) (st:tn 0 s.heap) (f2:∀ b∈fp,FpOk X pins H b)
  (W:Nat→Nat→List V→Hp→Prop) (w0:∃ m,W 0 m [] H)
  (turn:∀ i m ys H,W i m ys H→H acc = some (.lst ys) ∧
   ((J.stop i H∧Q (.ref acc) H)∨(J.go i H∧∀ x H',J.yld i H x H'→∃ vs,un x H' vs∧tc (vs.map some ++ σ) H' fun b H3 =>
    if b = true then te (vs.map some ++ σ) H3 fun v H4=>H4 acc = some (.lst ys)∧ys.length < sizeLine∧∃ m',m' < m∧W (i + 1) m' (ys ++ [v]) (upd H4 acc (.lst (ys ++ [v])))
    else ∃ m',m' < m∧W (i + 1) m' ys H3)))
  (fin:∀ s' σ' H',Inv (cxD X own scope s.heap.objs.size cl fn s H fp pins) [] σ' H' s'→Q (.ref acc) H'→R (.ok .next) s')
  (hk:∀ b o,s.heap.get? b = some o→h1.get? b = some o) (I0:Inv (cxD X own scope s.heap.objs.size cl fn s H fp pins) [] (List.replicate own.length none ++ σ) H { s with heap:=h1,toks:=t1 }) :
  codeAny (model X.prog X.w) X.A (.compStart (.ListComp elt [⟨target,iter,ifs,0⟩] scope pos) 0 (.ref it) (.ref acc) (compEnvC scope cl s.heap.objs.size X.env)) R { s with heap:=h1,toks:=t1 }:=by
 have st1:tn 0 h1:=T.keep _ _ _ st fun b _ o e=>hk b o e
 have stat:∀ {H':Hp},(∀ b∈fp,H' b = none)→∀ b∈fp,FpOk (cxD X own scope s.heap.objs.size cl fn s H fp pins) [] H' b:=fun hn b hb=>by
  obtain ⟨_,f1,f3,_,f5,f6⟩:=f2 b hb
  obtain ⟨o,e,_⟩:=T.obj _ _ st b hb
  refine ⟨hn b hb,Nat.ne_of_lt (Heap.lt_size e),fun hz=>?_,.inl hb,(I0.ok.exf b hb).2,fun p hp=>f6 p (by simpa using hp)⟩
  rcases List.mem_cons.mp (I.stkSub b hz) with z | z
  ·exact f1 z
  ·exact f3 z
 have loop:∀ s4,s4 = { s with heap:=h1,toks:=t1 }→codeAny (model X.prog X.w) X.A (.compLoop (.ListComp elt [⟨target,iter,ifs,0⟩] scope pos) 0 (.ref it) (.ref acc) (compEnvC scope cl s.heap.objs.size X.env)) R s4:=by
  rintro s4 rfl
  obtain ⟨m0,w0⟩:=w0
  refine codeAny_lc (fun n s'=>∃ i ys σ0 H',σ0.length = own.length∧Inv (cxD X own scope s.heap.objs.size cl fn s H fp pins) [] (σ0 ++ σ) H' s'∧tn i s'.heap∧(∀ b∈fp,H' b = none)∧W i n ys H') ?_ m0 ⟨0,[],_,H,by rw [List.length_replicate],I0,st1,fun b hb=>(f2 b hb).1,w0⟩
  rintro n s3 ⟨i,ys,σ0,H3,hl3,I3,st3,fr3,w3⟩
  obtain ⟨ha,turn3⟩:=turn i n ys H3 w3
  rcases turn3 with ⟨stop,qn⟩ | ⟨go,step⟩
  ·refine thn (T.done (cxD X own scope s.heap.objs.size cl fn s H fp pins) rfl rfl rfl hc i [] s3 _ H3 _ I3 (stat fr3) st3 stop) fun r s4 yy=>?_
   obtain ⟨hr,I4⟩:=yy
   subst hr
   exact fin s4 _ H3 I4 qn
  ·refine thn (T.item (cxD X own scope s.heap.objs.size cl fn s H fp pins) rfl rfl rfl hc i [] s3 _ H3 _ I3 (stat fr3) st3 go) fun r s4 yy=>?_
   obtain ⟨u,hr,h4⟩:=yy
   subst hr
   refine thn h4 fun _ s5 yy=>?_
   obtain ⟨x,H5,I5,r5,y5,st5,fr5⟩:=yy
   obtain ⟨vs,hu,q5⟩:=step x H5 y5
   have I5':=I5.pinned (stat fr5) (T.obj _ _ st5)
   have again:∀ {H7:Hp} {s7:Shared},vs.length = own.length→Inv (cxD X own scope s.heap.objs.size cl fn s H fp pins) ([] ++ pinsAt fp s5.heap) (vs.map some ++ σ) H7 s7→∀ {ys'},(∃ m',m' < n∧W (i + 1) m' ys' H7) →
     ∃ m,m < n∧∃ i ys σ0 H',σ0.length = own.length∧Inv (cxD X own scope s.heap.objs.size cl fn s H fp pins) [] (σ0 ++ σ) H' s7∧tn i s7.heap∧(∀ b∈fp,H' b = none)∧W i m ys H':=fun {H7 s7} hl I7 {ys'} ⟨m',hm,w7⟩=>by
    refine ⟨m',hm,i + 1,ys',vs.map some,H7,by rw [List.length_map,hl],I7.unpinned,T.keep _ _ _ st5 fun b hb o e=>(I7.pin (b,o) (List.mem_append_right _ (List.mem_append_right _ (mem_pinsAt hb e)))).1,fun b hb=>?_,w7⟩
    obtain ⟨o,e,d⟩:=T.obj _ _ st5 b hb
    exact (I7.pin (b,o) (List.mem_append_right _ (List.mem_append_right _ (mem_pinsAt hb e)))).2.1
   refine thn (hg _ s5 σ0 σ H5 x u vs hl3 I5' r5 hu) fun _ s6 yy=>?_
   obtain ⟨hl,I6⟩:=yy
   refine thn (ht _ s6 _ H5 _ I6 q5) fun ok s7 yy=>?_
   obtain ⟨H7,I7,q7⟩:=yy
   cases ok with
   | false =>
    rw [if_neg Bool.false_ne_true] at q7
    rw [if_neg Bool.false_ne_true]
    exact again hl I7 q7
   | true =>
    rw [if_pos rfl] at q7
    rw [if_pos rfl]
    refine thn (he _ s7 _ H7 _ I7 q7) fun v s8 yy=>?_
    obtain ⟨y,H8,I8,r8,ha8,hz8,q8⟩:=yy
    refine thn (mt_append _ s8 _ H8 (.ref acc) [y] (.ref acc) [v] (fun _ H9=>∃ m',m' < n∧W (i + 1) m' (ys ++ [y]) H9) I8 rfl (.cons r8 .nil) ⟨acc,ys,y,rfl,rfl,ha8,hz8,q8⟩) fun _ s9 yy=>?_
    obtain ⟨_,H9,I9,_,q9⟩:=yy
    exact again hl I9 q9
 exact codeAny_compStart_list (loop _ rfl) (T.self X.A 0 _ _ _ st1 (loop _ rfl))
theorem run_block {own:List Str} {scope:Scope} {fp:List Addr} {it:Addr} {tn:Nat→Heap→Prop} {J:It} {target iter elt:Expr} {ifs:List Expr} {pos:Pos} {un:TU} {tc:TT} {te:TE} {acc:Addr} {Q:VK} {R:Result→Shared→Prop}
  {E:Value→Shared→Prop} (hc:X.calm = true) (hok:lcOk own X.N scope X.env.scope = true)
  (hg:∀ C s H fp pins,PGo (cxC X own scope C s H fp pins) target own.length un) (ht:∀ C s H fp pins,PTs (cxC X own scope C s H fp pins) ifs tc) (he:∀ C s H fp pins,PE (cxC X own scope C s H fp pins) elt te)
  (I:Inv X pins σ H s) (T:Turn X.prog X.w X.K target J fp it tn) (st:tn 0 s.heap) (f2:∀ b∈fp,FpOk X pins H b)
  (W:Nat→Nat→List V→Hp→Prop) (w0:∃ m,W 0 m [] H)
  (turn:∀ i m ys H,W i m ys H→H acc = some (.lst ys) ∧
   ((J.stop i H∧Q (.ref acc) H)∨(J.go i H∧∀ x H',J.yld i H x H'→∃ vs,un x H' vs∧tc (vs.map some ++ σ) H' fun b H3 =>
    if b = true then te (vs.map some ++ σ) H3 fun v H4=>H4 acc = some (.lst ys)∧ys.length < sizeLine∧∃ m',m' < m∧W (i + 1) m' (ys ++ [v]) (upd H4 acc (.lst (ys ++ [v])))
    else ∃ m',m' < m∧W (i + 1) m' ys H3)))
  (fin:∀ s' σ' H',Inv (cxC X own scope s.heap.objs.size s H fp pins) [] σ' H' s'→Q (.ref acc) H'→R (.ok .next) s') :
  wpAny (model X.prog X.w) X.A (newFunctionEnv scope X.env.globals (clo X.env.cells scope.names []) [] X.env.qual none .none (some X.env)) (fun cenv s₄ =>
   cenv.locals = s.heap.objs.size∧codeAny (model X.prog X.w) X.A (.compStart (.ListComp elt [⟨target,iter,ifs,0⟩] scope pos) 0 (.ref it) (.ref acc) { cenv with scope:=relabel scope X.env }) R s₄) E s:=by
 have hcell:∀ x∈scope.names,x.2 ≠ .cell:=fun x hx z=>by
  simp only [lcOk,Bool.and_eq_true,List.all_eq_true] at hok
  have:=(hok.1.1.2 x hx).1.1
  rw [z] at this
  simp at this
 have hkind:scope.kind = .function:=by
  simp only [lcOk,Bool.and_eq_true] at hok
  simpa using hok.1.2
 refine wpAny_newFunctionEnv hcell (fun x hx=>by simp at hx) (fun h1 hns hsb=>⟨rfl,?_⟩) hkind
 have hk:∀ b o,s.heap.get? b = some o→h1.get? b = some o:=fun b o e=>(hsb.2 b (Nat.ne_of_lt (Heap.lt_size e))).trans (Heap.get?_push_of_some _ e)
 have I0:Inv (cxC X own scope s.heap.objs.size s H fp pins) [] (List.replicate own.length none ++ σ) H { s with heap:=h1,toks:=s.toks + ([]:List (Str × Value)).length }:=
  inv_block hok I f2 (fun b hb=>let ⟨o,e,_⟩:=T.obj _ _ st b hb; ⟨o,e⟩) (by simpa using hns) hk
 exact run_loop (iter:=iter) (pos:=pos) hc (hg _ _ _ _ _) (ht _ _ _ _ _) (he _ _ _ _ _) I T st f2 W w0 turn fin hk I0
end
section
variable {X:Cx}
theorem lcOk.names {own N:List Str} {scope sco:Scope} (hok:lcOk own N scope sco = true):∀ x∈scope.names,x.2 = .local→scope.names.lookup x.1 = some .local:=fun x hx hl=>by
 simp only [lcOk,Bool.and_eq_true,List.all_eq_true] at hok
 have:=(hok.1.1.2 x hx).2
 rw [hl] at this
 simpa using this
theorem lcOk.kind {own N:List Str} {scope sco:Scope} (hok:lcOk own N scope sco = true):scope.kind = .function:=by
 simp only [lcOk,Bool.and_eq_true] at hok
 simpa using hok.1.2
theorem pe_lc {own:List Str} {scope:Scope} {target iter elt:Expr} {ifs:List Expr} {pos:Pos} {wi:TI} {un:TU} {tc:TT} {te:TE} (hc:X.calm = true) (hok:lcOk own X.N scope X.env.scope = true) (hi:PI X target iter wi)
  (hg:∀ C s H fp pins,PGo (cxC X own scope C s H fp pins) target own.length un) (ht:∀ C s H fp pins,PTs (cxC X own scope C s H fp pins) ifs tc) (he:∀ C s H fp pins,PE (cxC X own scope C s H fp pins) elt te)
  (hs:∀ x,foldedSetIterable iter X.env x = pure x:=by intro _; rfl):PE X (.ListComp elt [⟨target,iter,ifs,0⟩] scope pos) (tLc wi un tc te):=by
 intro pins s σ H Q I h
 rw [eval_ListComp]
 refine wpAny_comprehension_free (use:=none) rfl hs (clo_of (lcOk.free hok I)) (lcOk.kind hok) (lcOk.names hok) ?_
 refine thn (hi pins s σ H _ I h) fun v s1 h1=>thn h1 fun itv s2 h2=>?_
 obtain ⟨it,fp,tn,J,H2,e,I2,T,st2,f2,q⟩:=h2
 subst e
 obtain ⟨W,w0,turn⟩:=q s2.heap.objs.size I2.fresh
 refine wpAny_newObj_type (hd:=by size_fits) ?_
 have I3:Inv X pins σ (upd H2 s2.heap.objs.size (.lst [])) { s2 with heap:=s2.heap.push { cls:=.type "list",data:=.seq ([]:List Value).toArray } }:=I2.lnew (its:=[]) (t':=s2.toks) .nil (Nat.zero_le _)
 have st3:tn 0 (s2.heap.push { cls:=.type "list",data:=.seq ([]:List Value).toArray }):=T.keep _ _ _ st2 fun b _ o e=>Heap.get?_push_of_some _ e
 have f3:∀ b∈fp,FpOk X pins (upd H2 s2.heap.objs.size (.lst [])) b:=fun b hb=>by
  obtain ⟨o,e,_⟩:=T.obj _ _ st2 b hb
  exact ⟨by rw [upd_ne (Nat.ne_of_lt (Heap.lt_size e))]; exact (f2 b hb).1,(f2 b hb).2⟩
 refine thn (run_block (iter:=iter) (pos:=pos) (R:=compPost (model X.prog X.w) X.A X.xe none (EP X pins σ Q) (.ref s2.heap.objs.size) (s2.heap.push { cls:=.type "list",data:=.seq ([]:List Value).toArray }).objs.size) hc hok hg ht he I3 T st3 f3 W w0 turn fun s' σ' H' J' q'=>?_) fun cenv s4 ⟨el,h4⟩=>?_
 ·obtain ⟨m,hn,_⟩:=J'.loc
  exact ⟨m,hn,fun h' hs'=>⟨.ref s2.heap.objs.size,H',inv_unblock I3 f3 J' hs',rfl,q'⟩⟩
 ·have el':cenv.locals = (s2.heap.push { cls:=.type "list",data:=.seq ([]:List Value).toArray }).objs.size:=el
  rw [← el'] at h4
  exact h4
end
end L2
end
section
set_option Elab.async false
set_option linter.all false
set_option maxRecDepth 100000
set_option maxHeartbeats 4000000
namespace L2
open PySem PySem.Spec PyProof.Rows
section
variable {X:Cx} {pins:List (Addr × Obj)} {σ:St} {H:Hp} {s:Shared}
end
end L2
end
section
set_option Elab.async false
set_option linter.all false
set_option maxRecDepth 100000
set_option maxHeartbeats 4000000
namespace L2
open PySem PySem.Spec PyProof.Rows
section
variable {X:Cx}
theorem ps_setLc {i:Nat} {y:Str} {py spos:Pos} {own:List Str} {scope:Scope} {target iter elt:Expr} {ifs:List Expr} {pos:Pos} {wi:TI} {un:TU} {tc:TT} {te:TE} (nd:X.N.Nodup) (hiN:X.N[i]? = some y) (hy:X.env.scope.names.lookup y = some .local)
  (hc:X.calm = true) (hok:lcOk own X.N scope X.env.scope = true) (hi:PI X target iter wi)
  (hg:∀ C s H fp pins,PGo (cxC X own scope C s H fp pins) target own.length un) (ht:∀ C s H fp pins,PTs (cxC X own scope C s H fp pins) ifs tc) (he:∀ C s H fp pins,PE (cxC X own scope C s H fp pins) elt te)
  (hs:∀ x,foldedSetIterable iter X.env x = pure x:=by intro _; rfl)
  (hsw:swapsWith (.ListComp elt [⟨target,iter,ifs,0⟩] scope pos) (some (.Name y py)) spos.line X.env = pure true:=by rfl) :
  PS X (.Assign [.Name y py] (.ListComp elt [⟨target,iter,ifs,0⟩] scope pos) spos) (tAsg (tLc wi un tc te) (gName i)):=by
 intro pins s σ H D I h
 rw [exec_Assign_Name_used _ _ _ _ hsw]
 refine wpAny_bind (wpAny_standAt (wpAny_bind ?_))
 show wpAny _ X.A (do let _ ← comprehension (.ListComp elt [⟨target,iter,ifs,0⟩] scope pos) scope X.env _ (newList []) false (eval iter X.env) (some (assign (.Name y py) X.env))) _ _ s
 refine wpAny_bind (wpAny_mono (wpAny_comprehension_free (use:=some (assign (.Name y py) X.env)) (Q:=fun _ s'=>SP X pins D .next s') rfl hs (clo_of (lcOk.free hok I)) (lcOk.kind hok) (lcOk.names hok) ?_) (fun _ s' hq=>wpAny_pure (wpAny_pure hq)) fun _ _ e=>e)
 refine thn (hi pins s σ H _ I h) fun v s1 h1=>thn h1 fun itv s2 h2=>?_
 obtain ⟨it,fp,tn,J,H2,e,I2,T,st2,f2,q⟩:=h2
 subst e
 obtain ⟨W,w0,turn⟩:=q s2.heap.objs.size I2.fresh
 refine wpAny_newObj_type (hd:=by size_fits) ?_
 have I3:Inv X pins σ (upd H2 s2.heap.objs.size (.lst [])) { s2 with heap:=s2.heap.push { cls:=.type "list",data:=.seq ([]:List Value).toArray } }:=I2.lnew (its:=[]) (t':=s2.toks) .nil (Nat.zero_le _)
 have st3:tn 0 (s2.heap.push { cls:=.type "list",data:=.seq ([]:List Value).toArray }):=T.keep _ _ _ st2 fun b _ o e=>Heap.get?_push_of_some _ e
 have f3:∀ b∈fp,FpOk X pins (upd H2 s2.heap.objs.size (.lst [])) b:=fun b hb=>by
  obtain ⟨o,e,_⟩:=T.obj _ _ st2 b hb
  exact ⟨by rw [upd_ne (Nat.ne_of_lt (Heap.lt_size e))]; exact (f2 b hb).1,(f2 b hb).2⟩
 generalize hS:({ s2 with heap:=s2.heap.push { cls:=.type "list",data:=.seq ([]:List Value).toArray } }:Shared) = s3 at I3 st3
 have st3':tn 0 s3.heap:=by rw [← hS]; exact st3
 refine thn (run_block (iter:=iter) (pos:=pos) (acc:=s2.heap.objs.size) (Q:=fun x H1=>gName i x σ H1 D.nx) (R:=compPost (model X.prog X.w) X.A X.xe (some (assign (.Name y py) X.env)) (fun _ s'=>SP X pins D .next s') (.ref s2.heap.objs.size) s3.heap.objs.size) hc hok hg ht he I3 T st3' f3 W w0 turn fun s' σ' H' J' q'=>?_) fun cenv s4 ⟨el,h4⟩=>?_
 ·have I4:Inv X pins σ H' s':=inv_unblock I3 f3 J' (h':=s'.heap) (.refl ..)
  obtain ⟨m,⟨oC,es,ep,hoC,hdC,hrC⟩,_⟩:=J'.loc
  have hCL:s3.heap.objs.size≠X.env.locals:=Nat.ne_of_gt I3.lt
  have hfs:s3.heap.objs.size ∉ X.fs:=I3.nofs (Nat.le_refl _)
  have hCc:∀ x c,X.env.cells.lookup x = some c→c≠s3.heap.objs.size:=fun x c e=>by
   obtain ⟨v,z⟩:=I3.cell x c e
   exact Nat.ne_of_lt z.lt
  have hCp:∀ p∈X.pn ++ pins,p.1≠s3.heap.objs.size:=fun p hp=>Nat.ne_of_lt (Heap.lt_size (I3.pin p hp).1)
  have I5:Inv X (pins ++ [(s3.heap.objs.size,oC)]) σ H' s':=I4.pins_of fun p hp=>(List.mem_append.mp hp).elim (fun z=>I4.pin p (List.mem_append_right _ z)) fun z=>by
   have z':p = (s3.heap.objs.size,oC):=by simpa using z
   subst z'
   exact ⟨hoC,J'.free,hCL,hfs,fun v=>by rw [hdC]; intro z; cases z⟩
  show wpAny _ X.A (assign (.Name y py) X.env (.ref s2.heap.objs.size)) _ _ s'
  refine wpAny_assign_Name (store_ok I5 nd hiN (.inl hy) (v:=.ref s2.heap.objs.size) rfl (fun s6 I6=>?_) (.inr hy))
  have hp:=I6.pin (s3.heap.objs.size,oC) (List.mem_append_right _ (List.mem_append_right _ (by simp)))
  refine ⟨m,⟨oC,es,ep,hp.1,hdC,hrC⟩,fun h' hs'=>?_⟩
  exact ⟨_,H',I6.unpinned.turned (h':=h') (t':=s6.toks) (it:=s3.heap.objs.size) (fun b o hb e=>(hs'.2 b hb).trans e) hp.2.1 hCL (.inr I3.sz) hCc hCp,q'⟩
 ·rw [← el] at h4
  exact h4
end
noncomputable def Its (x:Str):It:=⟨fun i _=>i < x.cps.size,fun i H v H'=>H' = H∧∃ c,x.cps[i]? = some c∧v = .str ⟨#[c]⟩,fun i _=>x.cps.size≤i⟩
theorem Heap.IsStrIter.at' {h h':Heap} {a ty x t i} (y:h.IsStrIter a ty x t i) (e:∀ o,h.get? a = some o→h'.get? a = some o):h'.IsStrIter a ty x t i:=let ⟨o,ho,r⟩:=y; ⟨o,e _ ho,r⟩
theorem turn_str {P:Program} {w:World} {K:PySem.W.Frag} {tg:Expr} (it:Addr) (x:Str) (t:Tok) (ty:String) (hty:ty = "str_ascii_iterator" ∨ ty = "str_iterator"):Turn P w K tg (Its x) [it] it (fun i h=>h.IsStrIter it ty x t i) where
 mem:=by simp
 obj:=fun i h st b hb=>by
  have e:b = it:=by simpa using hb
  subst e
  obtain ⟨o,e,c,d⟩:=st
  exact ⟨o,e,fun v z=>by rw [d] at z; cases z⟩
 keep:=fun i h h' st k=>Heap.IsStrIter.at' st fun o e=>k it (by simp) o e
 item:=by
  intro X hP hw hK hc i pins s σ H E I hf st hg
  subst hP hw hK
  have hg':i < x.cps.size:=hg
  have hx:x.cps[i]? = some x.cps[i]:=by simp [hg']
  obtain ⟨f0,f1,f2,f3,f4,f5⟩:=hf it (by simp)
  have fin:∀ h',h'.IsStrIter it ty x t (i + 1)→Heap.SameBut it s.heap h'→∃ u,some (Value.str ⟨#[x.cps[i]]⟩ s.toks) = some u ∧
    wpAny (model X.prog X.w) X.A (letOwnedTupleGo tg (.ref it) u) (fun _ s2=>∃ y H',Inv X pins σ H' s2∧RelV y u∧(Its x).yld i H y H'∧s2.heap.IsStrIter it ty x t (i + 1)∧∀ b∈[it],H' b = none) E { s with heap:=h',toks:=s.toks + 1 }:=fun h' st' sb=>by
   have I1:Inv X pins σ H { s with heap:=h',toks:=s.toks + 1 }:=I.turned (fun b o hb e=>(sb.2 b hb).trans e) f0 f1 f3 f4 f5
   obtain ⟨o,e,c,d⟩:=id st'
   exact ⟨_,rfl,go_of (s:={ s with heap:=h',toks:=s.toks + 1 }) e c d (by rcases hty with rfl | rfl <;> decide) ⟨.str ⟨#[x.cps[i]]⟩,H,I1,⟨_,rfl⟩,⟨rfl,_,hx,rfl⟩,st',fun b hb=>(hf b hb).1⟩⟩
  rcases hty with rfl | rfl
  ·exact wpAny_pyNext_ascii_item st hx fin
  ·exact wpAny_pyNext_wide_item st hx fin
 done:=by
  intro X hP hw hK hc i pins s σ H E I hf st hg
  subst hP hw hK
  have hg':x.cps.size≤i:=hg
  have hx:x.cps[i]? = none:=by simp [hg']
  obtain ⟨f0,f1,f2,f3,f4,f5⟩:=hf it (by simp)
  rcases hty with rfl | rfl
  ·exact wpAny_pyNext_ascii_end (I.ok.hd hc) st hx fun h' eb=>⟨rfl,I.turned (t':=s.toks) (fun b o hb e=>eb b o hb e) f0 f1 f3 f4 f5⟩
  ·exact wpAny_pyNext_wide_end (I.ok.hd hc) st hx fun h' eb=>⟨rfl,I.turned (t':=s.toks) (fun b o hb e=>eb b o hb e) f0 f1 f3 f4 f5⟩
 self:=fun _ _ _ _ _ st h=>by
  rcases hty with rfl | rfl
  ·exact wpAny_pyIter_striter_ascii st h
  ·exact wpAny_pyIter_striter_wide st h
section
variable {X:Cx} {tg:Expr}
noncomputable def iStr (tl:TE):TI:=fun σ H R=>tl σ H fun x H1=>∃ z,x = .str z∧R (Its z) H1
theorem pi_str {l:Expr} {tl:TE} (hl:PE X l tl):PI X tg l (iStr tl):=by
 intro pins s σ H R I h
 refine thn (hl pins s σ H _ I h) fun v s1 yy=>?_
 obtain ⟨x,H1,I1,r1,q1⟩:=yy
 obtain ⟨z,e,q⟩:=q1
 subst e
 obtain ⟨t,rfl⟩:=r1
 have fin:∀ ty:String,(ty = "str_ascii_iterator" ∨ ty = "str_iterator")→PIE X pins σ tg R (.ref s1.heap.objs.size) { s1 with heap:=s1.heap.push { cls:=.type ty,data:=.fields #[.str z t,.int 0 0] } }:=fun ty hty=>by
  have I2:Inv X pins σ H1 { s1 with heap:=s1.heap.push { cls:=.type ty,data:=.fields #[.str z t,.int 0 0] } }:=I1.kept (t':=s1.toks) fun b o e=>Heap.get?_push_of_some _ e
  refine ⟨_,[s1.heap.objs.size],_,Its z,H1,rfl,I2,turn_str _ z t ty hty,⟨_,Heap.get?_push_size _ rfl,rfl,rfl⟩,fun b hb=>?_,q⟩
  have e:b = s1.heap.objs.size:=by simpa using hb
  subst e
  exact I1.fpOk (Nat.le_refl _) (I1.hok.fresh (Nat.le_refl _))
 by_cases ha:z.cps.all (· < 128) = true
 ·exact wpAny_pyIter_ascii ha (fin _ (.inl rfl))
 ·exact wpAny_pyIter_wide (by simpa using ha) (fin _ (.inr rfl))
end
section
variable {X:Cx}
noncomputable def boolsV (bs:List Bool):List V:=bs.map V.bl
theorem call_all (hc:X.calm = true):CallR X (.builtin "all") (fun xs H Q=>∃ p bs,xs = [.ref p]∧SqL X.K H p (boolsV bs)∧Q (.bl (bs.all id)) H):=by
 intro pins s σ H xs us Q I r h
 obtain ⟨p,bs,rfl,hq,q⟩:=h
 obtain ⟨u,rfl,ru⟩:=r.one
 cases ru
 obtain ⟨its,rv,pl,hz⟩:=I.list hq
 have hl:=rv.length
 refine call_all_walk (wpAny_pyIter_list pl.isList ?_)
 have hne:p≠s.heap.objs.size:=fun z=>by
  obtain ⟨o,e,_⟩:=pl.isList
  exact absurd (Heap.lt_size e) (by rw [z]; exact Nat.lt_irrefl _)
 have hlen:its.toArray.size = bs.length:=by rw [List.size_toArray,← hl]; simp [boolsV]
 refine ⟨_,_,_,_,_,_,fun i=>(bs[i]?).getD true,rfl,Walks.list (by show X.A.handled = none; exact I.ok.hd hc) s.heap.objs.size p hne its.toArray,⟨⟨_,Heap.get?_push_size _ rfl,rfl,rfl⟩,?_⟩,?_,?_⟩
 ·obtain ⟨o,e,r⟩:=pl.isList
  exact ⟨o,Heap.get?_push_of_some _ e,r⟩
 ·intro i v s' Q' E' hv hq'
  have hi:i < its.length:=by
   by_cases hi:i < its.length
   ·exact hi
   ·have:its.toArray[i]? = none:=by simp; lia
    rw [this] at hv; cases hv
  have hb:i < bs.length:=by simp [boolsV] at hl; lia
  obtain ⟨u,hu,ru⟩:=rv.get (i:=i) (x:=.bl bs[i]) (by simp [boolsV,hb])
  have e:v = .bool bs[i]:=by
   have:its.toArray[i]? = some u:=by simpa using hu
   rw [this] at hv
   cases hv
   exact ru
  subst e
  dsimp only at hq'
  rw [show (bs[i]?).getD true = bs[i] by simp [hb]] at hq'
  exact wpAny_truthy_bool hq'
 ·intro h' tk hk
  have I1:Inv X pins σ H { s with heap:=h',toks:=tk }:=I.kept fun b o e=>hk b o (fun z=>by
   have z':b = s.heap.objs.size:=by simpa using z
   exact absurd (Heap.lt_size e) (by rw [z']; exact Nat.lt_irrefl _)) (Heap.get?_push_of_some _ e)
  refine ⟨.bl _,H,I1,rfl,?_⟩
  have e:(List.range its.toArray.size).all (fun i=>(bs[i]?).getD true) = bs.all id:=by
   rw [hlen,Bool.eq_iff_iff]
   simp only [List.all_eq_true,List.mem_range,id_eq]
   constructor
   ·intro h b hb
    obtain ⟨i,hi,rfl⟩:=List.mem_iff_getElem.mp hb
    have:=h i hi
    simpa [hi] using this
   ·intro h i hi
    simpa [hi] using h bs[i] (List.getElem_mem hi)
  rw [e]
  exact q
theorem call_any (hc:X.calm = true):CallR X (.builtin "any") (fun xs H Q=>∃ p bs,xs = [.ref p]∧SqL X.K H p (boolsV bs)∧Q (.bl (bs.any id)) H):=by
 intro pins s σ H xs us Q I r h
 obtain ⟨p,bs,rfl,hq,q⟩:=h
 obtain ⟨u,rfl,ru⟩:=r.one
 cases ru
 obtain ⟨its,rv,pl,hz⟩:=I.list hq
 have hl:=rv.length
 refine call_any_walk (wpAny_pyIter_list pl.isList ?_)
 have hne:p≠s.heap.objs.size:=fun z=>by
  obtain ⟨o,e,_⟩:=pl.isList
  exact absurd (Heap.lt_size e) (by rw [z]; exact Nat.lt_irrefl _)
 have hlen:its.toArray.size = bs.length:=by rw [List.size_toArray,← hl]; simp [boolsV]
 refine ⟨_,_,_,_,_,_,fun i=>(bs[i]?).getD false,rfl,Walks.list (by show X.A.handled = none; exact I.ok.hd hc) s.heap.objs.size p hne its.toArray,⟨⟨_,Heap.get?_push_size _ rfl,rfl,rfl⟩,?_⟩,?_,?_⟩
 ·obtain ⟨o,e,r⟩:=pl.isList
  exact ⟨o,Heap.get?_push_of_some _ e,r⟩
 ·intro i v s' Q' E' hv hq'
  have hi:i < its.length:=by
   by_cases hi:i < its.length
   ·exact hi
   ·have:its.toArray[i]? = none:=by simp; lia
    rw [this] at hv; cases hv
  have hb:i < bs.length:=by simp [boolsV] at hl; lia
  obtain ⟨u,hu,ru⟩:=rv.get (i:=i) (x:=.bl bs[i]) (by simp [boolsV,hb])
  have e:v = .bool bs[i]:=by
   have:its.toArray[i]? = some u:=by simpa using hu
   rw [this] at hv
   cases hv
   exact ru
  subst e
  dsimp only at hq'
  rw [show (bs[i]?).getD false = bs[i] by simp [hb]] at hq'
  exact wpAny_truthy_bool hq'
 ·intro h' tk hk
  have I1:Inv X pins σ H { s with heap:=h',toks:=tk }:=I.kept fun b o e=>hk b o (fun z=>by
   have z':b = s.heap.objs.size:=by simpa using z
   exact absurd (Heap.lt_size e) (by rw [z']; exact Nat.lt_irrefl _)) (Heap.get?_push_of_some _ e)
  refine ⟨.bl _,H,I1,rfl,?_⟩
  have e:(List.range its.toArray.size).any (fun i=>(bs[i]?).getD false) = bs.any id:=by
   rw [hlen,Bool.eq_iff_iff]
   simp only [List.any_eq_true,List.mem_range,id_eq]
   constructor
   ·rintro ⟨i,hi,h⟩
    exact ⟨bs[i],List.getElem_mem hi,by simpa [hi] using h⟩
   ·rintro ⟨b,hb,h⟩
    obtain ⟨i,hi,rfl⟩:=List.mem_iff_getElem.mp hb
    exact ⟨i,hi,by simpa [hi] using h⟩
  rw [e]
  exact q
end
section
variable {X:Cx} {e:Expr} {te:TE} {p q pos:Pos} {x:Str} {T:String}
noncomputable def typV (H:Hp):V→Option String
 | .non=>some "NoneType"
 | .bl _=>some "bool"
 | .int _=>some "int"
 | .str _=>some "str"
 | .ref a=>match H a with
  | some (.lst _)=>some "list"
  | some (.tup _)=>some "tuple"
  | _=>none
 | _=>none
theorem typV_of {K:PySem.W.Frag} {H:Hp} {v:V} {t:String} (h:typV H v = some t):TyOf K H v (.type t):=by
 cases v with
 | non=>cases h; exact .non
 | bl b=>cases h; exact .bl b
 | int i=>cases h; exact .int i
 | str z=>cases h; exact .str z
 | ref a =>
  unfold typV at h
  dsimp only at h
  split at h
  ·rename_i e; cases h; exact .lst e
  ·rename_i e; cases h; exact .tup e
  ·cases h
 | _=>cases h
end
end L2
end
section
set_option Elab.async false
set_option linter.all false
set_option maxRecDepth 100000
set_option maxHeartbeats 4000000
namespace L2
open PySem PySem.Spec PyProof.Rows
inductive D where
 | non | bl (b:Bool) | int (i:Int) | str (x:Str) | lst (ds:List D) | tup (ds:List D)
inductive RepA (N:Addr→Prop) (H:Hp):V→D→Prop where
 | non:RepA N H .non .non
 | bl (b:Bool):RepA N H (.bl b) (.bl b)
 | int (i:Int):RepA N H (.int i) (.int i)
 | str (x:Str) (hx:x.length≤sizeLine):RepA N H (.str x) (.str x)
 | lst {a:Addr} {vs:List V} {ds:List D} (h:H a = some (.lst vs)) (hz:vs.length≤sizeLine) (hn:¬ N a) (hl:vs.length = ds.length) (hr:∀ (i:Nat) v d,vs[i]? = some v→ds[i]? = some d→RepA N H v d):RepA N H (.ref a) (.lst ds)
 | tup {a:Addr} {vs:List V} {ds:List D} (h:H a = some (.tup vs)) (hz:vs.length≤sizeLine) (hl:vs.length = ds.length) (hr:∀ (i:Nat) v d,vs[i]? = some v→ds[i]? = some d→RepA N H v d):RepA N H (.ref a) (.tup ds)
noncomputable abbrev Rep:=RepA fun _=>False
theorem RepA.weak {N N':Addr→Prop} {H:Hp} (hn:∀ a,N' a→N a) {v:V} {d:D} (r:RepA N H v d):RepA N' H v d:=by
 induction r with
 | non=>exact .non
 | bl b=>exact .bl b
 | int i=>exact .int i
 | str x hx=>exact .str x hx
 | lst h hz n hl _ ih=>exact .lst h hz (fun z=>n (hn _ z)) hl ih
 | tup h hz hl _ ih=>exact .tup h hz hl ih
theorem RepA.rep {N:Addr→Prop} {H:Hp} {v:V} {d:D} (r:RepA N H v d):Rep H v d:=r.weak fun _ z=>z.elim
theorem RepA.inj {N N':Addr→Prop} {H:Hp} {v:V} {d e:D} (r:RepA N H v d) (q:RepA N' H v e):d = e:=by
 induction r generalizing e with
 | non=>cases q; rfl
 | bl b=>cases q; rfl
 | int i=>cases q; rfl
 | str x=>cases q; rfl
 | lst h hz hn hl hr ih =>
  cases q with
  | lst h' hz' hn' hl' hr' =>
   rw [h] at h'; cases h'
   congr 1
   refine List.ext_getElem? fun i=>?_
   rename_i vs ds es
   by_cases hi:i < vs.length
   ·have e1:ds[i]? = some ds[i]:=by simp [← hl,hi]
    have e2:es[i]? = some es[i]:=by simp [← hl',hi]
    rw [e1,e2,ih i vs[i] ds[i] (by simp [hi]) e1 (hr' i vs[i] es[i] (by simp [hi]) e2)]
   ·rw [List.getElem?_eq_none (by omega),List.getElem?_eq_none (by omega)]
  | tup h'=>rw [h] at h'; cases h'
 | tup h hz hl hr ih =>
  cases q with
  | tup h' hz' hl' hr' =>
   rw [h] at h'; cases h'
   congr 1
   refine List.ext_getElem? fun i=>?_
   rename_i vs ds es
   by_cases hi:i < vs.length
   ·have e1:ds[i]? = some ds[i]:=by simp [← hl,hi]
    have e2:es[i]? = some es[i]:=by simp [← hl',hi]
    rw [e1,e2,ih i vs[i] ds[i] (by simp [hi]) e1 (hr' i vs[i] es[i] (by simp [hi]) e2)]
   ·rw [List.getElem?_eq_none (by omega),List.getElem?_eq_none (by omega)]
  | lst h'=>rw [h] at h'; cases h'
end L2
end
section
set_option Elab.async false
set_option linter.all false
set_option maxRecDepth 100000
set_option maxHeartbeats 4000000
namespace L2
open PySem PySem.Spec PyProof.Rows
structure Def (P:Program) (w:World) (K:PySem.W.Frag) (mg:Str→Option Value) (base:Heap) (CX:CXT) (k:Nat) (x:Str) (ps:List Str) (sp:Sp):Prop where
 ex:∃ (f:Addr) (fd:FuncData),mg x = some (.ref f)∧PySem.W.keepIn K (.ref f) = true∧Binds K fd ps []∧FnOk P w K mg base CX k f fd ps sp
section
variable {X:Cx}
theorem pe_def {CX:CXT} {k j:Nat} {x:Str} {ps:List Str} {sp:Sp} {E:XK} {p pos:Pos} {e:Expr} {es:List Expr} {t:TA} (D:Def X.prog X.w X.K X.mg X.base CX k x ps sp) (hr:Room j X.A) (hkj:k≤j) (hx:Passes CX X E) (ha:PA X (e :: es) t)
  (hg:Gl X x:=by rfl) (hdb:(x == ("__debug__" : Str)) = false:=by decide +kernel)
  (he:starEach (e :: es) X.env = (false,eval e X.env) :: starEach es X.env:=by rfl) (hpl:(backTo pos (starEach es X.env)).any (·.1) = false:=by rfl):PE X (.Call (.Name x p) (e :: es) [] pos) (tCall sp [] E t):=by
 obtain ⟨f,fd,a,b,c,d⟩:=D.ex
 exact pe_call d (hr.mono hkj) hg a b c .nil hx ha hdb he hpl
end
noncomputable def isI (t T:String):Bool:=t == T || (t == "bool" && T == "int")
theorem kit_plain {K:PySem.W.Frag} {t T:String} (ht:t∈["NoneType","bool","int","str","list","tuple"]) (hT:T∈["int","bool","tuple","list","str"]):PySem.W.kitOne K (.type t) (.type T) = some (isI t T):=by
 simp only [List.mem_cons,List.not_mem_nil,or_false] at ht hT
 rcases ht with rfl | rfl | rfl | rfl | rfl | rfl <;> rcases hT with rfl | rfl | rfl | rfl | rfl <;>
  (simp only [PySem.W.kitOne,PySem.W.kitCls,PySem.W.subIn]; decide +kernel)
theorem typV_mem {H:Hp} {v:V} {t:String} (h:typV H v = some t):t∈["NoneType","bool","int","str","list","tuple"]:=by
 cases v with
 | non=>cases h; simp
 | bl b=>cases h; simp
 | int i=>cases h; simp
 | str z=>cases h; simp
 | ref a =>
  unfold typV at h
  dsimp only at h
  split at h
  ·cases h; simp
  ·cases h; simp
  ·cases h
 | _=>cases h
section
variable {X:Cx}
theorem call_isi:CallR X (.builtin "isinstance") (fun xs H Q=>∃ x t T,xs = [x,.ty T]∧typV H x = some t∧T∈["int","bool","tuple","list","str"]∧Q (.bl (isI t T)) H):=by
 intro pins s σ H xs us Q I r h
 obtain ⟨x,t,T,rfl,ht,hT,q⟩:=h
 obtain ⟨u,v,rfl,ru,rv⟩:=r.two
 cases rv
 exact isinst_ok I ru (typV_of ht) (kit_plain (typV_mem ht) hT) fun tk=>⟨.bl _,H,I.tok tk,rfl,q⟩
end
noncomputable def typD:D→String
 | .non => "NoneType"
 | .bl _ => "bool"
 | .int _ => "int"
 | .str _ => "str"
 | .lst _ => "list"
 | .tup _ => "tuple"
theorem RepA.typ {N:Addr→Prop} {H:Hp} {v:V} {d:D} (r:RepA N H v d):typV H v = some (typD d):=by
 cases r with
 | non=>rfl
 | bl b=>rfl
 | int i=>rfl
 | str x=>rfl
 | lst h=>simp only [typV,h,typD]
 | tup h=>simp only [typV,h,typD]
mutual
noncomputable def eqD:D→D→Bool
 | .non,.non=>true
 | .bl a,.bl b=>a == b
 | .bl a,.int b=>(if a then 1 else 0) == b
 | .int a,.bl b=>a == (if b then 1 else 0)
 | .int a,.int b=>a == b
 | .str a,.str b=>a == b
 | .lst xs,.lst ys=>eqDs xs ys
 | .tup xs,.tup ys=>eqDs xs ys
 | _,_=>false
noncomputable def eqDs:List D→List D→Bool
 | [],[]=>true
 | x :: xs,y :: ys=>eqD x y && eqDs xs ys
 | _,_=>false
end
theorem eqDs_len:∀ {xs ys:List D},eqDs xs ys = true→xs.length = ys.length
 | [],[],_=>rfl
 | [],_ :: _,h=>by simp [eqDs] at h
 | _ :: _,[],h=>by simp [eqDs] at h
 | x :: xs,y :: ys,h=>by
  simp only [eqDs,Bool.and_eq_true] at h
  simp [eqDs_len h.2]
theorem eqDs_all:∀ {xs ys:List D},xs.length = ys.length→eqDs xs ys = (List.range xs.length).all fun i=>eqD (xs.getD i .non) (ys.getD i .non)
 | [],[],_=>by simp [eqDs]
 | x :: xs,y :: ys,h=>by
  have ih:=eqDs_all (xs:=xs) (ys:=ys) (by simpa using h)
  rw [eqDs,ih,List.length_cons,List.range_succ_eq_map,List.all_cons,List.all_map]
  rfl
mutual
theorem eqD_refl:∀ d,eqD d d = true
 | .non=>rfl
 | .bl a=>by simp [eqD]
 | .int a=>by simp [eqD]
 | .str a=>by simp [eqD]
 | .lst xs=>by rw [eqD]; exact eqDs_refl xs
 | .tup xs=>by rw [eqD]; exact eqDs_refl xs
theorem eqDs_refl:∀ ds,eqDs ds ds = true
 | []=>by rw [eqDs]
 | d :: ds=>by rw [eqDs,eqD_refl d,eqDs_refl ds]; rfl
end
inductive Sh:Nat→D→Prop where
 | non {n:Nat}:Sh n .non
 | bl {n:Nat} (b:Bool):Sh n (.bl b)
 | int {n:Nat} (i:Int):Sh n (.int i)
 | str {n:Nat} (x:Str):Sh n (.str x)
 | lst {n:Nat} {ds:List D} (h:∀ d∈ds,Sh n d):Sh (n + 1) (.lst ds)
 | tup {n:Nat} {ds:List D} (h:∀ d∈ds,Sh n d):Sh (n + 1) (.tup ds)
section
variable {P:Program} {w:World} {H:Hp} {s:Shared} {N N':Addr→Prop}
theorem rep_list (hok:HOk P w H s.heap) {a:Addr} {vs:List V} (h:H a = some (.lst vs)):∃ its:List Value,Vals vs its∧s.heap.IsList a its.toArray:=by
 obtain ⟨z,its,n,r,e⟩:=hok a _ h
 exact ⟨its,r,_,e,rfl,_,rfl⟩
theorem rep_tup (hok:HOk P w H s.heap) {a:Addr} {vs:List V} (h:H a = some (.tup vs)):∃ its:List Value,Vals vs its∧s.heap.IsTuple a its.toArray:=by
 obtain ⟨z,its,r,p⟩:=hok a _ h
 exact ⟨its,r,p⟩
theorem items_eq {A:Around} {vs vs':List V} {its its':List Value} {ds es:List D} (r:Vals vs its) (r':Vals vs' its') (hl:vs.length = ds.length) (hl':vs'.length = es.length)
  (f:∀ (i:Nat) v d v' e u u',vs[i]? = some v→ds[i]? = some d→vs'[i]? = some v'→es[i]? = some e→RelV v u→RelV v' u'→SeqAt.EqAt A s u u' (eqD d e)) :
  ∀ j (h1:j < its.toArray.size) (h2:j < its'.toArray.size),SeqAt.EqAt A s its.toArray[j] its'.toArray[j] (eqD (ds.getD j .non) (es.getD j .non)):=fun j h1 h2=>by
 have e1:=r.length
 have e2:=r'.length
 have h1':j < its.length:=by simpa using h1
 have h2':j < its'.length:=by simpa using h2
 have b1:j < vs.length:=by lia
 have b2:j < vs'.length:=by lia
 have b3:j < ds.length:=by lia
 have b4:j < es.length:=by lia
 obtain ⟨u,hu,ru⟩:=r.get (i:=j) (x:=vs[j]) (by simp)
 obtain ⟨u',hu',ru'⟩:=r'.get (i:=j) (x:=vs'[j]) (by simp)
 have q:=f j _ (ds[j]) _ (es[j]) u u' (by simp) (by simp) (by simp) (by simp) ru ru'
 have g1:its.toArray[j] = u:=by
  have:its[j]? = some (its[j]):=by simp [h1']
  rw [this] at hu
  simpa using hu
 have g2:its'.toArray[j] = u':=by
  have:its'[j]? = some (its'[j]):=by simp [h2']
  rw [this] at hu'
  simpa using hu'
 rw [g1,g2]
 have g3:ds.getD j .non = ds[j]:=by simp [List.getD,b3]
 have g4:es.getD j .non = es[j]:=by simp [List.getD,b4]
 rw [g3,g4]
 exact q
theorem lt0 {a n c:Nat} (h:a + n < c):a < c:=by lia
theorem lt1 {a n c:Nat} (h:a + (n + 1) < c):a + 1 + n < c:=by lia
theorem eqAt_D (hok:HOk P w H s.heap) {x:V} {d:D} (r:RepA N H x d):∀ {A:Around} {n:Nat} {y:V} {e:D} {v u:Value},RepA N' H y e→RelV x v→RelV y u→Sh n d→A.units + n < cLine→SeqAt.EqAt A s v u (eqD d e):=by
 induction r with
 | non =>
  intro A n y e v u q rx ry _ hu
  cases rx
  cases q with
  | non=>cases ry; exact SeqAt.EqAt.same _
  | bl b=>cases ry; exact SeqAt.EqAt.none_bool b
  | int b=>obtain ⟨t,rfl⟩:=ry; exact SeqAt.EqAt.none_int b t
  | str b=>obtain ⟨t,rfl⟩:=ry; exact SeqAt.EqAt.none_str b t
  | lst h=>cases ry; obtain ⟨its,_,hl⟩:=rep_list hok h; exact SeqAt.EqAt.none_list hl (lt0 hu)
  | tup h=>cases ry; obtain ⟨its,_,hl⟩:=rep_tup hok h; exact SeqAt.EqAt.none_tuple hl (lt0 hu)
 | bl a =>
  intro A n y e v u q rx ry _ hu
  cases rx
  cases q with
  | non=>cases ry; exact SeqAt.EqAt.bool_none a
  | bl b=>cases ry; exact SeqAt.EqAt.bool_bool a b
  | int b=>obtain ⟨t,rfl⟩:=ry; exact SeqAt.EqAt.bool_int a b t
  | str b=>obtain ⟨t,rfl⟩:=ry; exact SeqAt.EqAt.bool_str a b t
  | lst h=>cases ry; obtain ⟨its,_,hl⟩:=rep_list hok h; exact SeqAt.EqAt.bool_list a hl (lt0 hu)
  | tup h=>cases ry; obtain ⟨its,_,hl⟩:=rep_tup hok h; exact SeqAt.EqAt.bool_tuple a hl (lt0 hu)
 | int a =>
  intro A n y e v u q rx ry _ hu
  obtain ⟨t',rfl⟩:=rx
  cases q with
  | non=>cases ry; exact SeqAt.EqAt.int_none a t'
  | bl b=>cases ry; exact SeqAt.EqAt.int_bool a t' b
  | int b=>obtain ⟨t,rfl⟩:=ry; exact SeqAt.EqAt.int_int a t' b t
  | str b=>obtain ⟨t,rfl⟩:=ry; exact SeqAt.EqAt.int_str a t' b t
  | lst h=>cases ry; obtain ⟨its,_,hl⟩:=rep_list hok h; exact SeqAt.EqAt.int_list a t' hl (lt0 hu)
  | tup h=>cases ry; obtain ⟨its,_,hl⟩:=rep_tup hok h; exact SeqAt.EqAt.int_tuple a t' hl (lt0 hu)
 | str a =>
  intro A n y e v u q rx ry _ hu
  obtain ⟨t',rfl⟩:=rx
  cases q with
  | non=>cases ry; exact SeqAt.EqAt.str_none a t'
  | bl b=>cases ry; exact SeqAt.EqAt.str_bool a t' b
  | int b=>obtain ⟨t,rfl⟩:=ry; exact SeqAt.EqAt.str_int a t' b t
  | str b=>obtain ⟨t,rfl⟩:=ry; exact SeqAt.EqAt.str_str a t' b t
  | lst h=>cases ry; obtain ⟨its,_,hl⟩:=rep_list hok h; exact SeqAt.EqAt.str_list a t' hl (lt0 hu)
  | tup h=>cases ry; obtain ⟨its,_,hl⟩:=rep_tup hok h; exact SeqAt.EqAt.str_tuple a t' hl (lt0 hu)
 | @lst a vs ds h hz hn hl hr ih =>
  intro A n y e v u q rx ry hs hu
  cases rx
  obtain ⟨its,rv,hil⟩:=rep_list hok h
  cases hs with
  | @lst n _ hs =>
   cases q with
   | non=>cases ry; exact SeqAt.EqAt.list_none hil (lt0 hu)
   | bl b=>cases ry; exact SeqAt.EqAt.list_bool b hil (lt0 hu)
   | int b=>obtain ⟨t,rfl⟩:=ry; exact SeqAt.EqAt.list_int b t hil (lt0 hu)
   | str b=>obtain ⟨t,rfl⟩:=ry; exact SeqAt.EqAt.list_str b t hil (lt0 hu)
   | @lst a' vs' es h' hz' hn' hl' hr' =>
    cases ry
    by_cases hab:a = a'
    ·subst hab
     have e:=(RepA.lst h hz hn hl hr).inj (RepA.lst h' hz' hn' hl' hr')
     cases e
     rw [eqD_refl]
     exact SeqAt.EqAt.same _
    ·obtain ⟨its',rv',hil'⟩:=rep_list hok h'
     have l1:=rv.length
     have l2:=rv'.length
     refine SeqAt.EqAt.of_refs hab ?_
     rw [eqD]
     by_cases hlen:ds.length = es.length
     ·rw [eqDs_all hlen,show ds.length = its.toArray.size by simp; lia]
      refine SeqAt.RcAt.lists hil hil' (by simp; lia) (lt0 hu) (items_eq rv rv' hl hl' fun i v d v' e u u' e1 e2 e3 e4 ru ru'=>?_)
      exact ih i v d e1 e2 (hr' i v' e e3 e4) ru ru' (hs d (List.mem_of_getElem? e2)) (lt1 hu)
     ·have:eqDs ds es = false:=by
       cases q:eqDs ds es with
       | false=>rfl
       | true=>exact absurd (eqDs_len q) hlen
      rw [this]
      exact SeqAt.RcAt.lists_lengths hil hil' (by simp; lia) (lt0 hu)
   | tup h' =>
    cases ry
    obtain ⟨its',_,hl'⟩:=rep_tup hok h'
    exact SeqAt.EqAt.list_tuple hil hl' (lt0 hu)
 | @tup a vs ds h hz hl hr ih =>
  intro A n y e v u q rx ry hs hu
  cases rx
  obtain ⟨its,rv,hil⟩:=rep_tup hok h
  cases hs with
  | @tup n _ hs =>
   cases q with
   | non=>cases ry; exact SeqAt.EqAt.tuple_none hil (lt0 hu)
   | bl b=>cases ry; exact SeqAt.EqAt.tuple_bool b hil (lt0 hu)
   | int b=>obtain ⟨t,rfl⟩:=ry; exact SeqAt.EqAt.tuple_int b t hil (lt0 hu)
   | str b=>obtain ⟨t,rfl⟩:=ry; exact SeqAt.EqAt.tuple_str b t hil (lt0 hu)
   | @tup a' vs' es h' hz' hl' hr' =>
    cases ry
    by_cases hab:a = a'
    ·subst hab
     have e:=(RepA.tup (N:=N) h hz hl hr).inj (RepA.tup h' hz' hl' hr')
     cases e
     rw [eqD_refl]
     exact SeqAt.EqAt.same _
    ·obtain ⟨its',rv',hil'⟩:=rep_tup hok h'
     have l1:=rv.length
     have l2:=rv'.length
     refine SeqAt.EqAt.of_refs hab ?_
     have q:=SeqAt.RcAt.tuples (A:=A) hil hil' (lt0 hu) (items_eq rv rv' hl hl' fun i v d v' e u u' e1 e2 e3 e4 ru ru'=>ih i v d e1 e2 (hr' i v' e e3 e4) ru ru' (hs d (List.mem_of_getElem? e2)) (lt1 hu))
     rw [eqD]
     by_cases hlen:ds.length = es.length
     ·have e1:(its.toArray.size == its'.toArray.size) = true:=by simp; lia
      have e2:min its.toArray.size its'.toArray.size = ds.length:=by simp; lia
      rw [e1,e2,Bool.and_true,← eqDs_all hlen] at q
      exact q
     ·have e1:(its.toArray.size == its'.toArray.size) = false:=by simp; lia
      have e3:eqDs ds es = false:=by
       cases q:eqDs ds es with
       | false=>rfl
       | true=>exact absurd (eqDs_len q) hlen
      rw [e1,Bool.and_false] at q
      rw [e3]
      exact q
   | lst h' =>
    cases ry
    obtain ⟨its',_,hl'⟩:=rep_list hok h'
    exact SeqAt.EqAt.tuple_list hil hl' (lt0 hu)
theorem rcAt_D (hok:HOk P w H s.heap) {A:Around} {n:Nat} {x y:V} {d e:D} {v u:Value} (r:RepA N H x d) (q:RepA N' H y e) (rx:RelV x v) (ry:RelV y u) (hs:Sh n d) (hu:A.units + n < cLine):SeqAt.RcAt A s v u (eqD d e):=by
 cases r with
 | non =>
  cases rx
  cases q with
  | non=>cases ry; exact SeqAt.RcAt.none_none
  | bl b=>cases ry; exact SeqAt.RcAt.none_bool b
  | int b=>obtain ⟨t,rfl⟩:=ry; exact SeqAt.RcAt.none_int b t
  | str b=>obtain ⟨t,rfl⟩:=ry; exact SeqAt.RcAt.none_str b t
  | lst h=>cases ry; obtain ⟨its,_,hl⟩:=rep_list hok h; exact SeqAt.RcAt.none_list hl (lt0 hu)
  | tup h=>cases ry; obtain ⟨its,_,hl⟩:=rep_tup hok h; exact SeqAt.RcAt.none_tuple hl (lt0 hu)
 | bl a =>
  cases rx
  cases q with
  | non=>cases ry; exact SeqAt.RcAt.bool_none a
  | bl b=>cases ry; exact SeqAt.RcAt.bool_bool a b
  | int b=>obtain ⟨t,rfl⟩:=ry; exact SeqAt.RcAt.bool_int a b t
  | str b=>obtain ⟨t,rfl⟩:=ry; exact SeqAt.RcAt.bool_str a b t
  | lst h=>cases ry; obtain ⟨its,_,hl⟩:=rep_list hok h; exact SeqAt.RcAt.bool_list a hl (lt0 hu)
  | tup h=>cases ry; obtain ⟨its,_,hl⟩:=rep_tup hok h; exact SeqAt.RcAt.bool_tuple a hl (lt0 hu)
 | int a =>
  obtain ⟨t',rfl⟩:=rx
  cases q with
  | non=>cases ry; exact SeqAt.RcAt.int_none a t'
  | bl b=>cases ry; exact SeqAt.RcAt.int_bool a t' b
  | int b=>obtain ⟨t,rfl⟩:=ry; exact SeqAt.RcAt.int_int a t' b t
  | str b=>obtain ⟨t,rfl⟩:=ry; exact SeqAt.RcAt.int_str a t' b t
  | lst h=>cases ry; obtain ⟨its,_,hl⟩:=rep_list hok h; exact SeqAt.RcAt.int_list a t' hl (lt0 hu)
  | tup h=>cases ry; obtain ⟨its,_,hl⟩:=rep_tup hok h; exact SeqAt.RcAt.int_tuple a t' hl (lt0 hu)
 | str a =>
  obtain ⟨t',rfl⟩:=rx
  cases q with
  | non=>cases ry; exact SeqAt.RcAt.str_none a t'
  | bl b=>cases ry; exact SeqAt.RcAt.str_bool a t' b
  | int b=>obtain ⟨t,rfl⟩:=ry; exact SeqAt.RcAt.str_int a t' b t
  | str b=>obtain ⟨t,rfl⟩:=ry; exact SeqAt.RcAt.str_str a t' b t
  | lst h=>cases ry; obtain ⟨its,_,hl⟩:=rep_list hok h; exact SeqAt.RcAt.str_list a t' hl (lt0 hu)
  | tup h=>cases ry; obtain ⟨its,_,hl⟩:=rep_tup hok h; exact SeqAt.RcAt.str_tuple a t' hl (lt0 hu)
 | @lst a vs ds h hz hn hl hr =>
  cases rx
  obtain ⟨its,rv,hil⟩:=rep_list hok h
  cases hs with
  | @lst n _ hs =>
   cases q with
   | non=>cases ry; exact SeqAt.RcAt.list_none hil (lt0 hu)
   | bl b=>cases ry; exact SeqAt.RcAt.list_bool b hil (lt0 hu)
   | int b=>obtain ⟨t,rfl⟩:=ry; exact SeqAt.RcAt.list_int b t hil (lt0 hu)
   | str b=>obtain ⟨t,rfl⟩:=ry; exact SeqAt.RcAt.list_str b t hil (lt0 hu)
   | @lst a' vs' es h' hz' hn' hl' hr' =>
    cases ry
    obtain ⟨its',rv',hil'⟩:=rep_list hok h'
    have l1:=rv.length
    have l2:=rv'.length
    rw [eqD]
    by_cases hlen:ds.length = es.length
    ·rw [eqDs_all hlen,show ds.length = its.toArray.size by simp; lia]
     refine SeqAt.RcAt.lists hil hil' (by simp; lia) (lt0 hu) (items_eq rv rv' hl hl' fun i v d v' e u u' e1 e2 e3 e4 ru ru'=>?_)
     exact eqAt_D hok (hr i v d e1 e2) (hr' i v' e e3 e4) ru ru' (hs d (List.mem_of_getElem? e2)) (lt1 hu)
    ·have:eqDs ds es = false:=by
      cases q:eqDs ds es with
      | false=>rfl
      | true=>exact absurd (eqDs_len q) hlen
     rw [this]
     exact SeqAt.RcAt.lists_lengths hil hil' (by simp; lia) (lt0 hu)
   | tup h' =>
    cases ry
    obtain ⟨its',_,hl'⟩:=rep_tup hok h'
    exact SeqAt.RcAt.list_tuple hil hl' (lt0 hu)
 | @tup a vs ds h hz hl hr =>
  cases rx
  obtain ⟨its,rv,hil⟩:=rep_tup hok h
  cases hs with
  | @tup n _ hs =>
   cases q with
   | non=>cases ry; exact SeqAt.RcAt.tuple_none hil (lt0 hu)
   | bl b=>cases ry; exact SeqAt.RcAt.tuple_bool b hil (lt0 hu)
   | int b=>obtain ⟨t,rfl⟩:=ry; exact SeqAt.RcAt.tuple_int b t hil (lt0 hu)
   | str b=>obtain ⟨t,rfl⟩:=ry; exact SeqAt.RcAt.tuple_str b t hil (lt0 hu)
   | @tup a' vs' es h' hz' hl' hr' =>
    cases ry
    obtain ⟨its',rv',hil'⟩:=rep_tup hok h'
    have l1:=rv.length
    have l2:=rv'.length
    have q:=SeqAt.RcAt.tuples (A:=A) hil hil' (lt0 hu) (items_eq rv rv' hl hl' fun i v d v' e u u' e1 e2 e3 e4 ru ru'=>eqAt_D hok (hr i v d e1 e2) (hr' i v' e e3 e4) ru ru' (hs d (List.mem_of_getElem? e2)) (lt1 hu))
    rw [eqD]
    by_cases hlen:ds.length = es.length
    ·have e1:(its.toArray.size == its'.toArray.size) = true:=by simp; lia
     have e2:min its.toArray.size its'.toArray.size = ds.length:=by simp; lia
     rw [e1,e2,Bool.and_true,← eqDs_all hlen] at q
     exact q
    ·have e1:(its.toArray.size == its'.toArray.size) = false:=by simp; lia
     have e3:eqDs ds es = false:=by
      cases q:eqDs ds es with
      | false=>rfl
      | true=>exact absurd (eqDs_len q) hlen
     rw [e1,Bool.and_false] at q
     rw [e3]
     exact q
   | lst h' =>
    cases ry
    obtain ⟨its',_,hl'⟩:=rep_list hok h'
    exact SeqAt.RcAt.tuple_list hil hl' (lt0 hu)
end
section
variable {X:Cx} {k:Nat}
theorem op_eqD (hr:Room k X.A):OpR X (compareOp .Eq) (fun x y H Q=>∃ d e,Rep H x d∧Rep H y e∧Sh 16 d∧Q (.bl (eqD d e)) H):=by
 intro pins s σ H x y v u Q I rx ry h
 obtain ⟨d,e,r1,r2,hs,q⟩:=h
 exact EqBoolInt.of_rc (rcAt_D I.hok r1 r2 rx ry hs (by have:=hr.units; lia)) ⟨.bl _,H,I,rfl,q⟩
end
end L2
end
section
set_option Elab.async false
set_option linter.all false
set_option maxRecDepth 100000
set_option maxHeartbeats 4000000
namespace L2
open PySem PySem.Spec PyProof.Rows
section
variable {P:Program} {w:World} {K:PySem.W.Frag} {mg:Str→Option Value} {base:Heap} {N:List Str} {qual:Str} {scope:Scope} {f:Addr} {cd:Value} {A:Around} {outer:List Env} {s:Shared} {H:Hp} {E E':XK}
end
section
variable {P:Program} {w:World} {K:PySem.W.Frag} {mg:Str→Option Value} {base:Heap} {N:List Str} {qual:Str} {scope:Scope} {f:Addr} {cd:Value} {A:Around} {outer:List Env} {s:Shared} {H:Hp} {E:XK}
end
end L2
end
section
set_option Elab.async false
set_option linter.all false
set_option maxRecDepth 100000
set_option maxHeartbeats 4000000
namespace L2
open PySem PySem.Spec PyProof.Rows
structure Blt (mg:Str→Option Value) (K:PySem.W.Frag):Prop where
 isinstance:mg "isinstance" = none
 len:mg "len" = none
 all:mg "all" = none
 any:mg "any" = none
 range:mg "range" = none
 list:mg "list" = none
 int:mg "int" = none
 bool:mg "bool" = none
 tuple:mg "tuple" = none
 str:mg "str" = none
 abs:mg "abs" = none
 max:mg "max" = none
 min:mg "min" = none
 dict:mg "dict" = none
section
variable {X:Cx} {x:Str} {p pos:Pos} {e:Expr} {es:List Expr} {t:TA} {id T:String} {r:List V→Hp→VK→Prop}
theorem pe_callBx (hc:CallR X (.builtin id) r) (hm:X.mg x = none) (hv:bootBuiltins x = some (.builtin id)) (hn:x ≠ "__name__") (hdb:(x == ("__debug__" : Str)) = false) (hg:Gl X x)
  (he:starEach (e :: es) X.env = (false,eval e X.env) :: starEach es X.env) (hpl:(backTo pos (starEach es X.env)).any (·.1) = false) (ha:PA X (e :: es) t):PE X (.Call (.Name x p) (e :: es) [] pos) (tCB r t):=pe_callB hc hg hm hv ha hn hdb he hpl
theorem pe_callTx (hc:CallR X (.type T) r) (hm:X.mg x = none) (hv:bootBuiltins x = some (.type T)) (hn:x ≠ "__name__") (hdb:(x == ("__debug__" : Str)) = false) (hg:Gl X x)
  (he:starEach (e :: es) X.env = (false,eval e X.env) :: starEach es X.env) (hpl:(backTo pos (starEach es X.env)).any (·.1) = false) (ha:PA X (e :: es) t):PE X (.Call (.Name x p) (e :: es) [] pos) (tCB r t):=pe_callTy hc hg hm hv ha hn hdb he hpl
theorem pa_consx {te:TE} (hs:starEach (e :: es) X.env = (false,eval e X.env) :: starEach es X.env) (ha:PE X e te) (hr:PA X es t):PA X (e :: es) (tCons te t):=pa_cons ha hr hs
theorem pt_valx {t:TE} (he:∀ whole,isTrue e X.env whole = (do let v ← whole; standAt e.pos; holding [v] (truthy v))) (h:PE X e t):PT X e (tB t):=pt_val h he
end
section
variable {X:Cx} {p pos:Pos} {e:Expr} {es:List Expr} {t:TA}
noncomputable def isInt:D→Bool
 | .int _=>true
 | .bl _=>true
 | _=>false
noncomputable def isBool:D→Bool
 | .bl _=>true
 | _=>false
noncomputable def isLst:D→Bool
 | .lst _=>true
 | _=>false
noncomputable def isTup:D→Bool
 | .tup _=>true
 | _=>false
noncomputable def isStr:D→Bool
 | .str _=>true
 | _=>false
noncomputable def rIs (T:String) (f:D→Bool):List V→Hp→VK→Prop:=fun xs H Q=>∃ x d,xs = [x,.ty T]∧Rep H x d∧Q (.bl (f d)) H
theorem call_is {T:String} {f:D→Bool} (hf:∀ d,isI (typD d) T = f d) (hT:T∈["int","bool","tuple","list","str"]):CallR X (.builtin "isinstance") (rIs T f):=by
 intro pins s σ H xs us Q I r h
 obtain ⟨x,d,rfl,rp,q⟩:=h
 exact call_isi pins s σ H _ us Q I r ⟨x,typD d,T,rfl,rp.typ,hT,by rw [hf]; exact q⟩
theorem isi_int:∀ d,isI (typD d) "int" = isInt d:=fun d=>by cases d <;> (simp only [typD,isInt]; decide +kernel)
theorem isi_bool:∀ d,isI (typD d) "bool" = isBool d:=fun d=>by cases d <;> (simp only [typD,isBool]; decide +kernel)
theorem isi_list:∀ d,isI (typD d) "list" = isLst d:=fun d=>by cases d <;> (simp only [typD,isLst]; decide +kernel)
theorem isi_tuple:∀ d,isI (typD d) "tuple" = isTup d:=fun d=>by cases d <;> (simp only [typD,isTup]; decide +kernel)
theorem isi_str:∀ d,isI (typD d) "str" = isStr d:=fun d=>by cases d <;> (simp only [typD,isStr]; decide +kernel)
theorem pe_isT {a:Expr} {ta:TE} {q:Pos} {x:Str} {T:String} {f:D→Bool} (hf:∀ d,isI (typD d) T = f d) (hT:T∈["int","bool","tuple","list","str"]) (hn:PE X (.Name x q) (tC (.ty T))) (hg:Gl X "isinstance") {K:PySem.W.Frag} (B:Blt X.mg K)
  (he:starEach [a,.Name x q] X.env = [(false,eval a X.env),(false,eval (.Name x q) X.env)]) (he2:starEach [.Name x q] X.env = [(false,eval (.Name x q) X.env)]) (ha:PE X a ta) :
  PE X (.Call (.Name "isinstance" p) [a,.Name x q] [] pos) (tCB (rIs T f) (tCons ta (tCons (tC (.ty T)) tNil))):=
 pe_callB (call_is hf hT) hg B.isinstance PyProof.Rows.Boot.«isinstance» (pa_cons ha (pa_cons hn pa_nil he2) (he.trans (by rw [he2]))) (by decide +kernel) (by decide +kernel) (he.trans (by rw [he2])) (by rw [he2]; rfl)
theorem pe_isI {a:Expr} {ta:TE} {q:Pos} (hg:Gl X "isinstance") (hg2:Gl X "int") {K:PySem.W.Frag} (B:Blt X.mg K) (he:starEach [a,.Name "int" q] X.env = [(false,eval a X.env),(false,eval (.Name "int" q) X.env)]) (he2:starEach [.Name "int" q] X.env = [(false,eval (.Name "int" q) X.env)]) (ha:PE X a ta) :
  PE X (.Call (.Name "isinstance" p) [a,.Name "int" q] [] pos) (tCB (rIs "int" isInt) (tCons ta (tCons (tC (.ty "int")) tNil))):=pe_isT isi_int (by decide) (pe_bltn hg2 B.int PyProof.Rows.Boot.«int» rfl (by decide +kernel) (by decide +kernel)) hg B he he2 ha
theorem pe_isB {a:Expr} {ta:TE} {q:Pos} (hg:Gl X "isinstance") (hg2:Gl X "bool") {K:PySem.W.Frag} (B:Blt X.mg K) (he:starEach [a,.Name "bool" q] X.env = [(false,eval a X.env),(false,eval (.Name "bool" q) X.env)]) (he2:starEach [.Name "bool" q] X.env = [(false,eval (.Name "bool" q) X.env)]) (ha:PE X a ta) :
  PE X (.Call (.Name "isinstance" p) [a,.Name "bool" q] [] pos) (tCB (rIs "bool" isBool) (tCons ta (tCons (tC (.ty "bool")) tNil))):=pe_isT isi_bool (by decide) (pe_bltn hg2 B.bool PyProof.Rows.Boot.«bool» rfl (by decide +kernel) (by decide +kernel)) hg B he he2 ha
theorem pe_isL {a:Expr} {ta:TE} {q:Pos} (hg:Gl X "isinstance") (hg2:Gl X "list") {K:PySem.W.Frag} (B:Blt X.mg K) (he:starEach [a,.Name "list" q] X.env = [(false,eval a X.env),(false,eval (.Name "list" q) X.env)]) (he2:starEach [.Name "list" q] X.env = [(false,eval (.Name "list" q) X.env)]) (ha:PE X a ta) :
  PE X (.Call (.Name "isinstance" p) [a,.Name "list" q] [] pos) (tCB (rIs "list" isLst) (tCons ta (tCons (tC (.ty "list")) tNil))):=pe_isT isi_list (by decide) (pe_bltn hg2 B.list PyProof.Rows.Boot.«list» rfl (by decide +kernel) (by decide +kernel)) hg B he he2 ha
theorem pe_isP {a:Expr} {ta:TE} {q:Pos} (hg:Gl X "isinstance") (hg2:Gl X "tuple") {K:PySem.W.Frag} (B:Blt X.mg K) (he:starEach [a,.Name "tuple" q] X.env = [(false,eval a X.env),(false,eval (.Name "tuple" q) X.env)]) (he2:starEach [.Name "tuple" q] X.env = [(false,eval (.Name "tuple" q) X.env)]) (ha:PE X a ta) :
  PE X (.Call (.Name "isinstance" p) [a,.Name "tuple" q] [] pos) (tCB (rIs "tuple" isTup) (tCons ta (tCons (tC (.ty "tuple")) tNil))):=pe_isT isi_tuple (by decide) (pe_bltn hg2 B.tuple PyProof.Rows.Boot.«tuple» rfl (by decide +kernel) (by decide +kernel)) hg B he he2 ha
theorem pe_isS {a:Expr} {ta:TE} {q:Pos} (hg:Gl X "isinstance") (hg2:Gl X "str") {K:PySem.W.Frag} (B:Blt X.mg K) (he:starEach [a,.Name "str" q] X.env = [(false,eval a X.env),(false,eval (.Name "str" q) X.env)]) (he2:starEach [.Name "str" q] X.env = [(false,eval (.Name "str" q) X.env)]) (ha:PE X a ta) :
  PE X (.Call (.Name "isinstance" p) [a,.Name "str" q] [] pos) (tCB (rIs "str" isStr) (tCons ta (tCons (tC (.ty "str")) tNil))):=pe_isT isi_str (by decide) (pe_bltn hg2 B.str PyProof.Rows.Boot.«str» rfl (by decide +kernel) (by decide +kernel)) hg B he he2 ha
noncomputable def rAll (K:PySem.W.Frag):List V→Hp→VK→Prop:=fun xs H Q=>∃ p bs,xs = [.ref p]∧SqL K H p (boolsV bs)∧Q (.bl (bs.all id)) H
noncomputable def rAny (K:PySem.W.Frag):List V→Hp→VK→Prop:=fun xs H Q=>∃ p bs,xs = [.ref p]∧SqL K H p (boolsV bs)∧Q (.bl (bs.any id)) H
noncomputable def rLen (K:PySem.W.Frag):List V→Hp→VK→Prop:=fun xs H Q=>(∃ p ys,xs = [.ref p]∧(SqL K H p ys∨SqT K H p ys)∧Q (.int ys.length) H)∨∃ z,xs = [.str z]∧z.length≤sizeLine∧Q (.int z.length) H
end
section
variable {X:Cx} {a b c e:Expr} {ta tb tc:TE} {p pos:Pos} {es:List Expr} {t:TA} {x:Str}
theorem op_le_str:OpR X (compareOp .LtE) (fun x y H Q=>∃ i j,x = .str i∧y = .str j∧Q (.bl (!decide (j.cps.toList < i.cps.toList))) H):=by
 intro pins s σ H x y v u Q I rx ry h
 obtain ⟨i,j,rfl,rfl,q⟩:=h
 obtain ⟨t,rfl⟩:=rx
 obtain ⟨t',rfl⟩:=ry
 exact PySem.P.le_str (fin_bl I q rfl)
noncomputable def rEqD:R2:=fun x y H Q=>∃ d e,Rep H x d∧Rep H y e∧Sh 16 d∧Q (.bl (eqD d e)) H
noncomputable def rLtIS:R2:=fun x y H Q=>(∃ i j,x = .int i∧y = .int j∧Q (.bl (decide (i < j))) H)∨∃ i j,x = .str i∧y = .str j∧Q (.bl (decide (i.cps.toList < j.cps.toList))) H
noncomputable def rLeIS:R2:=fun x y H Q=>(∃ i j,x = .int i∧y = .int j∧Q (.bl (decide (i≤j))) H)∨∃ i j,x = .str i∧y = .str j∧Q (.bl (!decide (j.cps.toList < i.cps.toList))) H
theorem op_ltIS:OpR X (compareOp .Lt) rLtIS:=op_lt.or op_lt_str
theorem op_leIS:OpR X (compareOp .LtE) rLeIS:=op_le.or op_le_str
noncomputable def PEc (X:Cx) (own:List Str) (scope:Scope) (e:Expr) (t:TE):Prop:=∀ C s H fp pins,PE (cxC X own scope C s H fp pins) e t
noncomputable def PTc (X:Cx) (own:List Str) (scope:Scope) (ifs:List Expr) (t:TT):Prop:=∀ C s H fp pins,PTs (cxC X own scope C s H fp pins) ifs t
structure Names (N:List Str):Prop where
 nd:N.Nodup
theorem pe_lcN {scope:Scope} {iter elt:Expr} {ifs:List Expr} {px:Pos} {wi:TI} {tt:TT} {te:TE} (hok:lcOk [x] X.N scope X.env.scope = true) (hc:X.calm = true) {NN:List Str} (hn:Names NN) (hX:X.N = NN) (hx:scope.names.lookup x = some .local)
  (hs:∀ z,foldedSetIterable iter X.env z = pure z) (hi:PI X (.Name x px) iter wi) (ht:PTc X [x] scope ifs tt) (he:PEc X [x] scope elt te) :
  PE X (.ListComp elt [⟨.Name x px,iter,ifs,0⟩] scope pos) (tLc wi uOne tt te):=by
 have hnx:∀ y∈X.N,x≠y:=fun y hy z=>by
  simp only [lcOk,Bool.and_eq_true,List.all_eq_true] at hok
  have:=hok.2 x (by simp)
  rw [z] at this
  simp [hy] at this
 exact pe_lc hc hok hi (fun C s H fp pins=>pgo_name rfl (List.nodup_cons.mpr ⟨fun z=>hnx x z rfl,by rw [hX]; exact hn.nd⟩) (lookup_relabel_local hx)) ht he hs
structure GInt (mg:Str→Option Value) (x:Str) (n:Int):Prop where
 at_:∃ t,mg x = some (.int n t)
theorem pe_gint {mg:Str→Option Value} {n:Int} (G:GInt mg x n) (hm:X.mg = mg) (hg:Gl X x) (hd:(x == ("__debug__" : Str)) = false):PE X (.Name x pos) (tC (.int n)):=by
 subst hm
 obtain ⟨t,e⟩:=G.at_
 exact pe_glob hg e ⟨t,rfl⟩ hd
end
end L2
end
section
set_option Elab.async false
set_option linter.all false
set_option maxRecDepth 100000
set_option maxHeartbeats 4000000
namespace L2
open PySem PySem.Spec PyProof.Rows
end L2
end
section
set_option Elab.async false
set_option linter.all false
set_option maxRecDepth 100000
set_option maxHeartbeats 4000000
namespace L2
open PySem PySem.Spec PyProof.Rows
section
variable {P:Program} {w:World} {K:PySem.W.Frag} {mg:Str→Option Value} {base:Heap}
end
noncomputable def signs (z:Str):List Str:=z.cps.toList.map fun c=>⟨#[c]⟩
noncomputable def glue (ys:List Str):Str:=⟨(ys.map fun y=>y.cps.toList).flatten.toArray⟩
theorem glued_fold (ys:List Str):∀ acc:Array Nat,List.foldl (fun (acc:Array Nat) (p:Str)=>acc ++ (("" : Str)).cps ++ p.cps) acc ys = acc ++ ((ys.map fun y=>y.cps.toList).flatten.toArray):=by
 induction ys with
 | nil=>intro acc; simp
 | cons y ys ih =>
  intro acc
  rw [List.foldl_cons,ih]
  have e:(("" : Str)).cps = #[]:=by decide +kernel
  rw [e]
  apply Array.ext'
  simp
theorem join_empty (ys:List Str):Txt.join ("" : Str) ys = glue ys:=by
 cases ys with
 | nil=>decide +kernel
 | cons y ys =>
  have e:Txt.join ("" : Str) (y :: ys) = ⟨List.foldl (fun (acc:Array Nat) (p:Str)=>acc ++ (("" : Str)).cps ++ p.cps) y.cps ys⟩:=rfl
  rw [e,glued_fold]
  unfold glue
  congr 1
  apply Array.ext'
  simp
section
variable {X:Cx} {a e:Expr} {ta te:TE} {apos cpos:Pos}
theorem strsAre_of:∀ {ys:List Str} {us:List Value},Vals (ys.map V.str) us→StrsAre us ys
 | [],_,.nil=>.nil
 | _ :: _,_,.cons ⟨t,e⟩ r=>by subst e; exact .cons _ _ (strsAre_of r)
noncomputable def rJoin (K:PySem.W.Frag):V→List V→Hp→VK→Prop:=fun x xs H Q=>∃ sep p ys,x = .str sep∧xs = [.ref p]∧SqL K H p (ys.map V.str)∧(ys.map (·.length)).sum + ys.length * sep.length≤16777216∧Q (.str (Txt.join sep ys)) H
theorem mt_join:MtR X "str.join" (rJoin X.K):=by
 intro pins s σ H x xs v us Q I rx rv h
 obtain ⟨sep,p,ys,rfl,rfl,hq,hz,q⟩:=h
 obtain ⟨t,rfl⟩:=rx
 obtain ⟨u,rfl,ru⟩:=rv.one
 cases ru
 obtain ⟨its,r,pl,_⟩:=I.list hq
 exact join_list pl.isList (by simpa using strsAre_of r) hz fun t' k=>⟨.str _,H,I.tok k,⟨_,rfl⟩,q⟩
noncomputable def rIndex:V→List V→Hp→VK→Prop:=fun x xs H Q=>∃ z y,x = .str z∧xs = [.str y]∧0≤Txt.find z y∧Q (.int (Txt.find z y)) H
theorem mt_index (hc:X.calm = true):MtR X "str.index" rIndex:=by
 intro pins s σ H x xs v us Q I rx rv h
 obtain ⟨z,y,rfl,rfl,h0,q⟩:=h
 obtain ⟨t,rfl⟩:=rx
 obtain ⟨u,rfl,ru⟩:=rv.one
 obtain ⟨t',rfl⟩:=ru
 exact index_or (I.ok.hd hc) (fun e=>absurd h0 (by lia)) fun _ _=>⟨.int _,H,I.tok _,⟨_,rfl⟩,q⟩
theorem pe_join {K:PySem.W.Frag} (hK:X.K = K) (B:Blt X.mg K) (hbase:attributeBase a "join" X.env (eval a X.env) = eval a X.env) (hline:(apos.endLine == cpos.line) = true) (hs:starEach [e] X.env = [(false,eval e X.env)]) (ha:PE X a ta) (he:PE X e te) :
  PE X (.Call (.Attribute a "join" apos) [e] [] cpos) (tBM K "str" (rJoin K) ta (tCons te tNil)):=by
 subst hK
 exact pe_bm F.plainAttrs_str F.slot_str_join F.type_str_join mt_join ha (pa_cons he pa_nil hs) hbase (by rw [hs]; rfl) hline hs rfl
theorem pe_index {K:PySem.W.Frag} (hK:X.K = K) (B:Blt X.mg K) (hc:X.calm = true) (hbase:attributeBase a "index" X.env (eval a X.env) = eval a X.env) (hline:(apos.endLine == cpos.line) = true) (hs:starEach [e] X.env = [(false,eval e X.env)]) (ha:PE X a ta) (he:PE X e te) :
  PE X (.Call (.Attribute a "index" apos) [e] [] cpos) (tBM K "str" rIndex ta (tCons te tNil)):=by
 subst hK
 exact pe_bm F.plainAttrs_str F.slot_str_index F.type_str_index (mt_index hc) ha (pa_cons he pa_nil hs) hbase (by rw [hs]; rfl) hline hs rfl
end
theorem find_one {x:Str} {c i:Nat} (hi:x.cps.toList[i]? = some c) (hf:∀ k,k < i→x.cps.toList[k]? ≠ some c):Txt.find x ⟨#[c]⟩ = (i:Int):=by
 rcases find_whole x ⟨#[c]⟩ with ⟨_,h⟩ | ⟨j,e,hj,hl⟩
 ·exact absurd ((StrLaws.subAt_one x c i).mpr hi) (h i)
 ·have ej:=(StrLaws.subAt_one x c j).mp hj
  have:j = i:=by
   rcases Nat.lt_trichotomy i j with h | h | h
   ·exact absurd ((StrLaws.subAt_one x c i).mpr hi) (hl i h)
   ·exact h.symm
   ·exact absurd ej (hf j h)
  rw [e,this]
section
variable {X:Cx} {p pos:Pos} {e:Expr} {es:List Expr} {t:TA}
noncomputable def rListOf (K:PySem.W.Frag):List V→Hp→VK→Prop:=fun xs H Q=>∃ p ys,xs = [.ref p]∧(SqL K H p ys∨SqT K H p ys)∧∀ l,H l = none→Q (.ref l) (upd H l (.lst ys))
end
end L2
end
section
set_option Elab.async false
set_option linter.all false
namespace J
open PySem L2
inductive A where
 | fz (d:D) | lst (as:List A) | tup (as:List A) | scr (ns:List Int) | dic (kvs:List (Key × D))
inductive Own where
 | own | lent | ro
 deriving DecidableEq
noncomputable abbrev Slot:=Option (Own × A)
noncomputable abbrev Ro:=List Slot
inductive R where
 | val (a:A) | ref (i:Nat)
mutual
noncomputable def er:A→Option D
 | .fz d=>some d
 | .lst as=>(ers as).map D.lst
 | .tup as=>(ers as).map D.tup
 | .scr _=>none
 | .dic _=>none
noncomputable def ers:List A→Option (List D)
 | []=>some []
 | a :: as=>(er a).bind fun d=>(ers as).map (d :: ·)
end
noncomputable def fzs:List A→Option (List D)
 | []=>some []
 | .fz d :: as=>(fzs as).map (d :: ·)
 | _ :: _=>none
noncomputable def peek (ρ:Ro):R→Option A
 | .val a=>some a
 | .ref i=>match ρ[i]? with
  | some (some (_,a))=>some a
  | _=>none
noncomputable def peeks (ρ:Ro):List R→Option (List A)
 | []=>some []
 | r :: rs=>(peek ρ r).bind fun a=>(peeks ρ rs).map (a :: ·)
noncomputable def share (ρ:Ro):R→Option (D × Ro)
 | .val a=>(er a).map (·,ρ)
 | .ref i=>match ρ[i]? with
  | some (some (.own,a))=>(er a).map fun d=>(d,ρ.set i (some (.own,.fz d)))
  | _=>none
noncomputable def move (ρ:Ro):R→Option (A × Ro)
 | .val a=>some (a,ρ)
 | .ref i=>match ρ[i]? with
  | some (some (.own,a))=>some (a,ρ.set i none)
  | _=>none
noncomputable abbrev ME:=Ro→Option (R × Ro)
noncomputable abbrev MT:=Ro→Option (Bool × Ro)
noncomputable abbrev MA:=Ro→Option (List R × Ro)
noncomputable def varM (i:Nat):ME:=fun ρ=>match ρ[i]? with
 | some (some (_,.fz d))=>some (.val (.fz d),ρ)
 | some (some _)=>some (.ref i,ρ)
 | _=>none
noncomputable def litM (d:D):ME:=fun ρ=>some (.val (.fz d),ρ)
noncomputable def nilM:MA:=fun ρ=>some ([],ρ)
noncomputable def consM (m:ME) (ms:MA):MA:=fun ρ=>(m ρ).bind fun p=>(ms p.2).map fun q=>(p.1 :: q.1,q.2)
noncomputable def opM (f:List A→Option A) (m:MA):ME:=fun ρ=>(m ρ).bind fun p=>(peeks p.2 p.1).bind fun as=>(f as).map fun a=>(.val a,p.2)
noncomputable def boolA:A→Option Bool
 | .fz (.bl b)=>some b
 | _=>none
noncomputable def tstM (m:ME):MT:=fun ρ=>(m ρ).bind fun p=>(peek p.2 p.1).bind fun a=>(boolA a).map (·,p.2)
noncomputable def andM (a b:ME):ME:=fun ρ=>(tstM a ρ).bind fun p=>if p.1 then b p.2 else some (.val (.fz (.bl false)),p.2)
noncomputable def orM (a b:ME):ME:=fun ρ=>(tstM a ρ).bind fun p=>if p.1 then some (.val (.fz (.bl true)),p.2) else b p.2
noncomputable def notM (a:ME):ME:=fun ρ=>(tstM a ρ).map fun p=>(.val (.fz (.bl (!p.1))),p.2)
noncomputable def andT (a b:MT):MT:=fun ρ=>(a ρ).bind fun p=>if p.1 then b p.2 else some (false,p.2)
noncomputable def orT (a b:MT):MT:=fun ρ=>(a ρ).bind fun p=>if p.1 then some (true,p.2) else b p.2
noncomputable def notT (a:MT):MT:=fun ρ=>(a ρ).map fun p=>(!p.1,p.2)
noncomputable def iteM (c:MT) (a b:ME):ME:=fun ρ=>(c ρ).bind fun p=>if p.1 then a p.2 else b p.2
noncomputable def chnM (f g:List A→Option A) (a b c:ME):ME:=fun ρ=>(a ρ).bind fun p=>(b p.2).bind fun q=>(peeks q.2 [p.1,q.1]).bind fun as=>(f as).bind fun z=>(boolA z).bind fun k =>
 if k then (c q.2).bind fun r=>(peeks r.2 [q.1,r.1]).bind fun bs=>(g bs).map fun z=>(.val z,r.2) else some (.val (.fz (.bl false)),q.2)
noncomputable def plainM (m:ME):ME:=fun ρ=>(m ρ).bind fun p=>(share p.2 p.1).map fun q=>(.val (.fz q.1),q.2)
noncomputable def vals:List R→Option (List A)
 | []=>some []
 | .val a :: rs=>(vals rs).map (a :: ·)
 | .ref _ :: _=>none
noncomputable abbrev LIM:Nat:=sizeLine
noncomputable def mkT (as:List A):A:=match fzs as with
 | some ds=>.fz (.tup ds)
 | none=>.tup as
noncomputable def lstM (m:MA):ME:=fun ρ=>(m ρ).bind fun p=>(vals p.1).bind fun as=>if as.length≤LIM then some (.val (.lst as),p.2) else none
noncomputable abbrev Fn:=List (Own × A)→Option (A × List A)
noncomputable def argOf (ρ:Ro):R→Option (Own × A)
 | .val a=>some (.own,a)
 | .ref i=>match ρ[i]? with
  | some (some (.ro,a))=>some (.ro,a)
  | some (some (_,a))=>some (.lent,a)
  | _=>none
noncomputable def argsOf (ρ:Ro):List R→Option (List (Own × A))
 | []=>some []
 | r :: rs=>(argOf ρ r).bind fun a=>(argsOf ρ rs).map (a :: ·)
noncomputable def setA (ρ:Ro) (i:Nat) (a:A):Ro:=match ρ[i]? with
 | some (some (st,_))=>ρ.set i (some (st,a))
 | _=>ρ
noncomputable def back:List R→List A→Ro→Ro
 | .ref i :: rs,a :: as,ρ=>back rs as (setA ρ i a)
 | .val _ :: rs,_ :: as,ρ=>back rs as ρ
 | _,_,ρ=>ρ
noncomputable def refs:List R→List Nat
 | []=>[]
 | .ref i :: rs=>i :: refs rs
 | .val _ :: rs=>refs rs
noncomputable def callM (Φ:Fn) (m:MA):ME:=fun ρ=>(m ρ).bind fun p=>(argsOf p.2 p.1).bind fun args=>if (refs p.1).Nodup then (Φ args).map fun q=>(.val q.1,back p.1 q.2 p.2) else none
noncomputable def signsD (z:Str):List D:=z.cps.toList.map fun c=>.str ⟨#[c]⟩
noncomputable def itemsA:A→Option (List D)
 | .fz (.lst ds)=>some ds
 | .fz (.tup ds)=>some ds
 | .lst as=>fzs as
 | .scr ns=>some (ns.map D.int)
 | _=>none
noncomputable abbrev MI:=Ro→Option (List D × Option Nat × Ro)
noncomputable def nameOf:R→Option Nat
 | .val _=>none
 | .ref i=>some i
noncomputable def seqI (m:ME):MI:=fun ρ=>(m ρ).bind fun p=>(peek p.2 p.1).bind fun a=>(itemsA a).map fun ds=>(ds,nameOf p.1,p.2)
noncomputable def strI (m:ME):MI:=fun ρ=>(m ρ).bind fun p=>match p.1 with
 | .val (.fz (.str z))=>if z.length≤LIM then some (signsD z,none,p.2) else none
 | _=>none
noncomputable def upto (lo:Int) (n:Nat):List D:=(List.range n).map fun (k:Nat)=>D.int (lo + (k:Int))
noncomputable def intA:A→Option Int
 | .fz (.int i)=>some i
 | _=>none
noncomputable def rngI1 (m:ME):MI:=fun ρ=>(m ρ).bind fun p=>match p.1 with
 | .val (.fz (.int j))=>if -(2 ^ 62)≤j∧j < 2 ^ 62 then some (upto 0 j.toNat,none,p.2) else none
 | _=>none
noncomputable def lock (ρ:Ro):Option Nat→Ro
 | none=>ρ
 | some i=>match ρ[i]? with
  | some (some (_,a))=>ρ.set i (some (.ro,a))
  | _=>ρ
noncomputable def unlock (old ρ:Ro):Option Nat→Ro
 | none=>ρ
 | some i=>match old[i]? with
  | some s=>ρ.set i s
  | none=>ρ
noncomputable def patB (n:Nat) (d:D):Option (List D):=match n with
 | 0=>some [d]
 | n=>match d with
  | .tup ds=>if ds.length = n then some ds else none
  | _=>none
noncomputable def own (d:D):Slot:=some (.own,.fz d)
noncomputable def compL (pat:Nat) (c:MT) (e:ME):List D→Ro→Option (List D × Ro)
 | [],ρ=>some ([],ρ)
 | d :: ds,ρ=>(patB pat d).bind fun bs=>(c (bs.map own ++ ρ)).bind fun p =>
  if p.1 then (e p.2).bind fun q=>(share q.2 q.1).bind fun s=>(compL pat c e ds (s.2.drop bs.length)).map fun t=>(s.1 :: t.1,t.2)
  else compL pat c e ds (p.2.drop bs.length)
noncomputable def yesT:MT:=fun ρ=>some (true,ρ)
noncomputable def compM (it:MI) (pat:Nat) (c:MT) (e:ME):ME:=fun ρ=>(it ρ).bind fun p=>if p.1.length≤LIM then (compL pat c e p.1 (lock p.2.2 p.2.1)).map fun q=>(.val (.lst (q.1.map A.fz)),unlock p.2.2 q.2 p.2.1) else none
inductive Fl where
 | next (ρ:Ro) | brk (ρ:Ro) | cnt (ρ:Ro) | ret (a:A) (ρ:Ro)
noncomputable abbrev MS:=Ro→Option Fl
noncomputable def free (ρ:Ro) (i:Nat):Bool:=match ρ[i]? with
 | some none=>true
 | some (some (.own,_))=>true
 | _=>false
noncomputable def keep (ρ:Ro):R→Option (A × Ro)
 | .val a=>some (a,ρ)
 | r=>(share ρ r).map fun q=>(.fz q.1,q.2)
noncomputable def skipS:MS:=fun ρ=>some (.next ρ)
noncomputable def brkS:MS:=fun ρ=>some (.brk ρ)
noncomputable def stuckS:MS:=fun _=>none
noncomputable def seqS (a b:MS):MS:=fun ρ=>(a ρ).bind fun f=>match f with
 | .next ρ1=>b ρ1
 | f=>some f
noncomputable def asgS (i:Nat) (m:ME):MS:=fun ρ=>(m ρ).bind fun p=>(keep p.2 p.1).bind fun q=>if free q.2 i then some (.next (q.2.set i (some (.own,q.1)))) else none
noncomputable def partsA:A→Option (List A)
 | .tup as=>some as
 | .fz (.tup ds)=>some (ds.map A.fz)
 | _=>none
noncomputable def setAll:List Nat→List A→Ro→Option Ro
 | [],[],ρ=>some ρ
 | i :: is,a :: as,ρ=>if free ρ i then setAll is as (ρ.set i (some (.own,a))) else none
 | _,_,_=>none
noncomputable def unpS (is:List Nat) (m:ME):MS:=fun ρ=>(m ρ).bind fun p=>(keep p.2 p.1).bind fun q=>(partsA q.1).bind fun as=>(setAll is as q.2).map .next
noncomputable def expS (m:ME):MS:=fun ρ=>(m ρ).map fun p=>.next p.2
noncomputable def retS (m:ME):MS:=fun ρ=>(m ρ).bind fun p=>(move p.2 p.1).map fun q=>.ret q.1 q.2
noncomputable def retN:MS:=fun ρ=>some (.ret (.fz .non) ρ)
noncomputable def ifS (c:MT) (a b:MS):MS:=fun ρ=>(c ρ).bind fun p=>if p.1 then a p.2 else b p.2
noncomputable def bindS (is:List Nat) (one:Bool) (d:D) (ρ:Ro):Option Ro:=match one,is with
 | true,[i]=>if free ρ i then some (ρ.set i (own d)) else none
 | false,is=>(match d with
  | .tup ds=>setAll is (ds.map A.fz) ρ
  | _=>none)
 | _,_=>none
noncomputable def forL (is:List Nat) (one:Bool) (b:MS):List D→Ro→Option Fl
 | [],ρ=>some (.next ρ)
 | d :: ds,ρ=>(bindS is one d ρ).bind fun ρ1=>(b ρ1).bind fun f=>match f with
  | .next ρ2=>forL is one b ds ρ2
  | .cnt ρ2=>forL is one b ds ρ2
  | .brk ρ2=>some (.next ρ2)
  | f=>some f
noncomputable def unlockF (old:Ro) (n:Option Nat):Fl→Fl
 | .next ρ=>.next (unlock old ρ n)
 | .brk ρ=>.brk (unlock old ρ n)
 | .cnt ρ=>.cnt (unlock old ρ n)
 | .ret a ρ=>.ret a (unlock old ρ n)
noncomputable def forS (is:List Nat) (one:Bool) (it:MI) (b:MS):MS:=fun ρ=>(it ρ).bind fun p=>(forL is one b p.1 (lock p.2.2 p.2.1)).map (unlockF p.2.2 p.2.1)
noncomputable def whileN (c:MT) (b:MS):Nat→Ro→Option Fl
 | 0,_=>none
 | n + 1,ρ=>(c ρ).bind fun p=>if p.1 then (b p.2).bind fun f=>match f with
   | .next ρ2=>whileN c b n ρ2
   | .cnt ρ2=>whileN c b n ρ2
   | .brk ρ2=>some (.next ρ2)
   | f=>some f
  else some (.next p.2)
noncomputable def whileS (w:Nat) (c:MT) (b:MS):MS:=whileN c b w
noncomputable def outA:Slot→A
 | some (_,a)=>a
 | none=>.fz .non
noncomputable def fnM (np nn:Nat) (b:MS):Fn:=fun args=>if args.length = np then (b (args.map some ++ List.replicate (nn - np) none)).bind fun f=>match f with
  | .next ρ=>some (.fz .non,(ρ.take np).map outA)
  | .ret a ρ=>some (a,(ρ.take np).map outA)
  | _=>none
 else none
end J
end
section
set_option Elab.async false
set_option linter.all false
namespace J
open PySem L2
noncomputable def imm:HO→Bool
 | .tup _=>true
 | .frz _ _=>true
 | _=>false
noncomputable def Kept (L:Addr→Prop) (H H':Hp):Prop:=∀ b o,H b = some o→(¬ L b∨imm o = true)→H' b = some o
theorem Kept.refl {L:Addr→Prop} {H:Hp}:Kept L H H:=fun _ _ h _=>h
theorem Kept.trans {L L':Addr→Prop} {H H1 H2:Hp} (x:Kept L H H1) (y:Kept L' H1 H2) (h:∀ p,L' p→L p∨H p = none):Kept L H H2:=fun b o e c =>
 y b o (x b o e c) (c.imp (fun n z=>(h b z).elim n fun q=>by rw [e] at q; cases q) id)
theorem Kept.mono {L L':Addr→Prop} {H H':Hp} (x:Kept L H H') (h:∀ p,L p→L' p):Kept L' H H':=fun b o e c=>x b o e (c.imp (fun n z=>n (h b z)) id)
theorem Same.kept {L:Addr→Prop} {H H':Hp} (s:Same H H'):Kept L H H':=fun b o e _=>s b o e
noncomputable def ScrAt (K:PySem.W.Frag) (H:Hp) (a:Addr) (xs:List V):Prop:=∀ H',(∀ o u,H a = some (.frz o u)→H' a = some (.frz o u))→SqL K H' a xs
mutual
noncomputable def RepH (K:PySem.W.Frag) (N:Addr→Prop) (H:Hp) (v:V):A→List Addr→Prop
 | .fz d,L=>L = []∧RepA N H v d
 | .lst as,L=>∃ a vs L',v = .ref a∧L = a :: L'∧H a = some (.lst vs)∧vs.length≤sizeLine∧RepHs K N H vs as L'
 | .tup as,L=>∃ a vs,v = .ref a∧H a = some (.tup vs)∧vs.length≤sizeLine∧RepHs K N H vs as L
 | .scr ns,L=>∃ a,v = .ref a∧L = []∧ScrAt K H a (ns.map V.int)∧ns.length≤sizeLine
 | .dic kvs,L=>∃ a us,v = .ref a∧L = [a]∧H a = some (.dK us)∧us.length≤sizeLine∧Paired (fun (u:Key × V) (k:Key × D)=>u.1 = k.1∧RepA N H u.2 k.2) us kvs
noncomputable def RepHs (K:PySem.W.Frag) (N:Addr→Prop) (H:Hp):List V→List A→List Addr→Prop
 | [],[],L=>L = []
 | v :: vs,a :: as,L=>∃ L1 L2,L = L1 ++ L2∧RepH K N H v a L1∧RepHs K N H vs as L2
 | _,_,_=>False
end
theorem _root_.L2.RepA.tr {N N' M:Addr→Prop} {H H':Hp} (hM:∀ p,M p→N p) (k:Kept M H H') (hN:∀ p,N' p→N p∨H p = none) {v:V} {d:D} (r:RepA N H v d):RepA N' H' v d:=by
 induction r with
 | non=>exact .non
 | bl b=>exact .bl b
 | int i=>exact .int i
 | str x hx=>exact .str x hx
 | lst h hz hn hl _ ih =>
  refine .lst (k _ _ h (.inl fun z=>hn (hM _ z))) hz (fun z=>?_) hl ih
  rcases hN _ z with q | q
  ·exact hn q
  ·rw [h] at q; cases q
 | tup h hz hl _ ih=>exact .tup (k _ _ h (.inr rfl)) hz hl ih
theorem Paired.mapQ {α β:Type} {F G:α → β → Prop}:∀ {l₁:List α} {l₂:List β},Paired F l₁ l₂ → (∀ a b,F a b→G a b)→Paired G l₁ l₂
 | _,_,.nil,_=>.nil
 | _,_,.cons r t,f=>.cons (f _ _ r) (Paired.mapQ t f)
section
variable {K:PySem.W.Frag} {N N' M:Addr→Prop} {H H':Hp}
mutual
theorem RepH.tr (hM:∀ p,M p→N p) (k:Kept M H H') (hN:∀ p,N' p→N p∨H p = none):∀ {a:A} {v:V} {L:List Addr},(∀ p∈L,¬ M p)→RepH K N H v a L→RepH K N' H' v a L
 | .fz d,v,L,hL,r=>by
  simp only [RepH] at r ⊢
  exact ⟨r.1,r.2.tr hM k hN⟩
 | .lst as,v,L,hL,r=>by
  simp only [RepH] at r ⊢
  obtain ⟨a,vs,L',rfl,rfl,h,hz,hs⟩:=r
  exact ⟨a,vs,L',rfl,rfl,k _ _ h (.inl (hL a (by simp))),hz,RepHs.tr hM k hN (fun p hp=>hL p (by simp [hp])) hs⟩
 | .tup as,v,L,hL,r=>by
  simp only [RepH] at r ⊢
  obtain ⟨a,vs,rfl,h,hz,hs⟩:=r
  exact ⟨a,vs,rfl,k _ _ h (.inr rfl),hz,RepHs.tr hM k hN hL hs⟩
 | .scr ns,v,L,hL,r=>by
  simp only [RepH] at r ⊢
  obtain ⟨a,rfl,rfl,h,hz⟩:=r
  exact ⟨a,rfl,rfl,fun H2 q=>h H2 fun o u e=>q o u (k _ _ e (.inr rfl)),hz⟩
 | .dic kvs,v,L,hL,r=>by
  simp only [RepH] at r ⊢
  obtain ⟨a,us,rfl,rfl,h,hz,hs⟩:=r
  exact ⟨a,us,rfl,rfl,k _ _ h (.inl (hL a (by simp))),hz,Paired.mapQ hs fun _ _ q=>⟨q.1,q.2.tr hM k hN⟩⟩
theorem RepHs.tr (hM:∀ p,M p→N p) (k:Kept M H H') (hN:∀ p,N' p→N p∨H p = none):∀ {as:List A} {vs:List V} {L:List Addr},(∀ p∈L,¬ M p)→RepHs K N H vs as L→RepHs K N' H' vs as L
 | [],vs,L,hL,r=>by
  cases vs <;> simp only [RepHs] at r ⊢
  exact r
 | a :: as,vs,L,hL,r=>by
  cases vs with
  | nil=>simp only [RepHs] at r
  | cons v vs =>
   simp only [RepHs] at r ⊢
   obtain ⟨L1,L2,rfl,h1,h2⟩:=r
   exact ⟨L1,L2,rfl,RepH.tr hM k hN (fun p hp=>hL p (by simp [hp])) h1,RepHs.tr hM k hN (fun p hp=>hL p (by simp [hp])) h2⟩
end
end
noncomputable def ad (O:Addr→Prop) (L:List Addr):Addr→Prop:=fun p=>O p∨p∈L
noncomputable def NN (fp:Nat→List Addr) (O:Addr→Prop):Addr→Prop:=fun p=>(∃ i,p∈fp i)∨O p
noncomputable def Fp (fp:Nat→List Addr):Addr→Prop:=fun p=>∃ i,p∈fp i
structure Rel (K:PySem.W.Frag) (ρ:Ro) (σ:St) (H:Hp) (O:Addr→Prop) (fp:Nat→List Addr):Prop where
 len : ρ.length = σ.length
 slot:∀ i st a,ρ[i]? = some (some (st,a))→∃ v,σ[i]? = some (some v)∧RepH K (NN fp O) H v a (fp i)
 out:∀ i,(∀ st a,ρ[i]? ≠ some (some (st,a)))→fp i = []
 nd:∀ i,(fp i).Nodup
 inj:∀ i j p,p∈fp i→p∈fp j→i = j
 off:∀ i p,p∈fp i→¬ O p
 al:∀ p,NN fp O p→H p≠none
noncomputable def Stab (ρ ρ':Ro) (σ σ':St):Prop:=∀ (j:Nat) st a,ρ[j]? = some (some (st,a))→st ≠ .own→∃ a',ρ'[j]? = some (some (st,a')) ∧ σ'[j]? = σ[j]? ∧ (st = .ro→a' = a)
theorem Stab.refl {ρ:Ro} {σ:St}:Stab ρ ρ σ σ:=fun _ _ a h _=>⟨a,h,rfl,fun _=>rfl⟩
theorem Stab.trans {ρ ρ1 ρ2:Ro} {σ σ1 σ2:St} (x:Stab ρ ρ1 σ σ1) (y:Stab ρ1 ρ2 σ1 σ2):Stab ρ ρ2 σ σ2:=fun j st a h n=>by
 obtain ⟨a1,h1,e1,f1⟩:=x j st a h n
 obtain ⟨a2,h2,e2,f2⟩:=y j st a1 h1 n
 exact ⟨a2,h2,e2.trans e1,fun z=>(f2 z).trans (f1 z)⟩
noncomputable def RR (K:PySem.W.Frag) (N:Addr→Prop) (H:Hp) (σ:St) (v:V):R→List Addr→Prop
 | .val a,L=>RepH K N H v a L
 | .ref i,L=>L = [] ∧ σ[i]? = some (some v)
noncomputable def RRs (K:PySem.W.Frag) (N:Addr→Prop) (H:Hp) (σ:St):List V→List R→List Addr→Prop
 | [],[],L=>L = []
 | v :: vs,r :: rs,L=>∃ L1 L2,L = L1 ++ L2∧RR K N H σ v r L1∧RRs K N H σ vs rs L2
 | _,_,_=>False
structure Post (K:PySem.W.Frag) (O:Addr→Prop) (fp:Nat→List Addr) (H:Hp) (ρ ρ':Ro) (σ σ':St) (L:List Addr) (fp':Nat→List Addr) (H':Hp):Prop where
 rel:Rel K ρ' σ' H' (ad O L) fp'
 nd:L.Nodup
 lo:∀ p∈L,¬ O p
 new:∀ p,(p∈L∨Fp fp' p)→Fp fp p∨H p = none
 kept:Kept (Fp fp) H H'
 ln : σ'.length = σ.length
 stab:Stab ρ ρ' σ σ'
noncomputable def PostE (K:PySem.W.Frag) (O:Addr→Prop) (fp:Nat→List Addr) (H:Hp) (ρ ρ':Ro) (σ:St) (r:R) (v:V) (H':Hp):Prop:=
 ∃ L fp',Post K O fp H ρ ρ' σ σ L fp' H'∧RR K (NN fp' (ad O L)) H' σ v r L
noncomputable def PostA (K:PySem.W.Frag) (O:Addr→Prop) (fp:Nat→List Addr) (H:Hp) (ρ ρ':Ro) (σ:St) (rs:List R) (vs:List V) (H':Hp):Prop:=
 ∃ L fp',Post K O fp H ρ ρ' σ σ L fp' H'∧RRs K (NN fp' (ad O L)) H' σ vs rs L
noncomputable def tE (K:PySem.W.Frag) (m:ME):TE:=fun σ H Q=>∃ ρ O fp,Rel K ρ σ H O fp∧∃ r ρ',m ρ = some (r,ρ')∧∀ v H',PostE K O fp H ρ ρ' σ r v H'→Q v H'
noncomputable def tT (K:PySem.W.Frag) (m:MT):TT:=fun σ H Q=>∃ ρ O fp,Rel K ρ σ H O fp∧∃ b ρ',m ρ = some (b,ρ')∧∀ fp' H',Post K O fp H ρ ρ' σ σ [] fp' H'→Q b H'
noncomputable def tA (K:PySem.W.Frag) (m:MA):TA:=fun σ H Q=>∃ ρ O fp,Rel K ρ σ H O fp∧∃ rs ρ',m ρ = some (rs,ρ')∧∀ vs H',PostA K O fp H ρ ρ' σ rs vs H'→Q vs H'
section
variable {K:PySem.W.Frag} {ρ ρ' ρ1 ρ2:Ro} {σ σ' σ1 σ2:St} {H H' H1 H2:Hp} {O O':Addr→Prop} {fp fp' fp1 fp2:Nat→List Addr} {L L1 L2:List Addr}
theorem ad_nil {p:Addr}:ad O [] p↔O p:=by simp [ad]
theorem ad_app {p:Addr}:ad (ad O L1) L2 p↔ad O (L1 ++ L2) p:=by simp [ad,or_assoc]
theorem Rel.congr (r:Rel K ρ σ H O fp) (h:∀ p,O p↔O' p):Rel K ρ σ H O' fp:=by
 have e:O = O':=funext fun p=>propext (h p)
 exact e ▸ r
theorem Rel.weak (r:Rel K ρ σ H O fp) (h:∀ p,O' p→O p):Rel K ρ σ H O' fp where
 len:=r.len
 slot:=fun i st a e=>by
  obtain ⟨v,e1,q⟩:=r.slot i st a e
  exact ⟨v,e1,q.tr (M:=fun _=>False) (fun _ z=>z.elim) .refl (fun p z=>.inl (z.imp id (h p))) fun _ _ z=>z⟩
 out:=r.out
 nd:=r.nd
 inj:=r.inj
 off:=fun i p hp z=>r.off i p hp (h p z)
 al:=fun p z=>r.al p (z.imp id (h p))
theorem Rel.grow (r:Rel K ρ σ H O fp) (s:Same H H') (hO:∀ p,O' p→O p∨H p = none) (al:∀ p,O' p→H' p≠none):Rel K ρ σ H' O' fp where
 len:=r.len
 slot:=fun i st a e=>by
  obtain ⟨v,e1,q⟩:=r.slot i st a e
  refine ⟨v,e1,q.tr (M:=fun _=>False) (fun _ z=>z.elim) (fun b o e _=>s b o e) (fun p z=>?_) fun _ _ z=>z⟩
  rcases z with z | z
  ·exact .inl (.inl z)
  ·exact (hO p z).imp .inr id
 out:=r.out
 nd:=r.nd
 inj:=r.inj
 off:=fun i p hp z=>by
  rcases hO p z with q | q
  ·exact r.off i p hp q
  ·exact r.al p (.inl ⟨i,hp⟩) q
 al:=fun p z=>by
  rcases z with z | z
  ·cases q:H p with
   | none=>exact absurd q (r.al p (.inl z))
   | some o=>rw [s p o q]; simp
  ·exact al p z
theorem Rel.post (r:Rel K ρ σ H O fp):Post K O fp H ρ ρ σ σ [] fp H:=
 ⟨r.congr fun p=>ad_nil.symm,List.nodup_nil,fun _ h=>by simp at h,fun p h=>by rcases h with h | h; simp at h; exact .inl h,.refl,rfl,.refl⟩
theorem Post.then (x:Post K O fp H ρ ρ1 σ σ1 L1 fp1 H1) (y:Post K (ad O L1) fp1 H1 ρ1 ρ2 σ1 σ2 L2 fp2 H2):Post K O fp H ρ ρ2 σ σ2 (L1 ++ L2) fp2 H2 where
 rel:=y.rel.congr fun p=>ad_app
 nd:=List.nodup_append.mpr ⟨x.nd,y.nd,fun a ha b hb e=>by subst e; exact y.lo a hb (.inr ha)⟩
 lo:=fun p hp z=>by
  rcases List.mem_append.mp hp with q | q
  ·exact x.lo p q z
  ·exact y.lo p q (.inl z)
 new:=fun p hp=>by
  have key:Fp fp1 p∨H1 p = none→Fp fp p∨H p = none:=fun q=>by
   rcases q with q | q
   ·exact x.new p (.inr q)
   ·cases e:H p with
    | none=>exact .inr rfl
    | some o =>
     by_cases hf:Fp fp p
     ·exact .inl hf
     ·rw [x.kept p o e (.inl hf)] at q; cases q
  rcases hp with q | q
  ·rcases List.mem_append.mp q with q | q
   ·exact x.new p (.inl q)
   ·exact key (y.new p (.inl q))
  ·exact key (y.new p (.inr q))
 kept:=x.kept.trans y.kept fun p z=>x.new p (.inr z)
 ln:=y.ln.trans x.ln
 stab:=x.stab.trans y.stab
theorem Post.drop (x:Post K O fp H ρ ρ1 σ σ1 (L1 ++ L2) fp1 H1):Post K O fp H ρ ρ1 σ σ1 L2 fp1 H1 where
 rel:=x.rel.weak fun p z=>z.imp id fun q=>List.mem_append_right _ q
 nd:=(List.nodup_append.mp x.nd).2.1
 lo:=fun p hp=>x.lo p (List.mem_append_right _ hp)
 new:=fun p hp=>x.new p (hp.imp (List.mem_append_right _) id)
 kept:=x.kept
 ln:=x.ln
 stab:=x.stab
theorem Post.drop0 (x:Post K O fp H ρ ρ1 σ σ1 L1 fp1 H1):Post K O fp H ρ ρ1 σ σ1 [] fp1 H1:=Post.drop (L1:=L1) (L2:=[]) (by rw [List.append_nil]; exact x)
theorem Post.rr {v:V} {r:R} (y:Post K (ad O L1) fp1 H1 ρ1 ρ2 σ σ L2 fp2 H2) (hr:Rel K ρ1 σ H1 (ad O L1) fp1) (h:RR K (NN fp1 (ad O L1)) H1 σ v r L) (hL:∀ p∈L,p∈L1):RR K (NN fp2 (ad O (L1 ++ L2))) H2 σ v r L:=by
 cases r with
 | ref i=>exact h
 | val a =>
  refine RepH.tr (M:=Fp fp1) (fun p z=>.inl z) y.kept (fun p z=>?_) (fun p hp z=>?_) h
  ·rcases z with z | z
   ·exact (y.new p (.inr z)).imp (fun q=>.inl q) id
   ·rcases z with z | z
    ·exact .inl (.inr (.inl z))
    ·rcases List.mem_append.mp z with z | z
     ·exact .inl (.inr (.inr z))
     ·exact (y.new p (.inl z)).imp (fun q=>.inl q) id
  ·obtain ⟨i,hi⟩:=z
   exact hr.off i p hi (.inr (hL p hp))
theorem tE.mono {m:ME} {Q Q':VK} (h:tE K m σ H Q) (q:∀ v H',Q v H'→Q' v H'):tE K m σ H Q':=by
 obtain ⟨ρ,O,fp,r,x,ρ',e,k⟩:=h
 exact ⟨ρ,O,fp,r,x,ρ',e,fun v H' z=>q v H' (k v H' z)⟩
theorem tA_nil {Q:List V→Hp→Prop} (h:tA K nilM σ H Q):tNil σ H Q:=by
 obtain ⟨ρ,O,fp,r,x,ρ',e,k⟩:=h
 cases e
 exact k [] H ⟨[],fp,r.post,rfl⟩
theorem tA_cons {m:ME} {ms:MA} {Q:List V→Hp→Prop} (h:tA K (consM m ms) σ H Q):tCons (tE K m) (tA K ms) σ H Q:=by
 obtain ⟨ρ,O,fp,r,x,ρ',e,k⟩:=h
 simp only [consM,Option.bind_eq_some_iff,Option.map_eq_some_iff] at e
 obtain ⟨⟨r1,ρ1⟩,e1,⟨rs,ρ2⟩,e2,e3⟩:=e
 cases e3
 refine ⟨ρ,O,fp,r,r1,ρ1,e1,fun v H1 yy=>?_⟩
 obtain ⟨L1,fp1,p1,q1⟩:=yy
 refine ⟨ρ1,ad O L1,fp1,p1.rel,rs,_,e2,fun vs H2 yy=>?_⟩
 obtain ⟨L2,fp2,p2,q2⟩:=yy
 refine k (v :: vs) H2 ⟨L1 ++ L2,fp2,p1.then p2,L1,L2,rfl,p2.rr p1.rel q1 fun _ z=>z,?_⟩
 have e:ad (ad O L1) L2 = ad O (L1 ++ L2):=funext fun p=>propext ad_app
 rw [← e]
 exact q2
end
end J
end
section
set_option Elab.async false
set_option linter.all false
namespace J
open PySem L2
section
variable {K:PySem.W.Frag} {N N' M:Addr→Prop} {H H':Hp}
mutual
theorem RepH.al:∀ {a:A} {v:V} {L:List Addr},RepH K N H v a L→∀ p∈L,H p≠none
 | .fz d,v,L,r,p,hp=>by
  simp only [RepH] at r
  rw [r.1] at hp; simp at hp
 | .lst as,v,L,r,p,hp=>by
  simp only [RepH] at r
  obtain ⟨a,vs,L',rfl,rfl,h,hz,hs⟩:=r
  rcases List.mem_cons.mp hp with rfl | hp
  ·rw [h]; simp
  ·exact RepHs.al hs p hp
 | .tup as,v,L,r,p,hp=>by
  simp only [RepH] at r
  obtain ⟨a,vs,rfl,h,hz,hs⟩:=r
  exact RepHs.al hs p hp
 | .scr ns,v,L,r,p,hp=>by
  simp only [RepH] at r
  obtain ⟨a,rfl,rfl,h,hz⟩:=r
  simp at hp
 | .dic kvs,v,L,r,p,hp=>by
  simp only [RepH] at r
  obtain ⟨a,us,rfl,rfl,h,hz,hs⟩:=r
  have:p = a:=by simpa using hp
  subst this; rw [h]; simp
theorem RepHs.al:∀ {as:List A} {vs:List V} {L:List Addr},RepHs K N H vs as L→∀ p∈L,H p≠none
 | [],vs,L,r,p,hp=>by
  cases vs <;> simp only [RepHs] at r
  rw [r] at hp; simp at hp
 | a :: as,vs,L,r,p,hp=>by
  cases vs with
  | nil=>simp only [RepHs] at r
  | cons v vs =>
   simp only [RepHs] at r
   obtain ⟨L1,L2,rfl,h1,h2⟩:=r
   rcases List.mem_append.mp hp with hp | hp
   ·exact RepH.al h1 p hp
   ·exact RepHs.al h2 p hp
end
theorem RepHs.len:∀ {as:List A} {vs:List V} {L:List Addr},RepHs K N H vs as L→vs.length = as.length
 | [],[],_,_=>rfl
 | [],_ :: _,_,r=>by simp only [RepHs] at r
 | _ :: _,[],_,r=>by simp only [RepHs] at r
 | a :: as,v :: vs,L,r=>by
  simp only [RepHs] at r
  obtain ⟨L1,L2,rfl,h1,h2⟩:=r
  simp [RepHs.len h2]
noncomputable def RepDs (N:Addr→Prop) (H:Hp):List V→List D→Prop
 | [],[]=>True
 | v :: vs,d :: ds=>RepA N H v d∧RepDs N H vs ds
 | _,_=>False
theorem RepDs.len:∀ {vs:List V} {ds:List D},RepDs N H vs ds→vs.length = ds.length
 | [],[],_=>rfl
 | [],_ :: _,r=>by simp only [RepDs] at r
 | _ :: _,[],r=>by simp only [RepDs] at r
 | v :: vs,d :: ds,r=>by simp [RepDs.len r.2]
theorem RepDs.get:∀ {vs:List V} {ds:List D},RepDs N H vs ds→∀ (i:Nat) v d,vs[i]? = some v→ds[i]? = some d→RepA N H v d
 | [],[],_,i,v,d,h,_=>by simp at h
 | [],_ :: _,r,_,_,_,_,_=>by simp only [RepDs] at r
 | _ :: _,[],r,_,_,_,_,_=>by simp only [RepDs] at r
 | x :: vs,y :: ds,r,0,v,d,h1,h2=>by simp at h1 h2; subst h1; subst h2; exact r.1
 | x :: vs,y :: ds,r,i + 1,v,d,h1,h2=>RepDs.get r.2 i v d (by simpa using h1) (by simpa using h2)
theorem RepDs.mk:∀ {vs:List V} {ds:List D},vs.length = ds.length→(∀ (i:Nat) v d,vs[i]? = some v→ds[i]? = some d→RepA N H v d)→RepDs N H vs ds
 | [],[],_,_=>trivial
 | [],_ :: _,hl,_=>by simp at hl
 | _ :: _,[],hl,_=>by simp at hl
 | v :: vs,d :: ds,hl,h=>⟨h 0 v d rfl rfl,RepDs.mk (by simpa using hl) fun i v d e1 e2=>h (i + 1) v d (by simpa using e1) (by simpa using e2)⟩
theorem repList {a:Addr} {vs:List V} {ds:List D} (h:H a = some (.lst vs)) (hz:vs.length≤sizeLine) (hn:¬ N a) (r:RepDs N H vs ds):RepA N H (.ref a) (.lst ds):=.lst h hz hn r.len r.get
theorem repTup {a:Addr} {vs:List V} {ds:List D} (h:H a = some (.tup vs)) (hz:vs.length≤sizeLine) (r:RepDs N H vs ds):RepA N H (.ref a) (.tup ds):=.tup h hz r.len r.get
theorem RepDs.tr (hM:∀ p,M p→N p) (k:Kept M H H') (hN:∀ p,N' p→N p∨H p = none):∀ {vs:List V} {ds:List D},RepDs N H vs ds→RepDs N' H' vs ds
 | [],[],_=>trivial
 | [],_ :: _,r=>by simp only [RepDs] at r
 | _ :: _,[],r=>by simp only [RepDs] at r
 | v :: vs,d :: ds,r=>⟨r.1.tr hM k hN,RepDs.tr hM k hN r.2⟩
theorem weakA (h:∀ p,N' p→N p) {v:V} {d:D} (r:RepA N H v d):RepA N' H v d:=r.tr (M:=fun _=>False) (fun _ z=>z.elim) .refl fun p z=>.inl (h p z)
theorem weakDs (h:∀ p,N' p→N p) {vs:List V} {ds:List D} (r:RepDs N H vs ds):RepDs N' H vs ds:=r.tr (M:=fun _=>False) (fun _ z=>z.elim) .refl fun p z=>.inl (h p z)
theorem weakH (h:∀ p,N' p→N p) {v:V} {a:A} {L:List Addr} (r:RepH K N H v a L):RepH K N' H v a L:=r.tr (M:=fun _=>False) (fun _ z=>z.elim) .refl (fun p z=>.inl (h p z)) fun _ _ z=>z
theorem weakHs (h:∀ p,N' p→N p) {vs:List V} {as:List A} {L:List Addr} (r:RepHs K N H vs as L):RepHs K N' H vs as L:=r.tr (M:=fun _=>False) (fun _ z=>z.elim) .refl (fun p z=>.inl (h p z)) fun _ _ z=>z
mutual
theorem RepH.er:∀ {a:A} {v:V} {L:List Addr} {d:D},RepH K N H v a L→J.er a = some d→RepA (fun p=>N p∧p ∉ L) H v d
 | .fz d,v,L,d',r,e=>by
  simp only [RepH] at r
  simp only [J.er,Option.some.injEq] at e
  subst e
  exact weakA (fun p z=>z.1) r.2
 | .lst as,v,L,d',r,e=>by
  simp only [RepH] at r
  simp only [J.er,Option.map_eq_some_iff] at e
  obtain ⟨a,vs,L',rfl,rfl,h,hz,hs⟩:=r
  obtain ⟨ds,e,rfl⟩:=e
  exact repList h hz (fun z=>z.2 (by simp)) (weakDs (fun p z=>⟨z.1,fun q=>z.2 (by simp [q])⟩) (RepHs.er hs e))
 | .tup as,v,L,d',r,e=>by
  simp only [RepH] at r
  simp only [J.er,Option.map_eq_some_iff] at e
  obtain ⟨a,vs,rfl,h,hz,hs⟩:=r
  obtain ⟨ds,e,rfl⟩:=e
  exact repTup h hz (RepHs.er hs e)
 | .scr ns,v,L,d',r,e=>by simp [J.er] at e
 | .dic kvs,v,L,d',r,e=>by simp [J.er] at e
theorem RepHs.er:∀ {as:List A} {vs:List V} {L:List Addr} {ds:List D},RepHs K N H vs as L→J.ers as = some ds→RepDs (fun p=>N p∧p ∉ L) H vs ds
 | [],vs,L,ds,r,e=>by
  cases vs <;> simp only [RepHs] at r
  simp only [J.ers,Option.some.injEq] at e
  subst e
  trivial
 | a :: as,vs,L,ds,r,e=>by
  cases vs with
  | nil=>simp only [RepHs] at r
  | cons v vs =>
   simp only [RepHs] at r
   simp only [J.ers,Option.bind_eq_some_iff,Option.map_eq_some_iff] at e
   obtain ⟨L1,L2,rfl,h1,h2⟩:=r
   obtain ⟨d,e1,ds',e2,rfl⟩:=e
   exact ⟨weakA (fun p z=>⟨z.1,fun q=>z.2 (by simp [q])⟩) (RepH.er h1 e1),weakDs (fun p z=>⟨z.1,fun q=>z.2 (by simp [q])⟩) (RepHs.er h2 e2)⟩
end
theorem RepHs.fzs:∀ {as:List A} {vs:List V} {L:List Addr} {ds:List D},RepHs K N H vs as L→J.fzs as = some ds→L = []∧RepDs N H vs ds
 | [],vs,L,ds,r,e=>by
  cases vs <;> simp only [RepHs] at r
  simp only [J.fzs,Option.some.injEq] at e
  subst e
  exact ⟨r,trivial⟩
 | a :: as,vs,L,ds,r,e=>by
  cases vs with
  | nil=>simp only [RepHs] at r
  | cons v vs =>
   simp only [RepHs] at r
   obtain ⟨L1,L2,rfl,h1,h2⟩:=r
   cases a with
   | fz d =>
    simp only [J.fzs,Option.map_eq_some_iff] at e
    obtain ⟨ds',e,rfl⟩:=e
    simp only [RepH] at h1
    obtain ⟨e1,q⟩:=RepHs.fzs h2 e
    exact ⟨by rw [h1.1,e1]; rfl,h1.2,q⟩
   | _=>simp [J.fzs] at e
theorem repFz {v:V} {d:D} (r:RepA N H v d):RepH K N H v (.fz d) []:=by rw [RepH]; exact ⟨rfl,r⟩
theorem RepHs.of:∀ {vs:List V} {ds:List D},RepDs N H vs ds→RepHs K N H vs (ds.map A.fz) []
 | [],[],_=>by simp [RepHs]
 | [],_ :: _,r=>by simp only [RepDs] at r
 | _ :: _,[],r=>by simp only [RepDs] at r
 | v :: vs,d :: ds,r=>by
  simp only [List.map_cons,RepHs]
  exact ⟨[],[],rfl,repFz r.1,RepHs.of r.2⟩
end
section
variable {K:PySem.W.Frag} {ρ ρ' ρ1 ρ2:Ro} {σ σ' σ1 σ2:St} {H H' H1 H2:Hp} {O O':Addr→Prop} {fp fp' fp1 fp2:Nat→List Addr} {L L1 L2:List Addr}
noncomputable def pt (fp:Nat→List Addr) (i:Nat) (L:List Addr):Nat→List Addr:=fun j=>if j = i then L else fp j
theorem pt_same {i:Nat}:pt fp i L i = L:=by simp [pt]
theorem pt_ne {i j:Nat} (h:j≠i):pt fp i L j = fp j:=by simp [pt,h]
theorem mem_pt {i j:Nat} {p:Addr} (h:p∈pt fp i L j):(j = i∧p∈L)∨(j≠i∧p∈fp j):=by
 by_cases e:j = i
 ·subst e; rw [pt_same] at h; exact .inl ⟨rfl,h⟩
 ·rw [pt_ne e] at h; exact .inr ⟨e,h⟩
theorem Rel.set (r:Rel K ρ σ H O fp) {i:Nat} {s:Slot} {o:Option V} (hi:i < ρ.length) (hO:∀ p,O' p→NN fp O p) (hL:∀ p∈L,NN fp O p) (nd:L.Nodup) (hd:∀ p∈L,∀ j,j≠i→p ∉ fp j) (ho:∀ p∈L,¬ O' p) (hoo:∀ j p,j≠i→p∈fp j→¬ O' p)
  (hs:∀ st a,s = some (st,a)→∃ v,o = some v∧RepH K (NN (pt fp i L) O') H v a L) (hn:s = none→L = []):Rel K (ρ.set i s) (σ.set i o) H O' (pt fp i L) where
 len:=by simp [r.len]
 slot:=fun j st a e=>by
  by_cases hj:j = i
  ·subst hj
   rw [List.getElem?_set_self hi] at e
   obtain ⟨v,e1,q⟩:=hs st a (Option.some.inj e)
   refine ⟨v,?_,by rw [pt_same]; exact q⟩
   rw [List.getElem?_set_self (by rw [← r.len]; exact hi),e1]
  ·rw [List.getElem?_set_ne (Ne.symm hj)] at e
   obtain ⟨v,e1,q⟩:=r.slot j st a e
   refine ⟨v,by rw [List.getElem?_set_ne (Ne.symm hj)]; exact e1,?_⟩
   rw [pt_ne hj]
   refine weakH (fun p z=>?_) q
   rcases z with ⟨k,z⟩ | z
   ·rcases mem_pt z with ⟨_,z⟩ | ⟨_,z⟩
    ·exact hL p z
    ·exact .inl ⟨k,z⟩
   ·exact hO p z
 out:=fun j h=>by
  by_cases hj:j = i
  ·subst hj
   rw [pt_same]
   cases s with
   | none=>exact hn rfl
   | some x=>exact absurd (List.getElem?_set_self hi) (h x.1 x.2)
  ·rw [pt_ne hj]
   exact r.out j fun st a e=>h st a (by rw [List.getElem?_set_ne (Ne.symm hj)]; exact e)
 nd:=fun j=>by
  by_cases hj:j = i
  ·subst hj; rw [pt_same]; exact nd
  ·rw [pt_ne hj]; exact r.nd j
 inj:=fun j k p h1 h2=>by
  rcases mem_pt h1 with ⟨e1,z1⟩ | ⟨e1,z1⟩
  ·rcases mem_pt h2 with ⟨e2,z2⟩ | ⟨e2,z2⟩
   ·rw [e1,e2]
   ·exact absurd z2 (hd p z1 k e2)
  ·rcases mem_pt h2 with ⟨e2,z2⟩ | ⟨e2,z2⟩
   ·exact absurd z1 (hd p z2 j e1)
   ·exact r.inj j k p z1 z2
 off:=fun j p h z=>by
  rcases mem_pt h with ⟨e1,z1⟩ | ⟨e1,z1⟩
  ·exact ho p z1 z
  ·exact hoo j p e1 z1 z
 al:=fun p z=>by
  rcases z with ⟨j,z⟩ | z
  ·rcases mem_pt z with ⟨_,z⟩ | ⟨_,z⟩
   ·exact r.al p (hL p z)
   ·exact r.al p (.inl ⟨j,z⟩)
  ·exact r.al p (hO p z)
theorem set_self {i:Nat} {v:V} (h : σ[i]? = some (some v)) : σ.set i (some v) = σ:=by
 apply List.ext_getElem?
 intro j
 by_cases e:j = i
 ·subst e
  have:=(List.getElem?_eq_some_iff.mp h).1
  rw [List.getElem?_set_self this,h]
 ·rw [List.getElem?_set_ne (Ne.symm e)]
theorem lt_of_get {α:Type} {l:List α} {i:Nat} {x:α} (h:l[i]? = some x):i < l.length:=(List.getElem?_eq_some_iff.mp h).1
theorem nn_nil {p:Addr}:NN fp (ad O []) p↔NN fp O p:=by simp [NN,ad]
theorem share_post {v:V} {r:R} {d:D} (x:Post K O fp H ρ ρ1 σ σ L fp1 H1) (q:RR K (NN fp1 (ad O L)) H1 σ v r L) (e:share ρ1 r = some (d,ρ2)) :
  ∃ fp2,Post K O fp H ρ ρ2 σ σ [] fp2 H1∧RepA (NN fp2 (ad O [])) H1 v d:=by
 cases r with
 | val a =>
  simp only [share,Option.map_eq_some_iff] at e
  obtain ⟨d',e,e'⟩:=e
  cases e'
  refine ⟨fp1,x.drop0,weakA (fun p z=>?_) (RepH.er q e)⟩
  have z':=nn_nil.mp z
  refine ⟨z'.imp id .inl,fun hp=>?_⟩
  rcases z' with ⟨i,z⟩ | z
  ·exact x.rel.off i p z (.inr hp)
  ·exact x.lo p hp z
 | ref i =>
  obtain ⟨rfl,hv⟩:=q
  simp only [share] at e
  split at e
  ·rename_i a ha
   simp only [Option.map_eq_some_iff] at e
   obtain ⟨d',e,e'⟩:=e
   cases e'
   obtain ⟨v',hv',q⟩:=x.rel.slot i _ _ ha
   rw [hv] at hv'; cases hv'
   have q2:RepA (NN (pt fp1 i []) (ad O [])) H1 v d:=weakA (fun p z=>by
    rcases z with ⟨j,z⟩ | z
    ·rcases mem_pt z with ⟨_,z⟩ | ⟨hj,z⟩
     ·simp at z
     ·exact ⟨.inl ⟨j,z⟩,fun hp=>hj (x.rel.inj j i p z hp)⟩
    ·exact ⟨.inr z,fun hp=>x.rel.off i p hp z⟩) (RepH.er q e)
   have R:=x.rel.set (i:=i) (s:=some (.own,.fz d)) (o:=some v) (L:=[]) (O':=ad O []) (lt_of_get ha) (fun p z=>.inr z) (fun p hp=>by simp at hp) List.nodup_nil (fun p hp=>by simp at hp) (fun p hp=>by simp at hp)
    (fun j p _ h=>x.rel.off j p h) (fun st a e=>by cases e; exact ⟨v,rfl,repFz q2⟩) (fun e=>by cases e)
   rw [set_self hv] at R
   refine ⟨pt fp1 i [],⟨R,List.nodup_nil,fun p hp=>by simp at hp,fun p hp=>?_,x.kept,rfl,fun j st a' h n=>?_⟩,q2⟩
   ·rcases hp with hp | ⟨j,hp⟩
    ·simp at hp
    ·rcases mem_pt hp with ⟨_,z⟩ | ⟨_,z⟩
     ·simp at z
     ·exact x.new p (.inr ⟨j,z⟩)
   ·obtain ⟨a2,h2,_,f2⟩:=x.stab j st a' h n
    refine ⟨a2,?_,rfl,f2⟩
    rw [List.getElem?_set_ne]
    ·exact h2
    ·rintro rfl
     rw [ha] at h2; cases h2; exact n rfl
  ·cases e
theorem move_post {v:V} {r:R} {a:A} (x:Post K O fp H ρ ρ1 σ σ L fp1 H1) (q:RR K (NN fp1 (ad O L)) H1 σ v r L) (e:move ρ1 r = some (a,ρ2)) :
  ∃ L2 fp2,Post K O fp H ρ ρ2 σ σ L2 fp2 H1∧RepH K (NN fp2 (ad O L2)) H1 v a L2:=by
 cases r with
 | val a =>
  simp only [move,Option.some.injEq] at e
  cases e
  exact ⟨L,fp1,x,q⟩
 | ref i =>
  obtain ⟨rfl,hv⟩:=q
  simp only [move] at e
  split at e
  ·rename_i a' ha
   cases e
   obtain ⟨v',hv',q⟩:=x.rel.slot i _ _ ha
   rw [hv] at hv'; cases hv'
   have nn:∀ p,NN (pt fp1 i []) (ad O (fp1 i)) p→NN fp1 (ad O []) p:=fun p z=>by
    rcases z with ⟨j,z⟩ | z | z
    ·rcases mem_pt z with ⟨_,z⟩ | ⟨_,z⟩
     ·simp at z
     ·exact .inl ⟨j,z⟩
    ·exact .inr (.inl z)
    ·exact .inl ⟨i,z⟩
   have R:=x.rel.set (i:=i) (s:=none) (o:=some v) (L:=[]) (O':=ad O (fp1 i)) (lt_of_get ha) (fun p z=>nn p (.inr z)) (fun p hp=>by simp at hp) List.nodup_nil (fun p hp=>by simp at hp) (fun p hp=>by simp at hp)
    (fun j p hj h z=>by
     rcases z with z | z
     ·exact x.rel.off j p h (.inl z)
     ·exact hj (x.rel.inj j i p h z)) (fun st a e=>by cases e) (fun _=>rfl)
   rw [set_self hv] at R
   refine ⟨fp1 i,pt fp1 i [],⟨R,x.rel.nd i,fun p hp z=>x.rel.off i p hp (.inl z),fun p hp=>?_,x.kept,rfl,fun j st a' h n=>?_⟩,weakH nn q⟩
   ·rcases hp with hp | ⟨j,hp⟩
    ·exact x.new p (.inr ⟨i,hp⟩)
    ·rcases mem_pt hp with ⟨_,z⟩ | ⟨_,z⟩
     ·simp at z
     ·exact x.new p (.inr ⟨j,z⟩)
   ·obtain ⟨a2,h2,_,f2⟩:=x.stab j st a' h n
    refine ⟨a2,?_,rfl,f2⟩
    rw [List.getElem?_set_ne]
    ·exact h2
    ·rintro rfl
     rw [ha] at h2; cases h2; exact n rfl
  ·cases e
end
end J
end
section
set_option Elab.async false
set_option linter.all false
namespace J
open PySem L2
section
variable {K:PySem.W.Frag} {ρ ρ' ρ1 ρ2:Ro} {σ σ' σ1 σ2:St} {H H' H1 H2:Hp} {O O' N:Addr→Prop} {fp fp' fp1 fp2:Nat→List Addr} {L L1 L2:List Addr}
theorem rrFz {v:V} {d:D} (r:RepA N H v d):RR K N H σ v (.val (.fz d)) []:=repFz (K:=K) r
noncomputable def OutP (K:PySem.W.Frag) (N:Addr→Prop) (H:Hp) (a:A) (v:V) (H':Hp):Prop:=Same H H'∧∃ L,RepH K (fun p=>N p∨p∈L) H' v a L∧L.Nodup∧∀ p∈L,H p = none
noncomputable abbrev RepS (K:PySem.W.Frag) (N:Addr→Prop) (H:Hp):List V→List A→Prop
 | [],[]=>True
 | v :: vs,a :: as=>(∃ L,RepH K N H v a L)∧RepS K N H vs as
 | _,_=>False
noncomputable def OpN (K:PySem.W.Frag) (f:List A→Option A) (r:List V→Hp→VK→Prop):Prop:=
 ∀ N H xs as b Q,RepS K N H xs as→f as = some b→(∀ v H',OutP K N H b v H'→Q v H')→r xs H Q
theorem Rel.peek {r:R} {v:V} {a:A} (x:Rel K ρ σ H O fp) (q:RR K (NN fp O) H σ v r L) (e:peek ρ r = some a):∃ L,RepH K (NN fp O) H v a L:=by
 cases r with
 | val b =>
  simp only [J.peek,Option.some.injEq] at e
  subst e
  exact ⟨L,q⟩
 | ref i =>
  simp only [J.peek] at e
  split at e
  ·rename_i st b hb
   cases e
   obtain ⟨v',h1,h2⟩:=x.slot i _ _ hb
   rw [q.2] at h1; cases h1
   exact ⟨_,h2⟩
  ·cases e
theorem Rel.peeks (x:Rel K ρ σ H O fp):∀ {rs:List R} {vs:List V} {as:List A} {L:List Addr},RRs K (NN fp O) H σ vs rs L→J.peeks ρ rs = some as→RepS K (NN fp O) H vs as
 | [],[],as,L,_,e=>by
  simp only [J.peeks,Option.some.injEq] at e
  subst e
  trivial
 | [],_ :: _,_,_,q,_=>by simp only [RRs] at q
 | _ :: _,[],_,_,q,_=>by simp only [RRs] at q
 | r :: rs,v :: vs,as,L,q,e=>by
  simp only [J.peeks,Option.bind_eq_some_iff,Option.map_eq_some_iff] at e
  obtain ⟨a,e1,as',e2,rfl⟩:=e
  simp only [RRs] at q
  obtain ⟨L1,L2,rfl,q1,q2⟩:=q
  exact ⟨x.peek q1 e1,x.peeks q2 e2⟩
theorem Post.out {a:A} {v:V} (x:Post K O fp H ρ ρ1 σ σ L fp1 H1) (o:OutP K (NN fp1 (ad O L)) H1 a v H2):PostE K O fp H ρ ρ1 σ (.val a) v H2:=by
 obtain ⟨s,L',r,nd,nw⟩:=o
 have al:=r.al
 have alO:∀ p,NN fp1 (ad O L) p→H1 p≠none:=x.rel.al
 refine ⟨L',fp1,⟨x.rel.grow s (fun p z=>z.imp .inl (nw p)) fun p z=>?_,nd,fun p hp z=>alO p (.inr (.inl z)) (nw p hp),fun p hp=>?_,x.kept.trans (Same.kept (L:=fun _=>False) s) fun _ z=>z.elim,x.ln,x.stab⟩,?_⟩
 ·rcases z with z | z
  ·intro q
   have:=alO p (.inr (.inl z))
   cases e:H1 p with
   | none=>exact this e
   | some o=>rw [s p o e] at q; cases q
  ·exact al p z
 ·rcases hp with hp | hp
  ·have e1:=nw p hp
   cases e:H p with
   | none=>exact .inr rfl
   | some o =>
    by_cases hf:Fp fp p
    ·exact .inl hf
    ·rw [x.kept p o e (.inl hf)] at e1; cases e1
  ·exact x.new p (.inr hp)
 ·refine weakH (fun p z=>?_) r
  rcases z with z | z | z
  ·exact .inl (.inl z)
  ·exact .inl (.inr (.inl z))
  ·exact .inr z
theorem tE_op {f:List A→Option A} {r:List V→Hp→VK→Prop} {m:MA} {Q:VK} (ok:OpN K f r) (h:tE K (opM f m) σ H Q):tA K m σ H fun vs H1=>r vs H1 Q:=by
 obtain ⟨ρ,O,fp,rl,x,ρ',e,k⟩:=h
 simp only [opM,Option.bind_eq_some_iff,Option.map_eq_some_iff] at e
 obtain ⟨⟨rs,ρ1⟩,e1,as,e2,b,e3,e4⟩:=e
 cases e4
 refine ⟨ρ,O,fp,rl,rs,_,e1,fun vs H1 yy=>?_⟩
 obtain ⟨L,fp1,p,q⟩:=yy
 exact ok _ H1 vs as b Q (p.rel.peeks q e2) e3 fun v H' o=>k v H' (p.out o)
theorem tE_var {i:Nat} {Q:VK} (h:tE K (varM i) σ H Q):tVar i σ H Q:=by
 obtain ⟨ρ,O,fp,rl,x,ρ',e,k⟩:=h
 simp only [varM] at e
 split at e
 ·rename_i st d hd
  cases e
  obtain ⟨v,h1,h2⟩:=rl.slot i _ _ hd
  refine ⟨v,h1,k v H ⟨[],fp,rl.post,?_⟩⟩
  rw [RepH] at h2
  exact rrFz (weakA (fun p z=>nn_nil.mp z) h2.2)
 ·rename_i y hn hy
  cases e
  obtain ⟨st,a⟩:=y
  obtain ⟨v,h1,h2⟩:=rl.slot i _ _ hy
  exact ⟨v,h1,k v H ⟨[],fp,rl.post,rfl,h1⟩⟩
 ·cases e
theorem tE_lit {d:D} {v:V} {Q:VK} (hv:∀ N H,RepA N H v d) (h:tE K (litM d) σ H Q):tC v σ H Q:=by
 obtain ⟨ρ,O,fp,rl,x,ρ',e,k⟩:=h
 cases e
 exact k v H ⟨[],fp,rl.post,rrFz (hv _ _)⟩
theorem tE_plain {m:ME} {Q:VK} (h:tE K (plainM m) σ H Q):tE K m σ H Q:=by
 obtain ⟨ρ,O,fp,rl,x,ρ',e,k⟩:=h
 simp only [plainM,Option.bind_eq_some_iff,Option.map_eq_some_iff] at e
 obtain ⟨⟨r,ρ1⟩,e1,⟨d,ρ2⟩,e2,e3⟩:=e
 cases e3
 refine ⟨ρ,O,fp,rl,r,ρ1,e1,fun v H1 yy=>?_⟩
 obtain ⟨L,fp1,p,q⟩:=yy
 obtain ⟨fp2,p2,q2⟩:=share_post p q e2
 exact k v H1 ⟨[],fp2,p2,rrFz q2⟩
theorem repBl {v:V} {a:A} {b:Bool} (h:RepH K N H v a L) (e:boolA a = some b):v = .bl b:=by
 cases a with
 | fz d =>
  cases d with
  | bl c =>
   simp only [boolA,Option.some.injEq] at e
   subst e
   rw [RepH] at h
   obtain ⟨_,h⟩:=h
   cases h
   rfl
  | _=>simp [boolA] at e
 | _=>simp [boolA] at e
theorem tT_tst {m:ME} {Q:Bool→Hp→Prop} (h:tT K (tstM m) σ H Q):tE K m σ H fun x H1=>∃ c,x = .bl c∧Q c H1:=by
 obtain ⟨ρ,O,fp,rl,x,ρ',e,k⟩:=h
 simp only [tstM,Option.bind_eq_some_iff,Option.map_eq_some_iff] at e
 obtain ⟨⟨r,ρ1⟩,e1,a,e2,b,e3,e4⟩:=e
 cases e4
 refine ⟨ρ,O,fp,rl,r,_,e1,fun v H1 yy=>?_⟩
 obtain ⟨L,fp1,p,q⟩:=yy
 obtain ⟨L',q'⟩:=p.rel.peek q e2
 exact ⟨_,repBl q' e3,k fp1 H1 p.drop0⟩
theorem Post.next {σ2:St} (x:Post K O fp H ρ ρ1 σ σ1 [] fp1 H1) (y:Post K O fp1 H1 ρ1 ρ2 σ1 σ2 L2 fp2 H2):Post K O fp H ρ ρ2 σ σ2 L2 fp2 H2:=by
 have e:ad O [] = O:=funext fun p=>propext ad_nil
 exact Post.then (L1:=[]) x (by rw [e]; exact y)
theorem Post.rel0 (x:Post K O fp H ρ ρ1 σ σ1 [] fp1 H1):Rel K ρ1 σ1 H1 O fp1:=x.rel.congr fun p=>ad_nil
theorem PostE.pre {r:R} {v:V} (x:Post K O fp H ρ ρ1 σ σ [] fp1 H1) (y:PostE K O fp1 H1 ρ1 ρ2 σ r v H2):PostE K O fp H ρ ρ2 σ r v H2:=by
 obtain ⟨L,fp2,p,q⟩:=y
 exact ⟨L,fp2,x.next p,q⟩
theorem tT_and {a b:MT} {Q:Bool→Hp→Prop} (h:tT K (andT a b) σ H Q):tT K a σ H fun c H1=>if c = true then tT K b σ H1 Q else Q false H1:=by
 obtain ⟨ρ,O,fp,rl,x,ρ',e,k⟩:=h
 simp only [andT,Option.bind_eq_some_iff] at e
 obtain ⟨⟨c,ρ1⟩,e1,e2⟩:=e
 refine ⟨ρ,O,fp,rl,c,ρ1,e1,fun fp1 H1 p=>?_⟩
 cases c with
 | true =>
  rw [if_pos rfl] at e2 ⊢
  exact ⟨ρ1,O,fp1,p.rel0,x,ρ',e2,fun fp2 H2 p2=>k fp2 H2 (p.next p2)⟩
 | false =>
  simp at e2
  obtain ⟨rfl,rfl⟩:=e2
  rw [if_neg Bool.false_ne_true]
  exact k fp1 H1 p
theorem tT_or {a b:MT} {Q:Bool→Hp→Prop} (h:tT K (orT a b) σ H Q):tT K a σ H fun c H1=>if c = true then Q true H1 else tT K b σ H1 Q:=by
 obtain ⟨ρ,O,fp,rl,x,ρ',e,k⟩:=h
 simp only [orT,Option.bind_eq_some_iff] at e
 obtain ⟨⟨c,ρ1⟩,e1,e2⟩:=e
 refine ⟨ρ,O,fp,rl,c,ρ1,e1,fun fp1 H1 p=>?_⟩
 cases c with
 | false =>
  simp at e2
  rw [if_neg Bool.false_ne_true]
  exact ⟨ρ1,O,fp1,p.rel0,x,ρ',e2,fun fp2 H2 p2=>k fp2 H2 (p.next p2)⟩
 | true =>
  simp at e2
  obtain ⟨rfl,rfl⟩:=e2
  rw [if_pos rfl]
  exact k fp1 H1 p
theorem tT_not {a:MT} {Q:Bool→Hp→Prop} (h:tT K (notT a) σ H Q):tT K a σ H fun c H1=>Q (!c) H1:=by
 obtain ⟨ρ,O,fp,rl,x,ρ',e,k⟩:=h
 simp only [notT,Option.map_eq_some_iff] at e
 obtain ⟨⟨c,ρ1⟩,e1,e2⟩:=e
 cases e2
 exact ⟨ρ,O,fp,rl,c,_,e1,k⟩
theorem tT_tst' {m:ME} {Q:Bool→Hp→Prop} {ρ ρ':Ro} {b:Bool} {O:Addr→Prop} {fp:Nat→List Addr} (rl:Rel K ρ σ H O fp) (e:tstM m ρ = some (b,ρ')) (k:∀ fp' H',Post K O fp H ρ ρ' σ σ [] fp' H'→Q b H'):tE K m σ H fun x H1=>∃ c,x = .bl c∧Q c H1:=
 tT_tst ⟨ρ,O,fp,rl,b,ρ',e,k⟩
theorem tE_and {a b:ME} {Q:VK} (h:tE K (andM a b) σ H Q):tE K a σ H fun x H1=>∃ c,x = .bl c∧if c = true then tE K b σ H1 Q else Q (.bl false) H1:=by
 obtain ⟨ρ,O,fp,rl,x,ρ',e,k⟩:=h
 simp only [andM,Option.bind_eq_some_iff] at e
 obtain ⟨⟨c,ρ1⟩,e1,e2⟩:=e
 refine tT_tst' (Q:=fun c H1=>if c = true then tE K b σ H1 Q else Q (.bl false) H1) rl e1 fun fp1 H1 p=>?_
 cases c with
 | true =>
  rw [if_pos rfl] at e2 ⊢
  exact ⟨ρ1,O,fp1,p.rel0,x,ρ',e2,fun v H2 p2=>k v H2 (p2.pre p)⟩
 | false =>
  simp at e2
  obtain ⟨rfl,rfl⟩:=e2
  rw [if_neg Bool.false_ne_true]
  exact k _ H1 ⟨[],fp1,p,rrFz (.bl _)⟩
theorem tE_not {a:ME} {Q:VK} (h:tE K (notM a) σ H Q):tE K a σ H fun x H1=>∃ c,x = .bl c∧Q (.bl (!c)) H1:=by
 obtain ⟨ρ,O,fp,rl,x,ρ',e,k⟩:=h
 simp only [notM,Option.map_eq_some_iff] at e
 obtain ⟨⟨c,ρ1⟩,e1,e2⟩:=e
 cases e2
 exact tT_tst' (Q:=fun c H1=>Q (.bl (!c)) H1) rl e1 fun fp1 H1 p=>k _ H1 ⟨[],fp1,p,rrFz (.bl _)⟩
theorem RRs.vals:∀ {rs:List R} {vs:List V} {as:List A} {L:List Addr},RRs K N H σ vs rs L→J.vals rs = some as→RepHs K N H vs as L
 | [],[],as,L,q,e=>by
  simp only [J.vals,Option.some.injEq] at e
  subst e
  simp only [RRs] at q
  simp only [RepHs]
  exact q
 | [],_ :: _,_,_,q,_=>by simp only [RRs] at q
 | _ :: _,[],_,_,q,_=>by simp only [RRs] at q
 | r :: rs,v :: vs,as,L,q,e=>by
  cases r with
  | ref i=>simp [J.vals] at e
  | val a =>
   simp only [J.vals,Option.map_eq_some_iff] at e
   obtain ⟨as',e2,rfl⟩:=e
   simp only [RRs] at q
   obtain ⟨L1,L2,rfl,q1,q2⟩:=q
   simp only [RepHs]
   exact ⟨L1,L2,rfl,q1,RRs.vals q2 e2⟩
theorem same_updJ {p:Addr} {o:HO} (h:H p = none):Same H (upd H p o):=fun b o' e=>by
 rw [upd_ne (ne_of_none e h)]; exact e
theorem Post.more {L':List Addr} (x:Post K O fp H ρ ρ1 σ σ1 L fp1 H1) (s:Same H1 H2) (nd:L'.Nodup) (h:∀ p∈L',p∈L∨(H1 p = none∧H2 p≠none)):Post K O fp H ρ ρ1 σ σ1 L' fp1 H2 where
 rel:=x.rel.grow s (fun p z=>by
   rcases z with z | z
   ·exact .inl (.inl z)
   ·rcases h p z with q | q
    ·exact .inl (.inr q)
    ·exact .inr q.1) fun p z=>by
   have key:H1 p≠none→H2 p≠none:=fun n q=>by
    cases e:H1 p with
    | none=>exact n e
    | some o=>rw [s p o e] at q; cases q
   rcases z with z | z
   ·exact key (x.rel.al p (.inr (.inl z)))
   ·rcases h p z with q | q
    ·exact key (x.rel.al p (.inr (.inr q)))
    ·exact q.2
 nd:=nd
 lo:=fun p hp z=>by
  rcases h p hp with q | q
  ·exact x.lo p q z
  ·exact x.rel.al p (.inr (.inl z)) q.1
 new:=fun p hp=>by
  rcases hp with hp | hp
  ·rcases h p hp with q | q
   ·exact x.new p (.inl q)
   ·cases e:H p with
    | none=>exact .inr rfl
    | some o =>
     by_cases hf:Fp fp p
     ·exact .inl hf
     ·have:=x.kept p o e (.inl hf)
      rw [q.1] at this; cases this
  ·exact x.new p (.inr hp)
 kept:=x.kept.trans (Same.kept (L:=fun _=>False) s) fun _ z=>z.elim
 ln:=x.ln
 stab:=x.stab
theorem tE_lst {m:MA} {Q:VK} (h:tE K (lstM m) σ H Q):tLst (tA K m) σ H Q:=by
 obtain ⟨ρ,O,fp,rl,x,ρ',e,k⟩:=h
 simp only [lstM,Option.bind_eq_some_iff] at e
 obtain ⟨⟨rs,ρ1⟩,e1,as,e2,e3⟩:=e
 split at e3
 ·rename_i hz
  cases e3
  refine ⟨ρ,O,fp,rl,rs,_,e1,fun vs H1 yy=>?_⟩
  obtain ⟨L,fp1,p,q⟩:=yy
  have q':=q.vals e2
  have hl:=q'.len
  refine ⟨by rw [hl]; exact hz,fun a ha=>k _ _ ?_⟩
  have s:=same_updJ (o:=.lst vs) ha
  have nL:a ∉ L:=fun z=>p.rel.al a (.inr (.inr z)) ha
  refine ⟨a :: L,fp1,p.more s (List.nodup_cons.mpr ⟨nL,p.nd⟩) (fun b hb=>?_),?_⟩
  ·rcases List.mem_cons.mp hb with rfl | hb
   ·exact .inr ⟨ha,by rw [upd_same]; simp⟩
   ·exact .inl hb
  ·show RepH _ _ _ _ _ _
   rw [RepH]
   refine ⟨a,vs,L,rfl,rfl,upd_same,by rw [hl]; exact hz,q'.tr (M:=fun _=>False) (fun _ z=>z.elim) (Same.kept s) (fun b z=>?_) fun _ _ z=>z⟩
   rcases z with z | z | z
   ·exact .inl (.inl z)
   ·exact .inl (.inr (.inl z))
   ·rcases List.mem_cons.mp z with rfl | z
    ·exact .inr ha
    ·exact .inl (.inr (.inr z))
 ·cases e3
end
end J
end
section
set_option Elab.async false
set_option linter.all false
namespace J
open PySem L2
noncomputable def Want (K:PySem.W.Frag) (O:Addr→Prop) (fp:Nat→List Addr) (H:Hp) (ρ:Ro) (σ:St) (D:Ends):Fl→Prop
 | .next ρ'=>∀ σ' fp' H',Post K O fp H ρ ρ' σ σ' [] fp' H'→D.nx σ' H'
 | .brk ρ'=>∀ σ' fp' H',Post K O fp H ρ ρ' σ σ' [] fp' H'→D.bk σ' H'
 | .cnt ρ'=>∀ σ' fp' H',Post K O fp H ρ ρ' σ σ' [] fp' H'→D.ct σ' H'
 | .ret a ρ'=>∀ σ' v L fp' H',Post K O fp H ρ ρ' σ σ' L fp' H'→RepH K (NN fp' (ad O L)) H' v a L→D.rt v H'
noncomputable def tS (K:PySem.W.Frag) (m:MS):TS:=fun D σ H=>∃ ρ O fp,Rel K ρ σ H O fp∧∃ fl,m ρ = some fl∧Want K O fp H ρ σ D fl
section
variable {K:PySem.W.Frag} {ρ ρ' ρ1 ρ2:Ro} {σ σ' σ1 σ2:St} {H H' H1 H2:Hp} {O O' N:Addr→Prop} {fp fp' fp1 fp2:Nat→List Addr} {L L1 L2:List Addr} {D:Ends}
theorem Want.pre {fl:Fl} (x:Post K O fp H ρ ρ1 σ σ1 [] fp1 H1) (w:Want K O fp H ρ σ D fl):Want K O fp1 H1 ρ1 σ1 D fl:=by
 cases fl with
 | next ρ'=>exact fun σ' fp' H' p=>w σ' fp' H' (x.next p)
 | brk ρ'=>exact fun σ' fp' H' p=>w σ' fp' H' (x.next p)
 | cnt ρ'=>exact fun σ' fp' H' p=>w σ' fp' H' (x.next p)
 | ret a ρ'=>exact fun σ' v L fp' H' p q=>w σ' v L fp' H' (x.next p) q
theorem tS_skip (h:tS K skipS D σ H):tNext D σ H:=by
 obtain ⟨ρ,O,fp,rl,fl,e,w⟩:=h
 cases e
 exact w σ fp H rl.post
theorem tS_brk (h:tS K brkS D σ H):tBreak D σ H:=by
 obtain ⟨ρ,O,fp,rl,fl,e,w⟩:=h
 cases e
 exact w σ fp H rl.post
theorem tS_seq {a b:MS} (h:tS K (seqS a b) D σ H):tSeq (tS K a) (tS K b) D σ H:=by
 obtain ⟨ρ,O,fp,rl,fl,e,w⟩:=h
 simp only [seqS,Option.bind_eq_some_iff] at e
 obtain ⟨f1,e1,e2⟩:=e
 refine ⟨ρ,O,fp,rl,f1,e1,?_⟩
 cases f1 with
 | next ρ1=>exact fun σ1 fp1 H1 p=>⟨ρ1,O,fp1,p.rel0,fl,e2,w.pre p⟩
 | brk ρ1=>cases e2; exact w
 | cnt ρ1=>cases e2; exact w
 | ret a ρ1=>cases e2; exact w
theorem tS_if {c:MT} {a b:MS} (h:tS K (ifS c a b) D σ H):tIfS (tT K c) (tS K a) (tS K b) D σ H:=by
 obtain ⟨ρ,O,fp,rl,fl,e,w⟩:=h
 simp only [ifS,Option.bind_eq_some_iff] at e
 obtain ⟨⟨c,ρ1⟩,e1,e2⟩:=e
 refine ⟨ρ,O,fp,rl,c,ρ1,e1,fun fp1 H1 p=>?_⟩
 cases c with
 | true =>
  simp at e2
  rw [if_pos rfl]
  exact ⟨ρ1,O,fp1,p.rel0,fl,e2,w.pre p⟩
 | false =>
  simp at e2
  rw [if_neg Bool.false_ne_true]
  exact ⟨ρ1,O,fp1,p.rel0,fl,e2,w.pre p⟩
theorem tS_exp {m:ME} (h:tS K (expS m) D σ H):tDrop (tE K m) D σ H:=by
 obtain ⟨ρ,O,fp,rl,fl,e,w⟩:=h
 simp only [expS,Option.map_eq_some_iff] at e
 obtain ⟨⟨r,ρ1⟩,e1,e2⟩:=e
 cases e2
 exact ⟨ρ,O,fp,rl,r,ρ1,e1,fun v H1 ⟨L,fp1,p,q⟩=>w σ fp1 H1 p.drop0⟩
theorem tS_ret {m:ME} (h:tS K (retS m) D σ H):tRet (tE K m) D σ H:=by
 obtain ⟨ρ,O,fp,rl,fl,e,w⟩:=h
 simp only [retS,Option.bind_eq_some_iff,Option.map_eq_some_iff] at e
 obtain ⟨⟨r,ρ1⟩,e1,⟨a,ρ2⟩,e2,e3⟩:=e
 cases e3
 refine ⟨ρ,O,fp,rl,r,ρ1,e1,fun v H1 yy=>?_⟩
 obtain ⟨L,fp1,p,q⟩:=yy
 obtain ⟨L2,fp2,p2,q2⟩:=move_post p q e2
 exact w σ v L2 fp2 H1 p2 q2
theorem free_own {i:Nat} (h:free ρ i = true):i < ρ.length∧∀ st a,ρ[i]? = some (some (st,a))→st = .own:=by
 unfold free at h
 split at h
 ·rename_i e
  exact ⟨lt_of_get e,fun st a e'=>by rw [e] at e'; cases e'⟩
 ·rename_i a e
  exact ⟨lt_of_get e,fun st a e'=>by rw [e] at e'; cases e'; rfl⟩
 ·cases h
theorem Post.store {i:Nat} {v:V} {a:A} {σ1:St} (x:Post K O fp H ρ ρ1 σ σ1 (L1 ++ L2) fp1 H1) (hf:free ρ1 i = true) (q:RepH K (NN fp1 (ad O (L1 ++ L2))) H1 v a L1) :
  Post K O fp H ρ (ρ1.set i (some (.own,a))) σ (σ1.set i (some v)) L2 (pt fp1 i L1) H1:=by
 obtain ⟨hi,ho⟩:=free_own hf
 have nd:=List.nodup_append.mp x.nd
 have nn:∀ p,NN (pt fp1 i L1) (ad O L2) p→NN fp1 (ad O (L1 ++ L2)) p:=fun p z=>by
  rcases z with ⟨j,z⟩ | z | z
  ·rcases mem_pt z with ⟨_,z⟩ | ⟨_,z⟩
   ·exact .inr (.inr (List.mem_append_left _ z))
   ·exact .inl ⟨j,z⟩
  ·exact .inr (.inl z)
  ·exact .inr (.inr (List.mem_append_right _ z))
 refine ⟨x.rel.set (O':=ad O L2) hi (fun p z=>nn p (.inr z)) (fun p hp=>.inr (.inr (List.mem_append_left _ hp))) nd.1 (fun p hp j _ z=>x.rel.off j p z (.inr (List.mem_append_left _ hp))) (fun p hp z=>?_)
  (fun j p _ h z=>x.rel.off j p h (z.imp id (List.mem_append_right _))) (fun st a' e=>by cases e; exact ⟨v,rfl,weakH nn q⟩) (fun e=>by cases e),nd.2.1,fun p hp=>x.lo p (List.mem_append_right _ hp),fun p hp=>?_,x.kept,by rw [List.length_set]; exact x.ln,fun j st a' h n=>?_⟩
 ·rcases z with z | z
  ·exact x.lo p (List.mem_append_left _ hp) z
  ·exact nd.2.2 p hp p z rfl
 ·rcases hp with hp | ⟨j,hp⟩
  ·exact x.new p (.inl (List.mem_append_right _ hp))
  ·rcases mem_pt hp with ⟨_,z⟩ | ⟨_,z⟩
   ·exact x.new p (.inl (List.mem_append_left _ z))
   ·exact x.new p (.inr ⟨j,z⟩)
 ·obtain ⟨a2,h2,e2,f2⟩:=x.stab j st a' h n
  have hj:j≠i:=by
   rintro rfl
   exact n (ho st a2 h2)
  exact ⟨a2,by rw [List.getElem?_set_ne (Ne.symm hj)]; exact h2,by rw [List.getElem?_set_ne (Ne.symm hj)]; exact e2,f2⟩
theorem keep_post {v:V} {r:R} {a:A} (x:Post K O fp H ρ ρ1 σ σ L fp1 H1) (q:RR K (NN fp1 (ad O L)) H1 σ v r L) (e:keep ρ1 r = some (a,ρ2)) :
  ∃ L2 fp2,Post K O fp H ρ ρ2 σ σ L2 fp2 H1∧RepH K (NN fp2 (ad O L2)) H1 v a L2:=by
 cases r with
 | val b =>
  simp only [keep,Option.some.injEq] at e
  cases e
  exact ⟨L,fp1,x,q⟩
 | ref i =>
  simp only [keep,Option.map_eq_some_iff] at e
  obtain ⟨⟨d,ρ3⟩,e,e'⟩:=e
  cases e'
  obtain ⟨fp2,p,q2⟩:=share_post x q e
  exact ⟨[],fp2,p,repFz q2⟩
theorem tS_asg {i:Nat} {m:ME} (h:tS K (asgS i m) D σ H):tAsg (tE K m) (gName i) D σ H:=by
 obtain ⟨ρ,O,fp,rl,fl,e,w⟩:=h
 simp only [asgS,Option.bind_eq_some_iff] at e
 obtain ⟨⟨r,ρ1⟩,e1,⟨a,ρ2⟩,e2,e3⟩:=e
 split at e3
 ·rename_i hf
  cases e3
  refine ⟨ρ,O,fp,rl,r,ρ1,e1,fun v H1 yy=>?_⟩
  obtain ⟨L,fp1,p,q⟩:=yy
  obtain ⟨L2,fp2,p2,q2⟩:=keep_post p q e2
  exact w _ _ H1 (Post.store (L1:=L2) (L2:=[]) (by rw [List.append_nil]; exact p2) hf (by rw [List.append_nil]; exact q2))
 ·cases e3
noncomputable def gNames:List Nat→TGs
 | []=>gNil
 | i :: is=>gCons (gName i) (gNames is)
theorem setAll_ok {Q:St→Hp→Prop}:∀ {is:List Nat} {as:List A} {vs:List V} {ρ1 ρ2:Ro} {σ1:St} {fp1:Nat→List Addr} {L:List Addr},Post K O fp H ρ ρ1 σ σ1 L fp1 H1→RepHs K (NN fp1 (ad O L)) H1 vs as L→setAll is as ρ1 = some ρ2 →
  (∀ σ' fp',Post K O fp H ρ ρ2 σ σ' [] fp' H1→Q σ' H1)→gNames is vs σ1 H1 Q
 | [],[],vs,ρ1,ρ2,σ1,fp1,L,x,q,e,k=>by
  cases vs with
  | cons v vs=>simp only [RepHs] at q
  | nil =>
   simp only [setAll,Option.some.injEq] at e
   subst e
   exact ⟨rfl,k σ1 fp1 x.drop0⟩
 | [],_ :: _,_,_,_,_,_,_,_,_,e,_=>by simp [setAll] at e
 | _ :: _,[],_,_,_,_,_,_,_,_,e,_=>by simp [setAll] at e
 | i :: is,a :: as,vs,ρ1,ρ2,σ1,fp1,L,x,q,e,k=>by
  cases vs with
  | nil=>simp only [RepHs] at q
  | cons v vs =>
   simp only [RepHs] at q
   obtain ⟨L1,L2,rfl,q1,q2⟩:=q
   simp only [setAll] at e
   split at e
   ·rename_i hf
    refine ⟨v,vs,rfl,?_⟩
    have p:=x.store hf q1
    refine setAll_ok p (weakHs (fun p z=>?_) q2) e k
    rcases z with ⟨j,z⟩ | z | z
    ·rcases mem_pt z with ⟨_,z⟩ | ⟨_,z⟩
     ·exact .inr (.inr (List.mem_append_left _ z))
     ·exact .inl ⟨j,z⟩
    ·exact .inr (.inl z)
    ·exact .inr (.inr (List.mem_append_right _ z))
   ·cases e
theorem setAll_len:∀ {is:List Nat} {as:List A} {ρ1 ρ2:Ro},setAll is as ρ1 = some ρ2→is.length = as.length
 | [],[],_,_,_=>rfl
 | [],_ :: _,_,_,e=>by simp [setAll] at e
 | _ :: _,[],_,_,e=>by simp [setAll] at e
 | i :: is,a :: as,_,_,e=>by
  simp only [setAll] at e
  split at e
  ·simp [setAll_len e]
  ·cases e
theorem tS_while {n:Nat} {c:MT} {b:MS} (h:tS K (whileS n c b) D σ H):tWhile (tT K c) (tS K b) D σ H:=by
 obtain ⟨ρ,O,fp,rl,fl,e,w⟩:=h
 refine ⟨fun n σ' H'=>∃ ρ' fp',Post K O fp H ρ ρ' σ σ' [] fp' H'∧whileN c b n ρ' = some fl,⟨n,ρ,fp,rl.post,e⟩,?_⟩
 rintro n σ1 H1 ⟨ρ1,fp1,p1,e1⟩
 cases n with
 | zero=>simp [whileN] at e1
 | succ n =>
  simp only [whileN,Option.bind_eq_some_iff] at e1
  obtain ⟨⟨c,ρ2⟩,e2,e3⟩:=e1
  refine ⟨ρ1,O,fp1,p1.rel0,c,ρ2,e2,fun fp2 H2 p2=>?_⟩
  have p12:=p1.next p2
  cases c with
  | false =>
   simp at e3
   subst e3
   dsimp only
   rw [if_neg Bool.false_ne_true]
   exact w _ _ _ p12
  | true =>
   simp only [if_true,Option.bind_eq_some_iff] at e3
   obtain ⟨f,e4,e5⟩:=e3
   dsimp only
   rw [if_pos rfl]
   refine ⟨_,fun σ' H' z=>⟨n,Nat.lt_succ_self n,z⟩,ρ2,O,fp2,p12.rel0,f,e4,?_⟩
   cases f with
   | next ρ3=>exact fun σ' fp' H' p=>⟨ρ3,fp',p12.next p,e5⟩
   | cnt ρ3=>exact fun σ' fp' H' p=>⟨ρ3,fp',p12.next p,e5⟩
   | brk ρ3 =>
    cases e5
    exact fun σ' fp' H' p=>w σ' fp' H' (p12.next p)
   | ret a ρ3 =>
    cases e5
    exact fun σ' v L fp' H' p q=>w σ' v L fp' H' (p12.next p) q
end
end J
end
section
set_option Elab.async false
set_option linter.all false
namespace J
open PySem L2
noncomputable def ItR (J:It) (C:(Addr→Prop)→Hp→Prop) (ds:List D):Prop:=∀ N H,C N H→(∀ i,i < ds.length→J.go i H)∧(∀ i,ds.length≤i→J.stop i H)∧∀ i x H' d,J.yld i H x H'→ds[i]? = some d→Same H H'∧RepA N H' x d
noncomputable def Tups (H H':Hp):Prop:=∀ p xs,H p = some (.tup xs)→H' p = some (.tup xs)
noncomputable def ItP (K:PySem.W.Frag) (O:Addr→Prop) (fp:Nat→List Addr) (H:Hp) (ρ ρ':Ro) (σ:St) (ds:List D) (n:Option Nat) (J:It) (H':Hp):Prop:=
 ∃ r v a L fp',Post K O fp H ρ ρ' σ σ L fp' H'∧RR K (NN fp' (ad O L)) H' σ v r L∧n = nameOf r∧peek ρ' r = some a∧ItR J (fun N H=>(∃ L,RepH K N H v a L)∧Tups H' H) ds
noncomputable def tI (K:PySem.W.Frag) (m:MI):TI:=fun σ H R=>∃ ρ O fp,Rel K ρ σ H O fp∧∃ ds n ρ',m ρ = some (ds,n,ρ')∧∀ J H',ItP K O fp H ρ ρ' σ ds n J H'→R J H'
section
variable {K:PySem.W.Frag} {ρ ρ' ρ1 ρ2:Ro} {σ σ' σ1 σ2:St} {H H' H1 H2:Hp} {O O' N:Addr→Prop} {fp fp' fp1 fp2:Nat→List Addr} {L L1 L2:List Addr}
theorem lock_get {n:Option Nat} {j:Nat}:(lock ρ n)[j]? = match ρ[j]? with
  | some (some (st,a))=>some (some (if n = some j then .ro else st,a))
  | x=>x:=by
 cases n with
 | none =>
  simp only [lock]
  split <;> simp_all
 | some i =>
  simp only [lock]
  split
  ·rename_i st a e
   by_cases h:j = i
   ·subst h
    rw [List.getElem?_set_self (lt_of_get e),e]
    simp
   ·rw [List.getElem?_set_ne (Ne.symm h)]
    split
    ·have:¬ (some i = some j):=fun z=>h (Option.some.inj z).symm
     simp [this, *]
    ·rfl
  ·rename_i hn
   by_cases h:j = i
   ·subst h
    split
    ·rename_i st a e
     exact absurd e (hn st a)
    ·rfl
   ·split
    ·have:¬ (some i = some j):=fun z=>h (Option.some.inj z).symm
     simp [this, *]
    ·rfl
theorem Rel.lock {n:Option Nat} (r:Rel K ρ σ H O fp):Rel K (J.lock ρ n) σ H O fp where
 len:=by
  rw [← r.len]
  cases n with
  | none=>rfl
  | some i=>simp only [J.lock]; split <;> simp
 slot:=fun i st a e=>by
  rw [lock_get] at e
  split at e
  ·rename_i st' a' e'
   simp only [Option.some.injEq,Prod.mk.injEq] at e
   obtain ⟨_,rfl⟩:=e
   exact r.slot i _ _ e'
  ·exact r.slot i _ _ e
 out:=fun i h=>r.out i fun st a e=>h (if n = some i then .ro else st) a (by rw [lock_get,e])
 nd:=r.nd
 inj:=r.inj
 off:=r.off
 al:=r.al
theorem Post.unlock {n:Option Nat} {a:A} (hn:∀ i,n = some i→∃ st,ρ1[i]? = some (some (st,a))) (x:Post K O fp1 H1 (J.lock ρ1 n) ρ2 σ1 σ2 L fp2 H2):Post K O fp1 H1 ρ1 (J.unlock ρ1 ρ2 n) σ1 σ2 L fp2 H2:=by
 cases n with
 | none=>exact x
 | some i =>
  obtain ⟨st,e⟩:=hn i rfl
  obtain ⟨a',e2,es,ea⟩:=x.stab i .ro a (by rw [lock_get,e]; simp) (by decide)
  cases ea rfl
  have eu:J.unlock ρ1 ρ2 (some i) = ρ2.set i (some (st,a)):=by simp only [J.unlock,e]
  rw [eu]
  have get:∀ j st' b,(ρ2.set i (some (st,a)))[j]? = some (some (st',b))→∃ st'',ρ2[j]? = some (some (st'',b)):=fun j st' b q=>by
   by_cases h:j = i
   ·subst h
    rw [List.getElem?_set_self (lt_of_get e2)] at q
    cases q
    exact ⟨_,e2⟩
   ·rw [List.getElem?_set_ne (Ne.symm h)] at q
    exact ⟨_,q⟩
  refine ⟨⟨by rw [List.length_set]; exact x.rel.len,fun j st' b q=>?_,fun j h=>?_,x.rel.nd,x.rel.inj,x.rel.off,x.rel.al⟩,x.nd,x.lo,x.new,x.kept,x.ln,fun j st' b q hs=>?_⟩
  ·obtain ⟨st'',q⟩:=get j st' b q
   exact x.rel.slot j _ _ q
  ·refine x.rel.out j fun st' b q=>?_
   by_cases hj:j = i
   ·subst hj
    exact h st a (List.getElem?_set_self (lt_of_get e2))
   ·exact h st' b (by rw [List.getElem?_set_ne (Ne.symm hj)]; exact q)
  ·by_cases hj:j = i
   ·subst hj
    rw [e] at q
    cases q
    exact ⟨a,List.getElem?_set_self (lt_of_get e2),es,fun _=>rfl⟩
   ·have q':(J.lock ρ1 (some i))[j]? = some (some (st',b)):=by
     rw [lock_get,q]
     have:¬ (some i = some j):=fun z=>hj (Option.some.inj z).symm
     simp [this]
    obtain ⟨b',q2,s2,f2⟩:=x.stab j st' b q' hs
    exact ⟨b',by rw [List.getElem?_set_ne (Ne.symm hj)]; exact q2,s2,f2⟩
noncomputable def gPat (K:PySem.W.Frag) (is:List Nat):Bool→TG
 | true=>gName (is.headD 0)
 | false=>gTup K is.length (gNames is)
theorem bind_ok {is:List Nat} {one:Bool} {d:D} {x:V} {Q:St→Hp→Prop} (p:Post K O fp H ρ ρ1 σ σ1 [] fp1 H1) (q:RepA (NN fp1 O) H1 x d) (e:bindS is one d ρ1 = some ρ2) (k:∀ σ' fp',Post K O fp H ρ ρ2 σ σ' [] fp' H1→Q σ' H1) :
  gPat K is one x σ1 H1 Q:=by
 have q0:RepA (NN fp1 (ad O [])) H1 x d:=weakA (fun p z=>nn_nil.mp z) q
 cases one with
 | true =>
  unfold bindS at e
  match is,e with
  | [i],e =>
   dsimp only at e
   split at e
   ·rename_i hf
    cases e
    exact k _ _ (Post.store (L1:=[]) (L2:=[]) p hf (repFz (K:=K) q0))
   ·cases e
  | [],e=>simp at e
  | _ :: _ :: _,e=>simp at e
 | false =>
  unfold bindS at e
  dsimp only at e
  cases d with
  | tup ds =>
   dsimp only at e
   cases q0 with
   | tup h hz hl hr =>
    refine ⟨_,_,rfl,.inl (.inl h),?_,setAll_ok p (RepHs.of (RepDs.mk hl hr)) e k⟩
    have:=setAll_len e
    rw [List.length_map] at this
    rw [hl,this]
  | _=>simp at e
theorem src_ok {r:R} {v:V} {a:A} {n:Option Nat} (hn:n = nameOf r) (hr:Rel K ρ1 σ H1 (ad O L) fp1) (q:RR K (NN fp1 (ad O L)) H1 σ v r L) (e:peek ρ1 r = some a) (p:Post K (ad O L) fp1 H1 (J.lock ρ1 n) ρ2 σ σ2 [] fp2 H2) :
  ∃ L',RepH K (NN fp2 (ad O L)) H2 v a L':=by
 cases r with
 | val b =>
  simp only [peek,Option.some.injEq] at e
  subst e
  refine ⟨L,RepH.tr (M:=Fp fp1) (fun p z=>.inl z) p.kept (fun x z=>?_) (fun x hx z=>?_) q⟩
  ·rcases z with z | z
   ·exact (p.new x (.inr z)).imp (fun y=>.inl y) id
   ·exact .inl (.inr z)
  ·obtain ⟨i,hi⟩:=z
   exact hr.off i x hi (.inr hx)
 | ref i =>
  subst hn
  simp only [peek] at e
  split at e
  ·rename_i st b hb
   cases e
   obtain ⟨a',e2,es,ea⟩:=p.stab i .ro a (by rw [lock_get,hb]; simp [nameOf]) (by decide)
   cases ea rfl
   obtain ⟨v',h1,h2⟩:=p.rel0.slot i _ _ e2
   rw [es,q.2] at h1
   cases h1
   exact ⟨_,h2⟩
  ·cases e
theorem tS_for {is:List Nat} {one:Bool} {it:MI} {b:MS} {D:Ends} (h:tS K (forS is one it b) D σ H):tFor (tI K it) (gPat K is one) (tS K b) D σ H:=by
 obtain ⟨ρ,O,fp,rl,fl,e,w⟩:=h
 simp only [forS,Option.bind_eq_some_iff,Option.map_eq_some_iff] at e
 obtain ⟨⟨ds,n,ρ1⟩,e1,f,e2,e3⟩:=e
 subst e3
 refine ⟨ρ,O,fp,rl,ds,n,ρ1,e1,fun J H1 yy=>?_⟩
 obtain ⟨r,v,a,L,fp1,p1,q1,hn,ha,hJ⟩:=yy
 have hlk:∀ i,n = some i→∃ st,ρ1[i]? = some (some (st,a)):=fun i hi=>by
  rw [hn] at hi
  cases r with
  | val b=>simp [nameOf] at hi
  | ref j =>
   simp only [nameOf,Option.some.injEq] at hi
   subst hi
   simp only [peek] at ha
   split at ha
   ·rename_i st b hb
    cases ha
    exact ⟨st,hb⟩
   ·cases ha
 have rl1:Rel K (lock ρ1 n) σ H1 (ad O L) fp1:=p1.rel.lock
 -- what is wanted of the loop's end
 have w1:Want K (ad O L) fp1 H1 (lock ρ1 n) σ D f:=by
  have un:∀ {ρ2:Ro} {σ2:St} {L2:List Addr} {fp2:Nat→List Addr} {H2:Hp},Post K (ad O L) fp1 H1 (lock ρ1 n) ρ2 σ σ2 L2 fp2 H2→Post K O fp H ρ (unlock ρ1 ρ2 n) σ σ2 L2 fp2 H2:=fun y=>(p1.then (y.unlock hlk)).drop
  cases f with
  | next ρ2=>exact fun σ' fp' H' p=>w σ' fp' H' (un p)
  | brk ρ2=>exact fun σ' fp' H' p=>w σ' fp' H' (un p)
  | cnt ρ2=>exact fun σ' fp' H' p=>w σ' fp' H' (un p)
  | ret b ρ2=>exact fun σ' v L2 fp' H' p q=>w σ' v L2 fp' H' (un p) (weakH (fun x z=>by
    rcases z with z | z | z
    ·exact .inl z
    ·exact .inr (.inl (.inl z))
    ·exact .inr (.inr z)) q)
 refine ⟨fun i m σ' H'=>m = ds.length - i∧i≤ds.length∧∃ ρ' fp',Post K (ad O L) fp1 H1 (lock ρ1 n) ρ' σ σ' [] fp' H'∧forL is one b (ds.drop i) ρ' = some f,⟨ds.length,by simp,Nat.zero_le _,lock ρ1 n,fp1,rl1.post,by simpa using e2⟩,?_⟩
 rintro i m σ2 H2 ⟨rfl,hi,ρ2,fp2,p2,e2⟩
 obtain ⟨L',src⟩:=src_ok hn p1.rel q1 ha p2
 obtain ⟨go,stop,yld⟩:=hJ _ _ ⟨⟨L',src⟩,fun _ _ h=>p2.kept _ _ h (.inr rfl)⟩
 by_cases hlt:i < ds.length
 ·refine .inr ⟨go i hlt,_,fun σ' H' z=>⟨ds.length - (i + 1),by omega,rfl,hlt,z⟩,fun x H3 y=>?_⟩
  have hd:ds[i]? = some ds[i]:=by simp [hlt]
  obtain ⟨sm,qx⟩:=yld i x H3 _ y hd
  rw [List.drop_eq_getElem_cons hlt] at e2
  simp only [forL,Option.bind_eq_some_iff] at e2
  obtain ⟨ρ3,e3,g,e4,e5⟩:=e2
  have p3:Post K (ad O L) fp1 H1 (lock ρ1 n) ρ2 σ σ2 [] fp2 H3:=p2.more sm List.nodup_nil (fun p hp=>by simp at hp)
  refine bind_ok p3 qx e3 fun σ4 fp4 p4=>?_
  refine ⟨ρ3,ad O L,fp4,p4.rel0,g,e4,?_⟩
  cases g with
  | next ρ5=>exact fun σ' fp' H' p=>⟨ρ5,fp',p4.next p,e5⟩
  | cnt ρ5=>exact fun σ' fp' H' p=>⟨ρ5,fp',p4.next p,e5⟩
  | brk ρ5 =>
   cases e5
   exact fun σ' fp' H' p=>w1 σ' fp' H' (p4.next p)
  | ret c ρ5 =>
   cases e5
   exact fun σ' v L fp' H' p q=>w1 σ' v L fp' H' (p4.next p) q
 ·have:i = ds.length:=by omega
  subst this
  simp only [List.drop_length,forL,Option.some.injEq] at e2
  subst e2
  exact .inl ⟨stop _ (Nat.le_refl _),w1 _ _ _ p2⟩
theorem items_ok {v:V} {a:A} {ds:List D} (q:RepH K N H v a L) (e:itemsA a = some ds):∃ p vs,v = .ref p∧(SqL K H p vs∨SqT K H p vs)∧RepDs N H vs ds:=by
 cases a with
 | fz d =>
  rw [RepH] at q
  obtain ⟨rfl,q⟩:=q
  cases d with
  | lst es =>
   simp only [itemsA,Option.some.injEq] at e
   subst e
   cases q with
   | lst h hz hn hl hr=>exact ⟨_,_,rfl,.inl (.inl (.inl h)),RepDs.mk hl hr⟩
  | tup es =>
   simp only [itemsA,Option.some.injEq] at e
   subst e
   cases q with
   | tup h hz hl hr=>exact ⟨_,_,rfl,.inr (.inl (.inl h)),RepDs.mk hl hr⟩
  | _=>simp [itemsA] at e
 | lst as =>
  simp only [itemsA] at e
  rw [RepH] at q
  obtain ⟨p,vs,L',rfl,rfl,h,hz,hs⟩:=q
  exact ⟨p,vs,rfl,.inl (.inl (.inl h)),(hs.fzs e).2⟩
 | scr ns =>
  simp only [itemsA,Option.some.injEq] at e
  subst e
  rw [RepH] at q
  obtain ⟨p,rfl,rfl,h,hz⟩:=q
  refine ⟨p,_,rfl,.inl (h H fun _ _ z=>z),RepDs.mk (by simp) fun i v d e1 e2=>?_⟩
  rw [List.getElem?_map] at e1 e2
  cases q:ns[i]? with
  | none=>rw [q] at e1; cases e1
  | some k =>
   rw [q] at e1 e2
   cases e1; cases e2
   exact .int k
 | _=>simp [itemsA] at e
noncomputable def isSeqT:A→Bool
 | .fz (.tup _)=>true
 | _=>false
theorem items_kind {v:V} {a:A} {ds:List D} (q:RepH K N H v a L) (e:itemsA a = some ds):∃ p vs,v = .ref p∧(if isSeqT a then SqT K H p vs else SqL K H p vs)∧RepDs N H vs ds:=by
 cases a with
 | fz d =>
  rw [RepH] at q
  obtain ⟨rfl,q⟩:=q
  cases d with
  | lst es =>
   simp only [itemsA,Option.some.injEq] at e
   subst e
   cases q with
   | lst h hz hn hl hr=>exact ⟨_,_,rfl,.inl (.inl h),RepDs.mk hl hr⟩
  | tup es =>
   simp only [itemsA,Option.some.injEq] at e
   subst e
   cases q with
   | tup h hz hl hr=>exact ⟨_,_,rfl,.inl (.inl h),RepDs.mk hl hr⟩
  | _=>simp [itemsA] at e
 | lst as =>
  simp only [itemsA] at e
  rw [RepH] at q
  obtain ⟨p,vs,L',rfl,rfl,h,hz,hs⟩:=q
  exact ⟨p,vs,rfl,.inl (.inl h),(hs.fzs e).2⟩
 | scr ns =>
  obtain ⟨p,vs,e1,e2,e3⟩:=items_ok q e
  rw [RepH] at q
  obtain ⟨p',rfl,rfl,h,hz⟩:=q
  cases e1
  refine ⟨p,_,rfl,h H fun _ _ z=>z,?_⟩
  simp only [itemsA,Option.some.injEq] at e
  subst e
  refine RepDs.mk (by simp) fun i v d e1 e2=>?_
  rw [List.getElem?_map] at e1 e2
  cases q:ns[i]? with
  | none=>rw [q] at e1; cases e1
  | some k =>
   rw [q] at e1 e2
   cases e1; cases e2
   exact .int k
 | _=>simp [itemsA] at e
noncomputable def iSeq (K:PySem.W.Frag) (tl:TE):TI:=fun σ H R=>tl σ H fun x H1=>∃ a,x = .ref a∧(((∃ xs,SqL K H1 a xs)∧R (Itl K a) H1)∨((∃ xs,SqT K H1 a xs)∧R (Itt K a) H1))
theorem dlen {vs:List V} {ds:List D} (q:RepDs N H vs ds) {i:Nat} (h:i < ds.length):∃ x,vs[i]? = some x:=⟨vs[i]'(by rw [q.len]; exact h),by simp⟩
theorem tI_seq {m:ME} {R:It→Hp→Prop} (h:tI K (seqI m) σ H R):iSeq K (tE K m) σ H R:=by
 obtain ⟨ρ,O,fp,rl,ds,n,ρ',e,k⟩:=h
 simp only [seqI,Option.bind_eq_some_iff,Option.map_eq_some_iff] at e
 obtain ⟨⟨r,ρ1⟩,e1,a,e2,ds',e3,e4⟩:=e
 cases e4
 refine ⟨ρ,O,fp,rl,r,ρ1,e1,fun v H1 yy=>?_⟩
 obtain ⟨L,fp1,p,q⟩:=yy
 obtain ⟨L',q'⟩:=p.rel.peek q e2
 obtain ⟨pa,vs,rfl,hk,_⟩:=items_kind q' e3
 refine ⟨pa,rfl,?_⟩
 cases hT:isSeqT a with
 | false =>
  rw [hT] at hk
  refine .inl ⟨⟨vs,hk⟩,k _ _ ⟨r,.ref pa,a,L,fp1,p,q,rfl,e2,fun N H2 yy=>?_⟩⟩
  obtain ⟨⟨L2,q2⟩,_⟩:=yy
  obtain ⟨pb,ws,e5,hk2,hd⟩:=items_kind q2 e3
  cases e5
  rw [hT] at hk2
  have hk2:SqL K H2 pa ws:=hk2
  refine ⟨fun i hi=>?_,fun i hi=>⟨ws,hk2,by rw [hd.len]; exact hi⟩,fun i x H' d y e=>?_⟩
  ·obtain ⟨x,hx⟩:=dlen hd hi
   exact ⟨ws,x,hk2,hx⟩
  ·obtain ⟨rfl,y⟩:=y
   exact ⟨fun _ _ z=>z,hd.get i x d (y ws hk2) e⟩
 | true =>
  rw [hT] at hk
  refine .inr ⟨⟨vs,hk⟩,k _ _ ⟨r,.ref pa,a,L,fp1,p,q,rfl,e2,fun N H2 yy=>?_⟩⟩
  obtain ⟨⟨L2,q2⟩,_⟩:=yy
  obtain ⟨pb,ws,e5,hk2,hd⟩:=items_kind q2 e3
  cases e5
  rw [hT] at hk2
  have hk2:SqT K H2 pa ws:=hk2
  refine ⟨fun i hi=>?_,fun i hi=>⟨ws,hk2,by rw [hd.len]; exact hi⟩,fun i x H' d y e=>?_⟩
  ·obtain ⟨x,hx⟩:=dlen hd hi
   exact ⟨ws,x,hk2,hx⟩
  ·obtain ⟨rfl,y⟩:=y
   exact ⟨fun _ _ z=>z,hd.get i x d (y ws hk2) e⟩
end
end J
end
section
set_option Elab.async false
set_option linter.all false
namespace J
open PySem L2
noncomputable def uPat (K:PySem.W.Frag):Nat→TU
 | 0=>uOne
 | n + 1=>fun v H vs=>∃ a,v = .ref a∧SqT K H a vs∧vs.length = n + 1
noncomputable def sh (n:Nat) (fp:Nat→List Addr):Nat→List Addr:=fun j=>if j < n then [] else fp (j - n)
section
variable {K:PySem.W.Frag} {ρ ρ' ρ1 ρ2:Ro} {σ σ' σ1 σ2:St} {H H' H1 H2:Hp} {O O' N:Addr→Prop} {fp fp' fp1 fp2:Nat→List Addr} {L L1:List Addr}
theorem fp_sh {n:Nat} {p:Addr}:Fp (sh n fp) p↔Fp fp p:=by
 constructor
 ·rintro ⟨j,h⟩
  unfold sh at h
  split at h
  ·simp at h
  ·exact ⟨_,h⟩
 ·rintro ⟨j,h⟩
  refine ⟨j + n,?_⟩
  unfold sh
  rw [if_neg (by lia),Nat.add_sub_cancel]
  exact h
theorem nn_sh {n:Nat} {p:Addr}:NN (sh n fp) O p↔NN fp O p:=or_congr fp_sh Iff.rfl
theorem Rel.block {vs:List V} {bs:List D} (r:Rel K ρ σ H O fp) (q:RepDs (NN fp O) H vs bs):Rel K (bs.map own ++ ρ) (vs.map some ++ σ) H O (sh bs.length fp) where
 len:=by simp [r.len,q.len]
 slot:=fun i st a e=>by
  by_cases hi:i < bs.length
  ·rw [List.getElem?_append_left (by simpa using hi),List.getElem?_map] at e
   have hb:bs[i]? = some bs[i]:=by simp [hi]
   rw [hb] at e
   simp only [Option.map_some,own,Option.some.injEq,Prod.mk.injEq] at e
   obtain ⟨rfl,rfl⟩:=e
   have hv:vs[i]? = some (vs[i]'(by rw [q.len]; exact hi)):=by simp
   refine ⟨_,by rw [List.getElem?_append_left (by simpa [q.len] using hi),List.getElem?_map,hv]; rfl,?_⟩
   simp only [sh,hi,if_true]
   exact repFz (weakA (fun p z=>nn_sh.mp z) (q.get i _ _ hv hb))
  ·rw [List.getElem?_append_right (by simpa using hi),List.length_map] at e
   obtain ⟨v,e1,q1⟩:=r.slot _ _ _ e
   refine ⟨v,by rw [List.getElem?_append_right (by simpa [q.len] using hi),List.length_map,q.len]; exact e1,?_⟩
   simp only [sh,hi,if_false]
   exact weakH (fun p z=>nn_sh.mp z) q1
 out:=fun i h=>by
  unfold sh
  split
  ·rfl
  ·rename_i hi
   exact r.out _ fun st a e=>h st a (by rw [List.getElem?_append_right (by simpa using hi),List.length_map]; exact e)
 nd:=fun i=>by
  unfold sh
  split
  ·exact List.nodup_nil
  ·exact r.nd _
 inj:=fun i j p h1 h2=>by
  unfold sh at h1 h2
  split at h1
  ·simp at h1
  ·split at h2
   ·simp at h2
   ·have:=r.inj _ _ p h1 h2
    lia
 off:=fun i p h=>by
  unfold sh at h
  split at h
  ·simp at h
  ·exact r.off _ p h
 al:=fun p z=>r.al p (nn_sh.mp z)
theorem Post.unblock {vs:List V} {bs:List D} (hl:vs.length = bs.length) (x:Post K O (sh bs.length fp) H (bs.map own ++ ρ) ρ2 (vs.map some ++ σ) (vs.map some ++ σ) L fp2 H2):Post K O fp H ρ (ρ2.drop bs.length) σ σ L (fun j=>fp2 (j + bs.length)) H2 where
 rel:=by
  have nn:∀ p,NN (fun j=>fp2 (j + bs.length)) (ad O L) p→NN fp2 (ad O L) p:=fun p z=>z.imp (fun ⟨j,h⟩=>⟨_,h⟩) id
  have hlen:=x.rel.len
  rw [List.length_append,List.length_map,hl] at hlen
  refine ⟨by rw [List.length_drop,hlen]; lia,fun i st a e=>?_,fun i h=>?_,fun i=>x.rel.nd _,fun i j p h1 h2=>?_,fun i p h=>x.rel.off _ p h,fun p z=>x.rel.al p (nn p z)⟩
  ·rw [List.getElem?_drop] at e
   obtain ⟨v,e1,q⟩:=x.rel.slot _ _ _ e
   refine ⟨v,?_,weakH nn (by rw [Nat.add_comm]; exact q)⟩
   rw [List.getElem?_append_right (by rw [List.length_map]; lia),List.length_map] at e1
   rw [← e1]
   congr 1
   lia
  ·exact x.rel.out _ fun st a e=>h st a (by rw [List.getElem?_drop,Nat.add_comm]; exact e)
  ·have:=x.rel.inj _ _ p h1 h2
   lia
 nd:=x.nd
 lo:=x.lo
 new:=fun p hp=>(x.new p (hp.imp id fun ⟨j,h⟩=>⟨_,h⟩)).imp fp_sh.mp id
 kept:=x.kept.mono fun p z=>fp_sh.mp z
 ln:=rfl
 stab:=fun j st a h n=>by
  have e:(bs.map own ++ ρ)[j + bs.length]? = some (some (st,a)):=by rw [List.getElem?_append_right (by simp),List.length_map,Nat.add_sub_cancel]; exact h
  obtain ⟨a',e1,_,f⟩:=x.stab _ _ _ e n
  exact ⟨a',by rw [List.getElem?_drop,Nat.add_comm]; exact e1,rfl,f⟩
theorem Post.updT {p:Addr} {o:HO} {ys:List V} (x:Post K O fp H ρ ρ1 σ σ1 L fp1 H1) (hp:p∈L) (hn:H p = none) (hy:H1 p = some (.lst ys)):Post K O fp H ρ ρ1 σ σ1 L fp1 (upd H1 p o):=by
 have off:∀ i,p ∉ fp1 i:=fun i z=>x.rel.off i p z (.inr hp)
 have alp:∀ q,H1 q≠none→upd H1 p o q≠none:=fun q z=>by
  by_cases e:q = p
  ·subst e; rw [upd_same]; simp
  ·rw [upd_ne e]; exact z
 have k:Kept (fun q=>q = p) H1 (upd H1 p o):=fun b u e c=>by
  by_cases hb:b = p
  ·subst hb
   rcases c with c | c
   ·exact absurd rfl c
   ·rw [hy] at e; cases e; cases c
  ·rw [upd_ne hb]; exact e
 refine ⟨⟨x.rel.len,fun i st a e=>?_,x.rel.out,x.rel.nd,x.rel.inj,x.rel.off,fun q z=>alp q (x.rel.al q z)⟩,x.nd,x.lo,x.new,fun b u e c=>?_,x.ln,x.stab⟩
 ·obtain ⟨v,e1,q⟩:=x.rel.slot i st a e
  exact ⟨v,e1,q.tr (M:=fun q=>q = p) (fun b z=>by rw [z]; exact .inr (.inr hp)) k (fun b z=>.inl z) fun b hb z=>off i (z ▸ hb)⟩
 ·have hb:b≠p:=fun z=>by rw [z,hn] at e; cases e
  rw [upd_ne hb]
  exact x.kept b u e c
theorem upd_keptT {p:Addr} {o:HO} {ys:List V} (hy:H p = some (.lst ys)):Kept (fun q=>q = p) H (upd H p o):=fun b u e c=>by
 by_cases hb:b = p
 ·subst hb
  rcases c with c | c
  ·exact absurd rfl c
  ·rw [hy] at e; cases e; cases c
 ·rw [upd_ne hb]; exact e
theorem Post.ds {vs:List V} {ds:List D} (x:Post K O fp H ρ ρ1 σ σ1 L fp1 H1) (q:RepDs (NN fp O) H vs ds):RepDs (NN fp1 (ad O L)) H1 vs ds:=
 q.tr (M:=Fp fp) (fun p z=>.inl z) x.kept fun p z=>by
  rcases z with z | z | z
  ·exact (x.new p (.inr z)).imp (fun y=>.inl y) id
  ·exact .inl (.inr z)
  ·exact (x.new p (.inl z)).imp (fun y=>.inl y) id
theorem repDs_app:∀ {vs ws:List V} {ds es:List D},RepDs N H vs ds→RepDs N H ws es→RepDs N H (vs ++ ws) (ds ++ es)
 | [],_,[],_,_,q=>q
 | [],_,_ :: _,_,r,_=>by simp only [RepDs] at r
 | _ :: _,_,[],_,r,_=>by simp only [RepDs] at r
 | v :: vs,ws,d :: ds,es,r,q=>⟨r.1,repDs_app r.2 q⟩
theorem patB_ok {n:Nat} {d:D} {bs:List D} {x:V} (q:RepA N H x d) (e:patB n d = some bs):∃ vs,uPat K n x H vs∧RepDs N H vs bs:=by
 cases n with
 | zero =>
  simp only [patB,Option.some.injEq] at e
  subst e
  exact ⟨[x],rfl,q,trivial⟩
 | succ n =>
  simp only [patB] at e
  cases d with
  | tup ds =>
   dsimp only at e
   split at e
   ·rename_i hl
    cases e
    cases q with
    | tup h hz hl' hr=>exact ⟨_,⟨_,rfl,.inl (.inl h),by rw [hl']; exact hl⟩,RepDs.mk hl' hr⟩
   ·cases e
  | _=>simp at e
theorem compL_len {pat:Nat} {c:MT} {e:ME}:∀ {ds:List D} {ρ ρ':Ro} {es:List D},compL pat c e ds ρ = some (es,ρ')→es.length≤ds.length
 | [],ρ,ρ',es,h=>by
  simp only [compL,Option.some.injEq,Prod.mk.injEq] at h
  rw [← h.1]; simp
 | d :: ds,ρ,ρ',es,h=>by
  simp only [compL,Option.bind_eq_some_iff] at h
  obtain ⟨bs,_,⟨b,ρ1⟩,_,h⟩:=h
  split at h
  ·simp only [Option.bind_eq_some_iff,Option.map_eq_some_iff] at h
   obtain ⟨q,_,s,_,⟨es',ρ3⟩,h,h'⟩:=h
   cases h'
   have:=compL_len h
   simpa using this
  ·have:=compL_len h
   simp; lia
theorem src_okT {r:R} {v:V} {a:A} {n:Option Nat} {Lt:List Addr} (hn:n = nameOf r) (hr:Rel K ρ1 σ H1 (ad O L) fp1) (q:RR K (NN fp1 (ad O L)) H1 σ v r L) (e:peek ρ1 r = some a) (p:Post K (ad O L) fp1 H1 (J.lock ρ1 n) ρ2 σ σ2 Lt fp2 H2) :
  ∃ L',RepH K (NN fp2 (ad (ad O L) Lt)) H2 v a L':=by
 cases r with
 | val b =>
  simp only [peek,Option.some.injEq] at e
  subst e
  refine ⟨L,RepH.tr (M:=Fp fp1) (fun p z=>.inl z) p.kept (fun x z=>?_) (fun x hx z=>?_) q⟩
  ·rcases z with z | z | z
   ·exact (p.new x (.inr z)).imp (fun y=>.inl y) id
   ·exact .inl (.inr z)
   ·exact (p.new x (.inl z)).imp (fun y=>.inl y) id
  ·obtain ⟨i,hi⟩:=z
   exact hr.off i x hi (.inr hx)
 | ref i =>
  subst hn
  simp only [peek] at e
  split at e
  ·rename_i st b hb
   cases e
   obtain ⟨a',e2,es,ea⟩:=p.stab i .ro a (by rw [lock_get,hb]; simp [nameOf]) (by decide)
   cases ea rfl
   obtain ⟨v',h1,h2⟩:=p.rel.slot i _ _ e2
   rw [es,q.2] at h1
   cases h1
   exact ⟨_,h2⟩
  ·cases e
theorem tE_comp {it:MI} {pat:Nat} {c:MT} {e:ME} {Q:VK} (h:tE K (compM it pat c e) σ H Q):tLc (tI K it) (uPat K pat) (tT K c) (tE K e) σ H Q:=by
 obtain ⟨ρ,O,fp,rl,x,ρ',h0,k⟩:=h
 simp only [compM,Option.bind_eq_some_iff] at h0
 obtain ⟨⟨ds,n,ρ1⟩,e1,h0⟩:=h0
 split at h0
 case isFalse=>cases h0
 rename_i hz
 simp only [Option.map_eq_some_iff] at h0
 obtain ⟨⟨es,ρf⟩,e2,e3⟩:=h0
 cases e3
 refine ⟨ρ,O,fp,rl,ds,n,ρ1,e1,fun J H1 yy acc hacc=>?_⟩
 obtain ⟨r,v,a,L,fp1,p1,q1,hn,ha,hJ⟩:=yy
 have hlk:∀ i,n = some i→∃ st,ρ1[i]? = some (some (st,a)):=fun i hi=>by
  rw [hn] at hi
  cases r with
  | val b=>simp [nameOf] at hi
  | ref j =>
   simp only [nameOf,Option.some.injEq] at hi
   subst hi
   simp only [peek] at ha
   split at ha
   ·rename_i st b hb
    cases ha
    exact ⟨st,hb⟩
   ·cases ha
 have rl1:Rel K (lock ρ1 n) σ H1 (ad O L) fp1:=p1.rel.lock
 have st0:Post K (ad O L) fp1 H1 (lock ρ1 n) (lock ρ1 n) σ σ [acc] fp1 (upd H1 acc (.lst [])):=rl1.post.more (same_updJ hacc) (by simp) fun p hp=>by
  have:p = acc:=by simpa using hp
  subst this
  exact .inr ⟨hacc,by rw [upd_same]; simp⟩
 refine ⟨fun i m ys H'=>m = ds.length - i∧i≤ds.length∧H' acc = some (.lst ys)∧ys.length≤i∧∃ ρ' fp' done rest,Post K (ad O L) fp1 H1 (lock ρ1 n) ρ' σ σ [acc] fp' H'∧RepDs (NN fp' (ad (ad O L) [acc])) H' ys done∧compL pat c e (ds.drop i) ρ' = some (rest,ρf)∧es = done ++ rest,
  ⟨ds.length,by simp,Nat.zero_le _,upd_same,by simp,lock ρ1 n,fp1,[],es,st0,trivial,by simpa using e2,rfl⟩,?_⟩
 rintro i m ys H2 ⟨rfl,hi,hy,hyl,ρ2,fp2,done,rest,p2,qd,e2,ees⟩
 refine ⟨hy,?_⟩
 obtain ⟨L',src⟩:=src_okT hn p1.rel q1 ha p2
 have offacc:∀ j,acc ∉ fp2 j:=fun j z=>p2.rel.off j acc z (.inr (by simp))
 by_cases hlt:i < ds.length
 ·obtain ⟨go,stop,yld⟩:=hJ _ _ ⟨⟨L',src⟩,fun _ _ h=>p2.kept _ _ h (.inr rfl)⟩
  refine .inr ⟨go i hlt,fun x H3 y=>?_⟩
  have hd:ds[i]? = some ds[i]:=by simp [hlt]
  obtain ⟨sm,qx0⟩:=yld i x H3 _ y hd
  have qx:RepA (NN fp2 (ad (ad O L) [acc])) H3 x ds[i]:=qx0
  have p3:Post K (ad O L) fp1 H1 (lock ρ1 n) ρ2 σ σ [acc] fp2 H3:=p2.more sm p2.nd fun p hp=>.inl hp
  have hy3:H3 acc = some (.lst ys):=sm _ _ hy
  have qd3:RepDs (NN fp2 (ad (ad O L) [acc])) H3 ys done:=qd.tr (M:=fun _=>False) (fun _ z=>z.elim) (Same.kept sm) fun p z=>.inl z
  rw [List.drop_eq_getElem_cons hlt] at e2
  simp only [compL,Option.bind_eq_some_iff] at e2
  obtain ⟨bs,eb,⟨b,ρ3⟩,ec,e4⟩:=e2
  obtain ⟨vs,hu,hvs⟩:=patB_ok (K:=K) qx eb
  have rb:=p3.rel.block hvs
  refine ⟨vs,hu,_,_,_,rb,b,ρ3,ec,fun fp4 H4 p4=>?_⟩
  have keep:∀ {ρ5:Ro} {fp5:Nat→List Addr} {H5:Hp},Post K (ad (ad O L) [acc]) (sh bs.length fp2) H3 (bs.map own ++ ρ2) ρ5 (vs.map some ++ σ) (vs.map some ++ σ) [] fp5 H5 →
    H5 acc = some (.lst ys)∧Post K (ad O L) fp1 H1 (lock ρ1 n) (ρ5.drop bs.length) σ σ [acc] (fun j=>fp5 (j + bs.length)) H5∧RepDs (NN (fun j=>fp5 (j + bs.length)) (ad (ad O L) [acc])) H5 ys done:=fun {ρ5 fp5 H5} p5=>by
   have u:=p5.unblock hvs.len
   refine ⟨p5.kept _ _ hy3 (.inl fun z=>?_),p3.then u,weakDs (fun p z=>nn_nil.mpr z) (u.ds qd3)⟩
   obtain ⟨j,z⟩:=fp_sh.mp z
   exact offacc j z
  cases b with
  | false =>
   simp only [Bool.false_eq_true,if_false] at e4
   dsimp only
   rw [if_neg Bool.false_ne_true]
   obtain ⟨h1,h2,h3⟩:=keep p4
   exact ⟨ds.length - (i + 1),by lia,rfl,hlt,h1,by lia,_,_,done,rest,h2,h3,e4,ees⟩
  | true =>
   simp only [if_true,Option.bind_eq_some_iff,Option.map_eq_some_iff] at e4
   obtain ⟨⟨r5,ρ5⟩,e5,⟨d6,ρ6⟩,e6,⟨rest',ρ7⟩,e7,e8⟩:=e4
   cases e8
   dsimp only
   rw [if_pos rfl]
   refine ⟨ρ3,_,fp4,p4.rel0,r5,ρ5,e5,fun y H5 yy=>?_⟩
   obtain ⟨L5,fp5,p5,q5⟩:=yy
   obtain ⟨fp6,p6,q6⟩:=share_post p5 q5 e6
   obtain ⟨h1,h2,h3⟩:=keep (p4.next p6)
   have hacc1:H1 acc = none:=hacc
   refine ⟨h1,Nat.lt_of_lt_of_le (Nat.lt_of_le_of_lt hyl hlt) hz,ds.length - (i + 1),by lia,rfl,hlt,upd_same,by simp; lia,_,_,done ++ [d6],rest',h2.updT (by simp) hacc1 h1,?_,e7,by rw [ees]; simp⟩
   have tr:∀ {ws:List V} {fs:List D},RepDs (NN (fun j=>fp6 (j + bs.length)) (ad (ad O L) [acc])) H5 ws fs→RepDs (NN (fun j=>fp6 (j + bs.length)) (ad (ad O L) [acc])) (upd H5 acc (.lst (ys ++ [y]))) ws fs:=fun q =>
    q.tr (M:=fun q=>q = acc) (fun b z=>by rw [z]; exact .inr (.inr (by simp))) (upd_keptT h1) fun p z=>.inl z
   refine tr (repDs_app h3 ⟨weakA (fun p z=>?_) q6,trivial⟩)
   exact nn_nil.mpr (z.imp (fun ⟨j,q⟩=>⟨_,q⟩) id)
 ·have:i = ds.length:=by lia
  subst this
  obtain ⟨go,stop,yld⟩:=hJ _ _ ⟨⟨L',src⟩,fun _ _ h=>p2.kept _ _ h (.inr rfl)⟩
  simp only [List.drop_length,compL,Option.some.injEq,Prod.mk.injEq] at e2
  obtain ⟨rfl,rfl⟩:=e2
  refine .inl ⟨stop _ (Nat.le_refl _),k _ _ ?_⟩
  have p3:=(p1.then (p2.unlock hlk)).drop
  refine ⟨[acc],fp2,p3,?_⟩
  show RepH _ _ _ _ _ _
  rw [RepH]
  rw [List.append_nil] at ees
  subst ees
  refine ⟨acc,ys,[],rfl,rfl,hy,Nat.le_trans hyl hz,RepHs.of (weakDs (fun p z=>?_) qd)⟩
  rcases z with z | z | z
  ·exact .inl z
  ·exact .inr (.inl (.inl z))
  ·exact .inr (.inr z)
end
end J
end
section
set_option Elab.async false
set_option linter.all false
namespace J
open PySem L2
noncomputable def outR:List (Own × A)→List A→Ro
 | (st,_) :: args,a :: as=>(if st = .own then none else some (st,a)) :: outR args as
 | _,_=>[]
noncomputable def CPost (K:PySem.W.Frag) (O:Addr→Prop) (fp:Nat→List Addr) (H:Hp) (args:List (Own × A)) (as':List A) (vs:List V) (a:A) (v:V) (H':Hp):Prop:=
 ∃ L fp',Post K O fp H (args.map some) (outR args as') (vs.map some) (vs.map some) L fp' H'∧RepH K (NN fp' (ad O L)) H' v a L
noncomputable def spJ (K:PySem.W.Frag) (Φ:Fn) (np:Nat):Sp:=fun vs H Q _=>∃ args O fp,vs.length = np∧Rel K (args.map some) (vs.map some) H O fp∧∃ a as',Φ args = some (a,as')∧∀ v H',CPost K O fp H args as' vs a v H'→Q v H'
theorem outR_get:∀ {args:List (Own × A)} {as:List A} {j:Nat} {st:Own} {a:A},(outR args as)[j]? = some (some (st,a))→∃ a0,args[j]? = some (st,a0)∧st ≠ .own∧as[j]? = some a
 | [],_,j,st,a,h=>by simp [outR] at h
 | _ :: _,[],j,st,a,h=>by simp [outR] at h
 | (st0,a0) :: args,b :: as,0,st,a,h=>by
  simp only [outR,List.getElem?_cons_zero,Option.some.injEq] at h
  split at h
  ·cases h
  ·rename_i hs
   cases h
   exact ⟨a0,rfl,hs,rfl⟩
 | (st0,a0) :: args,b :: as,j + 1,st,a,h=>by
  simp only [outR,List.getElem?_cons_succ] at h
  obtain ⟨a1,h1,h2,h3⟩:=outR_get h
  exact ⟨a1,by simpa using h1,h2,by simpa using h3⟩
theorem get_outR:∀ {args:List (Own × A)} {as:List A} {j:Nat} {st:Own} {a0 a:A},args[j]? = some (st,a0)→st ≠ .own→as[j]? = some a→(outR args as)[j]? = some (some (st,a))
 | [],_,j,st,a0,a,h,_,_=>by simp at h
 | _ :: _,[],j,st,a0,a,_,_,h=>by simp at h
 | (st0,b0) :: args,b :: as,0,st,a0,a,h,hs,h2=>by
  simp at h h2
  obtain ⟨rfl,rfl⟩:=h
  subst h2
  simp [outR,hs]
 | (st0,b0) :: args,b :: as,j + 1,st,a0,a,h,hs,h2=>by
  simp only [outR,List.getElem?_cons_succ]
  exact get_outR (by simpa using h) hs (by simpa using h2)
theorem outR_len:∀ {args:List (Own × A)} {as:List A},(outR args as).length = min args.length as.length
 | [],_=>by simp [outR]
 | _ :: _,[]=>by simp [outR]
 | (st,_) :: args,a :: as=>by simp [outR,outR_len]
section
variable {K:PySem.W.Frag} {ρ ρ' ρ1 ρ2:Ro} {σ σ' σ1 σ2:St} {H H' H1 H2:Hp} {O O' N:Addr→Prop} {fp fp' fp1 fp2:Nat→List Addr} {L L1:List Addr}
theorem ret_post {args:List (Own × A)} {vs:List V} {n:Nat} (hl:vs.length = args.length) (x:Post K O fp H (args.map some ++ List.replicate n none) ρ' (vs.map some ++ List.replicate n none) σ' L fp' H') :
  ∃ fp2,Post K O fp H (args.map some) (outR args ((ρ'.take args.length).map outA)) (vs.map some) (vs.map some) L fp2 H'∧∀ p,NN fp2 (ad O L) p→NN fp' (ad O L) p:=by
 have hlen:args.length ≤ ρ'.length:=by
  have:=x.rel.len
  have:=x.ln
  simp at this
  lia
 have a0:∀ {j:Nat} {st:Own} {a:A},args[j]? = some (st,a)→(args.map some ++ List.replicate n (none:Slot))[j]? = some (some (st,a)):=fun {j st a} e=>by
  rw [List.getElem?_append_left (by simpa using lt_of_get e),List.getElem?_map,e]; rfl
 have v0:∀ {j:Nat},j < args.length→(vs.map some ++ List.replicate n (none:Option V))[j]? = (vs.map some)[j]?:=fun {j} h=>by
  rw [List.getElem?_append_left (by rw [List.length_map,hl]; exact h)]
 -- where a lent name stands
 have key:∀ {j:Nat} {st:Own} {a:A},args[j]? = some (st,a)→st ≠ .own→∃ a',ρ'[j]? = some (some (st,a')) ∧ σ'[j]? = (vs.map some)[j]? ∧ (st = .ro→a' = a)∧((ρ'.take args.length).map outA)[j]? = some a':=fun {j st a} e h=>by
  obtain ⟨a',e1,e2,e3⟩:=x.stab j st a (a0 e) h
  refine ⟨a',e1,by rw [e2,v0 (lt_of_get e)],e3,?_⟩
  rw [List.getElem?_map,List.getElem?_take_of_lt (lt_of_get e),e1]
  rfl
 let fp2:Nat→List Addr:=fun j=>match (outR args ((ρ'.take args.length).map outA))[j]? with
  | some (some _)=>fp' j
  | _=>[]
 have sub:∀ j p,p∈fp2 j→p∈fp' j∧∃ st a,(outR args ((ρ'.take args.length).map outA))[j]? = some (some (st,a)):=fun j p h=>by
  simp only [fp2] at h
  split at h
  ·rename_i y e
   exact ⟨h,y.1,y.2,e⟩
  ·simp at h
 have nn:∀ p,NN fp2 (ad O L) p→NN fp' (ad O L) p:=fun p z=>z.imp (fun ⟨j,q⟩=>⟨j,(sub j p q).1⟩) id
 refine ⟨fp2,⟨⟨?_,fun j st a e=>?_,fun j h=>?_,fun j=>?_,fun i j p h1 h2=>x.rel.inj i j p (sub i p h1).1 (sub j p h2).1,fun j p h=>x.rel.off j p (sub j p h).1,fun p z=>x.rel.al p (nn p z)⟩,x.nd,x.lo,fun p hp=>x.new p (hp.imp id fun ⟨j,q⟩=>⟨j,(sub j p q).1⟩),x.kept,rfl,fun j st a e h=>?_⟩,nn⟩
 ·rw [outR_len]; simp [hl]; lia
 ·obtain ⟨a0,e1,e2,e3⟩:=outR_get e
  obtain ⟨a',e4,e5,_,e6⟩:=key e1 e2
  rw [e3] at e6; cases e6
  obtain ⟨v,e7,q⟩:=x.rel.slot j st a e4
  refine ⟨v,by rw [← e5]; exact e7,?_⟩
  have:fp2 j = fp' j:=by simp only [fp2,e]
  rw [this]
  exact weakH nn q
 ·simp only [fp2]
  split
  ·rename_i y e
   exact absurd e (h y.1 y.2)
  ·rfl
 ·simp only [fp2]
  split
  ·exact x.rel.nd j
  ·exact List.nodup_nil
 ·rw [List.getElem?_map] at e
  cases q:args[j]? with
  | none=>rw [q] at e; cases e
  | some y =>
   rw [q] at e
   cases e
   obtain ⟨a',e4,e5,e6,e7⟩:=key q h
   exact ⟨a',get_outR q h e7,rfl,e6⟩
theorem Rel.start {args:List (Own × A)} {vs:List V} (r:Rel K (args.map some) (vs.map some) H O fp) (n:Nat):Rel K (args.map some ++ List.replicate n none) (vs.map some ++ List.replicate n none) H O fp where
 len:=by have:=r.len; simp at this ⊢; exact this
 slot:=fun i st a e=>by
  by_cases hi:i < args.length
  ·rw [List.getElem?_append_left (by simpa using hi)] at e
   obtain ⟨v,e1,q⟩:=r.slot i st a e
   exact ⟨v,by rw [List.getElem?_append_left (by simpa using lt_of_get e1)]; exact e1,q⟩
  ·rw [List.getElem?_append_right (by simpa using hi),List.getElem?_replicate] at e
   split at e <;> cases e
 out:=fun i h=>r.out i fun st a e=>h st a (by rw [List.getElem?_append_left (by simpa using lt_of_get e)]; exact e)
 nd:=r.nd
 inj:=r.inj
 off:=r.off
 al:=r.al
theorem body_ok {np nn:Nat} {b:MS} {vs:List V} {Q:VK} {E:XK} (h:spJ K (fnM np nn b) np vs H Q E):tS K b { nx:=fun _ H'=>Q .non H',rt:=Q } (vs.map some ++ List.replicate (nn - np) none) H:=by
 obtain ⟨args,O,fp,hl,rl,a,as',e,k⟩:=h
 have hl2:vs.length = args.length:=by have:=rl.len; simp at this; exact this.symm
 simp only [fnM] at e
 split at e
 ·rename_i ha
  simp only [Option.bind_eq_some_iff] at e
  obtain ⟨f,e1,e2⟩:=e
  refine ⟨_,O,fp,rl.start (nn - np),f,e1,?_⟩
  cases f with
  | next ρ' =>
   cases e2
   intro σ' fp' H' p
   obtain ⟨fp2,p2,_⟩:=ret_post hl2 p
   rw [ha] at p2
   exact k _ _ ⟨[],fp2,p2,repFz .non⟩
  | ret b ρ' =>
   cases e2
   intro σ' v L fp' H' p q
   obtain ⟨fp2,p2,n2⟩:=ret_post hl2 p
   rw [ha] at p2
   exact k _ _ ⟨L,fp2,p2,weakH n2 q⟩
  | brk ρ'=>cases e2
  | cnt ρ'=>cases e2
 ·cases e
theorem RRs.split:∀ {rs:List R} {vs:List V} {L:List Addr},RRs K N H σ vs rs L→L.Nodup→∃ Ls:Nat→List Addr,(∀ j v r,vs[j]? = some v→rs[j]? = some r→RR K N H σ v r (Ls j))∧(∀ j p,p∈Ls j→p∈L)∧(∀ j,(Ls j).Nodup) ∧
  (∀ i j p,p∈Ls i→p∈Ls j→i = j)∧vs.length = rs.length∧∀ j,rs.length≤j→Ls j = []
 | [],[],L,q,nd=>⟨fun _=>[],fun j v r h=>by simp at h,fun j p h=>by simp at h,fun _=>List.nodup_nil,fun i j p h=>by simp at h,rfl,fun _ _=>rfl⟩
 | [],_ :: _,_,q,_=>by simp only [RRs] at q
 | _ :: _,[],_,q,_=>by simp only [RRs] at q
 | r :: rs,v :: vs,L,q,nd=>by
  simp only [RRs] at q
  obtain ⟨L1,L2,rfl,q1,q2⟩:=q
  obtain ⟨n1,n2,n3⟩:=List.nodup_append.mp nd
  obtain ⟨Ls,h1,h2,h3,h4,h5,h6⟩:=RRs.split q2 n2
  refine ⟨fun j=>match j with | 0=>L1 | j + 1=>Ls j,fun j w s e1 e2=>?_,fun j p h=>?_,fun j=>?_,fun i j p e1 e2=>?_,by simp [h5],fun j hj=>?_⟩
  ·cases j with
   | zero=>simp at e1 e2; subst e1; subst e2; exact q1
   | succ j=>exact h1 j w s (by simpa using e1) (by simpa using e2)
  ·cases j with
   | zero=>exact List.mem_append_left _ h
   | succ j=>exact List.mem_append_right _ (h2 j p h)
  ·cases j with
   | zero=>exact n1
   | succ j=>exact h3 j
  ·cases i with
   | zero =>
    cases j with
    | zero=>rfl
    | succ j=>exact absurd rfl (n3 p e1 p (h2 j p e2))
   | succ i =>
    cases j with
    | zero=>exact absurd rfl (n3 p e2 p (h2 i p e1))
    | succ j=>rw [h4 i j p e1 e2]
  ·cases j with
   | zero=>simp at hj
   | succ j=>exact h6 j (by simpa using hj)
theorem mem_refs:∀ {rs:List R} {j i:Nat},rs[j]? = some (.ref i)→i∈refs rs
 | [],j,i,h=>by simp at h
 | .ref k :: rs,0,i,h=>by simp at h; subst h; simp [refs]
 | .val a :: rs,0,i,h=>by simp at h
 | .ref k :: rs,j + 1,i,h=>by simp only [refs]; exact List.mem_cons_of_mem _ (mem_refs (by simpa using h))
 | .val a :: rs,j + 1,i,h=>by simp only [refs]; exact mem_refs (by simpa using h)
theorem refs_inj:∀ {rs:List R},(refs rs).Nodup→∀ {i j k:Nat},rs[i]? = some (.ref k)→rs[j]? = some (.ref k)→i = j
 | [],_,i,j,k,h,_=>by simp at h
 | .val a :: rs,nd,0,_,_,h,_=>by simp at h
 | .val a :: rs,nd,_ + 1,0,_,_,h=>by simp at h
 | .val a :: rs,nd,i + 1,j + 1,k,h1,h2=>by
  have e:=refs_inj (rs:=rs) nd (i:=i) (j:=j) (k:=k) (by simpa using h1) (by simpa using h2)
  rw [e]
 | .ref a :: rs,nd,0,0,_,_,_=>rfl
 | .ref a :: rs,nd,0,j + 1,k,h1,h2=>by
  simp at h1; subst h1
  simp only [refs,List.nodup_cons] at nd
  exact absurd (mem_refs (by simpa using h2)) nd.1
 | .ref a :: rs,nd,i + 1,0,k,h1,h2=>by
  simp at h2; subst h2
  simp only [refs,List.nodup_cons] at nd
  exact absurd (mem_refs (by simpa using h1)) nd.1
 | .ref a :: rs,nd,i + 1,j + 1,k,h1,h2=>by
  simp only [refs,List.nodup_cons] at nd
  have e:=refs_inj (rs:=rs) nd.2 (i:=i) (j:=j) (k:=k) (by simpa using h1) (by simpa using h2)
  rw [e]
theorem setA_get {i k:Nat} {a:A}:(setA ρ k a)[i]? = if i = k then (match ρ[i]? with | some (some (st,_))=>some (some (st,a)) | x=>x) else ρ[i]?:=by
 unfold setA
 split
 ·rename_i st b e
  by_cases h:i = k
  ·subst h
   rw [List.getElem?_set_self (lt_of_get e),if_pos rfl,e]
  ·rw [List.getElem?_set_ne (Ne.symm h),if_neg h]
 ·rename_i hn
  by_cases h:i = k
  ·subst h
   rw [if_pos rfl]
   split
   ·rename_i st b e
    exact absurd e (hn st b)
   ·rfl
  ·rw [if_neg h]
theorem back_out:∀ {rs:List R} {as:List A} {ρ:Ro} {i:Nat},i ∉ refs rs→(back rs as ρ)[i]? = ρ[i]?
 | [],as,ρ,i,_=>by cases as <;> rfl
 | .ref k :: rs,[],ρ,i,_=>rfl
 | .val k :: rs,[],ρ,i,_=>rfl
 | .ref k :: rs,a :: as,ρ,i,h=>by
  simp only [refs,List.mem_cons,not_or] at h
  simp only [back]
  rw [back_out h.2,setA_get,if_neg h.1]
 | .val k :: rs,a :: as,ρ,i,h=>by
  simp only [refs] at h
  simp only [back]
  exact back_out h
theorem back_in:∀ {rs:List R} {as:List A} {ρ:Ro} {i j:Nat} {st:Own} {b a:A},(refs rs).Nodup→rs[j]? = some (.ref i)→as[j]? = some a → ρ[i]? = some (some (st,b))→(back rs as ρ)[i]? = some (some (st,a))
 | [],as,ρ,i,j,st,b,a,_,h,_,_=>by simp at h
 | _ :: _,[],ρ,i,j,st,b,a,_,_,h,_=>by simp at h
 | .ref k :: rs,c :: as,ρ,i,0,st,b,a,nd,h1,h2,h3=>by
  simp at h1 h2
  subst h1; subst h2
  simp only [refs,List.nodup_cons] at nd
  simp only [back]
  rw [back_out nd.1,setA_get,if_pos rfl,h3]
 | .val k :: rs,c :: as,ρ,i,0,st,b,a,nd,h1,h2,h3=>by simp at h1
 | .ref k :: rs,c :: as,ρ,i,j + 1,st,b,a,nd,h1,h2,h3=>by
  simp only [refs,List.nodup_cons] at nd
  simp only [back]
  have hk:i≠k:=by
   rintro rfl
   exact nd.1 (mem_refs (by simpa using h1))
  exact back_in nd.2 (by simpa using h1) (by simpa using h2) (by rw [setA_get,if_neg hk]; exact h3)
 | .val k :: rs,c :: as,ρ,i,j + 1,st,b,a,nd,h1,h2,h3=>by
  simp only [refs] at nd
  simp only [back]
  exact back_in nd (by simpa using h1) (by simpa using h2) h3
theorem back_len:∀ {rs:List R} {as:List A} {ρ:Ro},(back rs as ρ).length = ρ.length
 | [],as,ρ=>by cases as <;> rfl
 | .ref k :: rs,[],ρ=>rfl
 | .val k :: rs,[],ρ=>rfl
 | .ref k :: rs,a :: as,ρ=>by
  simp only [back]
  rw [back_len]
  unfold setA
  split <;> simp
 | .val k :: rs,a :: as,ρ=>by simp only [back]; exact back_len
theorem args_get:∀ {rs:List R} {args:List (Own × A)},argsOf ρ rs = some args→args.length = rs.length∧∀ (j:Nat) (r:R),rs[j]? = some r→∃ y,args[j]? = some y∧argOf ρ r = some y
 | [],args,h=>by
  simp only [argsOf,Option.some.injEq] at h
  subst h
  exact ⟨rfl,fun j r h=>by simp at h⟩
 | r :: rs,args,h=>by
  simp only [argsOf,Option.bind_eq_some_iff,Option.map_eq_some_iff] at h
  obtain ⟨y,h1,ys,h2,rfl⟩:=h
  obtain ⟨e1,e2⟩:=args_get h2
  refine ⟨by simp [e1],fun j s hj=>?_⟩
  cases j with
  | zero=>simp at hj; subst hj; exact ⟨y,rfl,h1⟩
  | succ j=>exact e2 j s (by simpa using hj)
theorem argOf_ref {i:Nat} {y:Own × A} (h:argOf ρ (.ref i) = some y):∃ st,ρ[i]? = some (some (st,y.2))∧y.1 ≠ .own∧(st = .ro→y.1 = .ro):=by
 simp only [argOf] at h
 split at h
 ·rename_i a e
  cases h
  exact ⟨_,e,fun z=>(by cases z),fun _=>rfl⟩
 ·rename_i st a hn e
  cases h
  refine ⟨_,e,fun z=>(by cases z),fun z=>?_⟩
  exact (hn z).elim
 ·cases h
end
end J
end
section
set_option Elab.async false
set_option linter.all false
namespace J
open PySem L2
section
variable {K:PySem.W.Frag} {ρ ρ' ρ1 ρ2:Ro} {σ σ' σ1 σ2:St} {H H' H1 H2:Hp} {O O' N:Addr→Prop} {fp fp' fp1 fp2:Nat→List Addr} {L L1:List Addr}
noncomputable def fpC (rs:List R) (Ls fp1:Nat→List Addr):Nat→List Addr:=fun j=>match rs[j]? with
 | some (.val _)=>Ls j
 | some (.ref i)=>fp1 i
 | none=>[]
noncomputable def ixR (rs:List R) (i:Nat):Option Nat:=rs.findIdx? fun r=>match r with
 | .ref k=>k == i
 | .val _=>false
theorem ixR_some {rs:List R} {i j:Nat} (h:ixR rs i = some j):rs[j]? = some (.ref i):=by
 unfold ixR at h
 obtain ⟨hj,h1,_⟩:=List.findIdx?_eq_some_iff_getElem.mp h
 cases e:rs[j] with
 | val a=>rw [e] at h1; simp at h1
 | ref k =>
  rw [e] at h1
  have:k = i:=by simpa using h1
  subst this
  rw [List.getElem?_eq_getElem hj,e]
theorem ixR_none {rs:List R} {i:Nat} (h:ixR rs i = none):i ∉ refs rs:=by
 unfold ixR at h
 rw [List.findIdx?_eq_none_iff] at h
 intro hm
 have:∀ {rs:List R},i∈refs rs→R.ref i∈rs:=by
  intro rs
  induction rs with
  | nil=>intro h; simp [refs] at h
  | cons r rs ih =>
   intro h
   cases r with
   | val a=>simp only [refs] at h; exact List.mem_cons_of_mem _ (ih h)
   | ref k =>
    simp only [refs,List.mem_cons] at h
    rcases h with rfl | h
    ·exact List.mem_cons_self
    ·exact List.mem_cons_of_mem _ (ih h)
 have:=h _ (this hm)
 simp at this
theorem tE_call {Φ:Fn} {np:Nat} {m:MA} {Q:VK} {E:XK} (hnp:∀ args y,Φ args = some y→args.length = np) (h:tE K (callM Φ m) σ H Q):tCall (spJ K Φ np) [] E (tA K m) σ H Q:=by
 obtain ⟨ρ,O,fp,rl,x,ρ',e,k⟩:=h
 simp only [callM,Option.bind_eq_some_iff] at e
 obtain ⟨⟨rs,ρ1⟩,e1,args,e2,e3⟩:=e
 split at e3
 case isFalse=>cases e3
 rename_i hnd
 simp only [Option.map_eq_some_iff] at e3
 obtain ⟨⟨a,as'⟩,e3,e4⟩:=e3
 cases e4
 refine ⟨ρ,O,fp,rl,rs,ρ1,e1,fun vs H1 yy=>?_⟩
 obtain ⟨L,fp1,p,q⟩:=yy
 obtain ⟨Ls,s1,s2,s3,s4,s5,s6⟩:=q.split p.nd
 obtain ⟨g1,g2⟩:=args_get e2
 rw [List.append_nil]
 have rs_of:∀ {j:Nat} {y:Own × A},args[j]? = some y→∃ r v,rs[j]? = some r∧vs[j]? = some v∧argOf ρ1 r = some y:=fun {j y} hy=>by
  have hj:j < rs.length:=by rw [← g1]; exact lt_of_get hy
  obtain ⟨y',h1,h2⟩:=g2 j rs[j] (by simp [hj])
  rw [hy] at h1; cases h1
  exact ⟨rs[j],vs[j]'(by rw [s5]; exact hj),by simp [hj],by simp,h2⟩
 -- what goes with the call
 have fpc:∀ j pp,pp∈fpC rs Ls fp1 j→(∃ a,rs[j]? = some (.val a)∧pp∈Ls j)∨(∃ i,rs[j]? = some (.ref i)∧pp∈fp1 i):=fun j pp hp=>by
  unfold fpC at hp
  split at hp
  ·rename_i a e; exact .inl ⟨a,e,hp⟩
  ·rename_i i e; exact .inr ⟨i,e,hp⟩
  ·simp at hp
 have cN:∀ pp,Fp (fpC rs Ls fp1) pp→NN fp1 (ad O L) pp:=fun pp ⟨j,hp⟩=>by
  rcases fpc j pp hp with ⟨_,_,hp⟩ | ⟨i,_,hp⟩
  ·exact .inr (.inr (s2 j pp hp))
  ·exact .inl ⟨i,hp⟩
 have oN:∀ pp,O pp→¬ Fp (fpC rs Ls fp1) pp:=fun pp ho ⟨j,hp⟩=>by
  rcases fpc j pp hp with ⟨_,_,hp⟩ | ⟨i,_,hp⟩
  ·exact p.lo pp (s2 j pp hp) ho
  ·exact p.rel.off i pp hp (.inl ho)
 have kN:∀ i pp,pp∈fp1 i→i ∉ refs rs→¬ Fp (fpC rs Ls fp1) pp:=fun i pp hp hi ⟨j,hq⟩=>by
  rcases fpc j pp hq with ⟨_,_,hq⟩ | ⟨i',hr,hq⟩
  ·exact p.rel.off i pp hp (.inr (s2 j pp hq))
  ·have:=p.rel.inj i i' pp hp hq
   subst this
   exact hi (mem_refs hr)
 let OC:Addr→Prop:=fun pp=>NN fp1 (ad O L) pp∧¬ Fp (fpC rs Ls fp1) pp
 have cNN:∀ pp,NN (fpC rs Ls fp1) OC pp→NN fp1 (ad O L) pp:=fun pp z=>z.elim (cN pp) fun z=>z.1
 have relC:Rel K (args.map some) (vs.map some) H1 OC (fpC rs Ls fp1):=by
  refine ⟨by simp [g1,s5],fun j st b hb=>?_,fun j h=>?_,fun j=>?_,fun i j pp h1 h2=>?_,fun j pp hp z=>z.2 ⟨j,hp⟩,fun pp z=>p.rel.al pp (cNN pp z)⟩
  ·rw [List.getElem?_map] at hb
   cases hy:args[j]? with
   | none=>rw [hy] at hb; cases hb
   | some y =>
    rw [hy] at hb
    cases hb
    obtain ⟨r,v,hr,hv,ha⟩:=rs_of hy
    refine ⟨v,by rw [List.getElem?_map,hv]; rfl,weakH cNN ?_⟩
    have q1:=s1 j v r hv hr
    cases r with
    | val c =>
     simp only [argOf,Option.some.injEq] at ha
     cases ha
     have:fpC rs Ls fp1 j = Ls j:=by simp [fpC,hr]
     rw [this]
     exact q1
    | ref i =>
     obtain ⟨st',h1,h2,_⟩:=argOf_ref ha
     obtain ⟨v',h3,h4⟩:=p.rel.slot i _ _ h1
     rw [q1.2] at h3; cases h3
     have:fpC rs Ls fp1 j = fp1 i:=by simp [fpC,hr]
     rw [this]
     exact h4
  ·unfold fpC
   split
   ·rename_i c e
    obtain ⟨y,hy,_⟩:=g2 j _ e
    exact absurd (by rw [List.getElem?_map,hy]; rfl) (h y.1 y.2)
   ·rename_i c e
    obtain ⟨y,hy,_⟩:=g2 j _ e
    exact absurd (by rw [List.getElem?_map,hy]; rfl) (h y.1 y.2)
   ·rfl
  ·unfold fpC
   split
   ·exact s3 j
   ·exact p.rel.nd _
   ·exact List.nodup_nil
  ·rcases fpc i pp h1 with ⟨c1,r1,z1⟩ | ⟨i1,r1,z1⟩
   ·rcases fpc j pp h2 with ⟨c2,r2,z2⟩ | ⟨i2,r2,z2⟩
    ·exact s4 i j pp z1 z2
    ·exact absurd (.inr (s2 i pp z1)) (p.rel.off i2 pp z2)
   ·rcases fpc j pp h2 with ⟨c2,r2,z2⟩ | ⟨i2,r2,z2⟩
    ·exact absurd (.inr (s2 j pp z2)) (p.rel.off i1 pp z1)
    ·have:=p.rel.inj i1 i2 pp z1 z2
     subst this
     exact refs_inj hnd r1 r2
 refine ⟨args,OC,fpC rs Ls fp1,by rw [s5,← g1]; exact hnp _ _ e3,relC,a,as',e3,fun v H2 ⟨L',fpD,pc,qc⟩=>k v H2 ?_⟩
 -- behind the call
 have hlen:rs.length≤as'.length:=by
  have:=pc.rel.len
  rw [outR_len] at this
  simp at this
  lia
 let fp2:Nat→List Addr:=fun i=>match ixR rs i with
  | some j=>fpD j
  | none=>fp1 i
 have fp2c:∀ i pp,pp∈fp2 i→(∃ j,rs[j]? = some (.ref i)∧pp∈fpD j)∨(i ∉ refs rs∧pp∈fp1 i):=fun i pp hp=>by
  simp only [fp2] at hp
  split at hp
  ·rename_i j e; exact .inl ⟨j,ixR_some e,hp⟩
  ·rename_i e; exact .inr ⟨ixR_none e,hp⟩
 have oOC:∀ pp,O pp→OC pp:=fun pp z=>⟨.inr (.inl z),oN pp z⟩
 have fOC:∀ i pp,pp∈fp1 i→i ∉ refs rs→OC pp:=fun i pp hp hi=>⟨.inl ⟨i,hp⟩,kN i pp hp hi⟩
 have nD:∀ pp,NN fp2 (ad O L') pp→NN fpD (ad OC L') pp:=fun pp z=>by
  rcases z with ⟨i,z⟩ | z | z
  ·rcases fp2c i pp z with ⟨j,_,z⟩ | ⟨hi,z⟩
   ·exact .inl ⟨j,z⟩
   ·exact .inr (.inl (fOC i pp z hi))
  ·exact .inr (.inl (oOC pp z))
  ·exact .inr (.inr z)
 have hnew:∀ pp,(pp∈L'∨Fp fpD pp)→NN fp1 (ad O L) pp∨H1 pp = none:=fun pp z=>(pc.new pp z).imp (cN pp) id
 have back1:∀ pp,(Fp (fpC rs Ls fp1) pp∨H1 pp = none)→Fp fp pp∨H pp = none:=fun pp z=>by
  rcases z with ⟨j,z⟩ | z
  ·rcases fpc j pp z with ⟨_,_,z⟩ | ⟨i,_,z⟩
   ·exact p.new pp (.inl (s2 j pp z))
   ·exact p.new pp (.inr ⟨i,z⟩)
  ·cases e:H pp with
   | none=>exact .inr rfl
   | some o =>
    by_cases hf:Fp fp pp
    ·exact .inl hf
    ·rw [p.kept pp o e (.inl hf)] at z; cases z
 have slot2:∀ i st b,(back rs as' ρ1)[i]? = some (some (st,b))→(∃ j,ixR rs i = some j∧rs[j]? = some (.ref i)∧as'[j]? = some b∧∃ c,ρ1[i]? = some (some (st,c)))∨(ixR rs i = none∧i ∉ refs rs ∧ ρ1[i]? = some (some (st,b))):=fun i st b hb=>by
  cases e:ixR rs i with
  | some j =>
   have hr:=ixR_some e
   have hj:j < rs.length:=lt_of_get hr
   obtain ⟨y,hy,ha⟩:=g2 j _ hr
   obtain ⟨st',h1,_,_⟩:=argOf_ref ha
   have hb':=back_in (as:=as') (a:=as'[j]'(by lia)) hnd hr (by simp) h1
   rw [hb] at hb'
   cases hb'
   exact .inl ⟨j,rfl,hr,by simp,_,h1⟩
  | none =>
   have hi:=ixR_none e
   rw [back_out hi] at hb
   exact .inr ⟨rfl,hi,hb⟩
 have rel2:Rel K (back rs as' ρ1) σ H2 (ad O L') fp2:=by
  refine ⟨by rw [back_len]; exact p.rel.len,fun i st b hb=>?_,fun i h=>?_,fun i=>?_,fun i1 i2 pp h1 h2=>?_,fun i pp h z=>?_,fun pp z=>pc.rel.al pp (nD pp z)⟩
  ·rcases slot2 i st b hb with ⟨j,ej,hr,hb2,c,hc⟩ | ⟨ej,hi,hb2⟩
   ·obtain ⟨y,hy,ha⟩:=g2 j _ hr
    obtain ⟨st',h1,h2,_⟩:=argOf_ref ha
    obtain ⟨v',h3,h4⟩:=pc.rel.slot j _ _ (get_outR (st:=y.1) (a0:=y.2) hy h2 hb2)
    have hv:vs[j]? = some v':=by
     rw [List.getElem?_map] at h3
     cases e:vs[j]? with
     | none=>rw [e] at h3; cases h3
     | some w=>rw [e] at h3; cases h3; rfl
    have q1:=s1 j v' _ hv hr
    have:fp2 i = fpD j:=by simp only [fp2,ej]
    exact ⟨v',q1.2,by rw [this]; exact weakH nD h4⟩
   ·obtain ⟨v',h3,h4⟩:=p.rel.slot i _ _ hb2
    have:fp2 i = fp1 i:=by simp only [fp2,ej]
    refine ⟨v',h3,?_⟩
    rw [this]
    refine h4.tr (M:=Fp (fpC rs Ls fp1)) cN pc.kept (fun pp z=>?_) fun pp hp=>kN i pp hp hi
    rcases z with ⟨i',z⟩ | z | z
    ·rcases fp2c i' pp z with ⟨j,_,z⟩ | ⟨_,z⟩
     ·exact hnew pp (.inr ⟨j,z⟩)
     ·exact .inl (.inl ⟨i',z⟩)
    ·exact .inl (.inr (.inl z))
    ·exact hnew pp (.inl z)
  ·simp only [fp2]
   split
   ·rename_i j ej
    have hr:=ixR_some ej
    have hj:j < rs.length:=lt_of_get hr
    obtain ⟨y,hy,ha⟩:=g2 j _ hr
    obtain ⟨st',h1,_,_⟩:=argOf_ref ha
    exact absurd (back_in (as:=as') (a:=as'[j]'(by lia)) hnd hr (by simp) h1) (h _ _)
   ·rename_i ej
    exact p.rel.out i fun st b hb=>h st b (by rw [back_out (ixR_none ej)]; exact hb)
  ·simp only [fp2]
   split
   ·exact pc.rel.nd _
   ·exact p.rel.nd _
  ·rcases fp2c i1 pp h1 with ⟨j1,r1,z1⟩ | ⟨r1,z1⟩
   ·rcases fp2c i2 pp h2 with ⟨j2,r2,z2⟩ | ⟨r2,z2⟩
    ·have:=pc.rel.inj j1 j2 pp z1 z2
     subst this
     rw [r1] at r2; cases r2; rfl
    ·exact absurd (.inl (fOC i2 pp z2 r2)) (pc.rel.off j1 pp z1)
   ·rcases fp2c i2 pp h2 with ⟨j2,r2,z2⟩ | ⟨r2,z2⟩
    ·exact absurd (.inl (fOC i1 pp z1 r1)) (pc.rel.off j2 pp z2)
    ·exact p.rel.inj i1 i2 pp z1 z2
  ·rcases fp2c i pp h with ⟨j,r1,z1⟩ | ⟨r1,z1⟩
   ·exact pc.rel.off j pp z1 (z.imp (oOC pp) id)
   ·rcases z with z | z
    ·exact p.rel.off i pp z1 (.inl z)
    ·exact pc.lo pp z (fOC i pp z1 r1)
 refine ⟨L',fp2,⟨rel2,pc.nd,fun pp hp z=>pc.lo pp hp (oOC pp z),fun pp hp=>?_,p.kept.trans pc.kept fun pp z=>back1 pp (.inl z),rfl,p.stab.trans fun i st b hb hs=>?_⟩,weakH nD qc⟩
 ·rcases hp with hp | ⟨i,hp⟩
  ·exact back1 pp (pc.new pp (.inl hp))
  ·rcases fp2c i pp hp with ⟨j,_,z⟩ | ⟨_,z⟩
   ·exact back1 pp (pc.new pp (.inr ⟨j,z⟩))
   ·exact p.new pp (.inr ⟨i,z⟩)
 ·cases e:ixR rs i with
  | none=>exact ⟨b,by rw [back_out (ixR_none e)]; exact hb,rfl,fun _=>rfl⟩
  | some j =>
   have hr:=ixR_some e
   have hj:j < rs.length:=lt_of_get hr
   obtain ⟨y,hy,ha⟩:=g2 j _ hr
   obtain ⟨st',h1,h2,h3⟩:=argOf_ref ha
   rw [hb] at h1; cases h1
   refine ⟨_,back_in (as:=as') (a:=as'[j]'(by lia)) hnd hr (by simp) hb,rfl,fun z=>?_⟩
   obtain ⟨a',h4,_,h5⟩:=pc.stab j y.1 y.2 (by rw [List.getElem?_map,hy]; rfl) h2
   obtain ⟨_,_,_,h6⟩:=outR_get h4
   have:as'[j]? = some (as'[j]'(by lia)):=by simp
   rw [this] at h6
   have e5:=h5 (h3 z)
   have e6:as'[j]'(by lia) = a':=Option.some.inj h6
   rw [e6,e5]
end
end J
end
section
set_option Elab.async false
set_option linter.all false
set_option maxRecDepth 100000
namespace J
open PySem PySem.Spec PyProof.Rows L2
noncomputable def JE (X:Cx) (e:Expr) (m:ME):Prop:=PE X e (tE X.K m)
noncomputable def JT (X:Cx) (e:Expr) (m:MT):Prop:=PT X e (tT X.K m)
noncomputable def JW (X:Cx) (e:Expr) (m:MT):Prop:=PW X e (tT X.K m)
noncomputable def JA (X:Cx) (es:List Expr) (m:MA):Prop:=PA X es (tA X.K m)
noncomputable def JI (X:Cx) (tg e:Expr) (m:MI):Prop:=PI X tg e (tI X.K m)
noncomputable def JS (X:Cx) (s:Stmt) (m:MS):Prop:=PS X s (tS X.K m)
noncomputable def JSs (X:Cx) (s:List Stmt) (m:MS):Prop:=PSs X s (tS X.K m)
section
variable {X:Cx} {a b c e:Expr} {es:List Expr} {m m1 m2 m3:ME} {ms:MA} {mt mt2:MT} {mi:MI} {p pos pos':Pos} {x:Str} {s:Stmt} {ss:List Stmt} {w1 w2:MS}
theorem pe_weak {t t':TE} (h:PE X e t) (w:∀ σ H Q,t' σ H Q→t σ H Q):PE X e t':=fun pins s σ H Q I q=>h pins s σ H Q I (w σ H Q q)
theorem pt_weak {t t':TT} (h:PT X e t) (w:∀ σ H Q,t' σ H Q→t σ H Q):PT X e t':=fun pins s σ H Q I q=>h pins s σ H Q I (w σ H Q q)
theorem pw_weak {t t':TT} (h:PW X e t) (w:∀ σ H Q,t' σ H Q→t σ H Q):PW X e t':=fun wh pins s σ H Q I q=>h wh pins s σ H Q I (w σ H Q q)
theorem pa_weak {t t':TA} (h:PA X es t) (w:∀ σ H Q,t' σ H Q→t σ H Q):PA X es t':=fun pp pins s σ H Q I q=>h pp pins s σ H Q I (w σ H Q q)
theorem ps_weak {t t':TS} (h:PS X s t) (w:∀ D σ H,t' D σ H→t D σ H):PS X s t':=fun pins s σ H D I q=>h pins s σ H D I (w D σ H q)
theorem pss_weak {t t':TS} (h:PSs X ss t) (w:∀ D σ H,t' D σ H→t D σ H):PSs X ss t':=fun pins s σ H D I q=>h pins s σ H D I (w D σ H q)
theorem pi_weak {tg:Expr} {t t':TI} (h:PI X tg e t) (w:∀ σ H R,t' σ H R→t σ H R):PI X tg e t':=fun pins s σ H R I q=>h pins s σ H R I (w σ H R q)
theorem je_var (i:Nat) (hN:X.N[i]? = some x) (hv:Vis X.env.scope x) (hd:(x == ("__debug__" : Str)) = false) (hcd:(x == ("__classdict__" : Str)) = false):JE X (.Name x pos) (varM i):=pe_weak (pe_var hN hv hd hcd) fun _ _ _ h=>tE_var h
theorem je_int {i:Int} {j:Nat}:JE X (.Constant (.int i) j pos) (litM (.int i)):=pe_weak pe_int fun _ _ _ h=>tE_lit (fun _ _=>.int i) h
theorem je_bl {b:Bool} {j:Nat}:JE X (.Constant (.bool b) j pos) (litM (.bl b)):=pe_weak pe_bl fun _ _ _ h=>tE_lit (fun _ _=>.bl b) h
theorem je_non {j:Nat}:JE X (.Constant .none j pos) (litM .non):=pe_weak pe_non fun _ _ _ h=>tE_lit (fun _ _=>.non) h
theorem je_str {z:Str} {j:Nat} (hz:z.length≤sizeLine):JE X (.Constant (.str z) j pos) (litM (.str z)):=pe_weak pe_str fun _ _ _ h=>tE_lit (fun _ _=>.str z hz) h
theorem je_gint {n:Int} (G:GInt X.mg x n) (hg:Gl X x) (hd:(x == ("__debug__" : Str)) = false):JE X (.Name x pos) (litM (.int n)):=pe_weak (pe_gint G rfl hg hd) fun _ _ _ h=>tE_lit (fun _ _=>.int n) h
theorem je_plain (h:JE X e m):JE X e (plainM m):=pe_weak h fun _ _ _ h=>tE_plain h
theorem ja_nil:JA X [] nilM:=pa_weak pa_nil fun _ _ _ h=>tA_nil h
theorem ja_cons (hs:starEach (e :: es) X.env = (false,eval e X.env) :: starEach es X.env) (h:JE X e m) (t:JA X es ms):JA X (e :: es) (consM m ms):=pa_weak (pa_cons h t hs) fun _ _ _ h=>tA_cons h
noncomputable def r1L (r:V→Hp→VK→Prop):List V→Hp→VK→Prop:=fun xs H Q=>∃ x,xs = [x]∧r x H Q
noncomputable def r2L (r:R2):List V→Hp→VK→Prop:=fun xs H Q=>∃ x y,xs = [x,y]∧r x y H Q
noncomputable def m1L (m:ME):MA:=consM m nilM
noncomputable def m2L (m m':ME):MA:=consM m (consM m' nilM)
theorem two {K:PySem.W.Frag} {f:List A→Option A} {r:R2} (ok:OpN K f (r2L r)) {σ:L2.St} {H:Hp} {Q:VK} (h:tE K (opM f (m2L m1 m2)) σ H Q):tOp r (tE K m1) (tE K m2) σ H Q:=by
 have h1:=tA_cons (tE_op ok h)
 refine tE.mono h1 fun v H1 h2=>tE.mono (tA_cons h2) fun u H2 h3=>?_
 obtain ⟨x,y,e,q⟩:=tA_nil h3
 cases e
 exact q
theorem one {K:PySem.W.Frag} {f:List A→Option A} {r:V→Hp→VK→Prop} (ok:OpN K f (r1L r)) {σ:L2.St} {H:Hp} {Q:VK} (h:tE K (opM f (m1L m)) σ H Q):tUn r (tE K m) σ H Q:=by
 refine tE.mono (tA_cons (tE_op ok h)) fun v H1 h2=>?_
 obtain ⟨x,e,q⟩:=tA_nil h2
 cases e
 exact q
theorem je_bin {op:Operator} {f:List A→Option A} {r:R2} (ok:OpN X.K f (r2L r)) (ho:OpR X (binaryOp op) r) (ha:JE X a m1) (hb:JE X b m2):JE X (.BinOp a op b pos) (opM f (m2L m1 m2)):=pe_weak (pe_op ho ha hb) fun _ _ _ h=>two ok h
theorem je_un {op:UnaryOp} {f:List A→Option A} {r:V→Hp→VK→Prop} (ok:OpN X.K f (r1L r)) (ho:UnR X (unaryOp op) r) (ha:JE X a m):JE X (.UnaryOp op a pos) (opM f (m1L m)):=pe_weak (pe_un ho ha) fun _ _ _ h=>one ok h
theorem je_cmp {op:CmpOp} {f:List A→Option A} {r:R2} (ok:OpN X.K f (r2L r)) (ho:OpR X (compareOp op) r) (hm:behindInMarks op b = false) (ha:JE X a m1) (hb:JE X b m2):JE X (.Compare a [op] [b] pos) (opM f (m2L m1 m2)):=pe_weak (pe_cmpR ho ha hb hm) fun _ _ _ h=>two ok h
theorem jt_cmp {op:CmpOp} {f:List A→Option A} {r:R2} (ok:OpN X.K f (r2L r)) (ho:OpR X (compareOp op) r) (hm:behindInMarks op b = false) (ha:JE X a m1) (hb:JE X b m2):JT X (.Compare a [op] [b] pos) (tstM (opM f (m2L m1 m2))):=
 pt_weak (pt_cmpR ho ha hb hm) fun _ _ _ h=>two ok (tT_tst h)
theorem je_ix {f:List A→Option A} {r:R2} (ok:OpN X.K f (r2L r)) (ho:IxR X r) (hs:PlainIx b) (ha:JE X a m1) (hb:JE X b m2):JE X (.Subscript a b pos) (opM f (m2L m1 m2)):=pe_weak (pe_ix ho ha hb hs) fun _ _ _ h=>two ok h
theorem je_callB {id:String} {f:List A→Option A} {r:List V→Hp→VK→Prop} (ok:OpN X.K f r) (hc:CallR X (.builtin id) r) (hm:X.mg x = none) (hv:bootBuiltins x = some (.builtin id)) (hn:x ≠ "__name__") (hdb:(x == ("__debug__" : Str)) = false) (hg:Gl X x)
  (he:starEach (e :: es) X.env = (false,eval e X.env) :: starEach es X.env) (hpl:(backTo pos (starEach es X.env)).any (·.1) = false) (ha:JA X (e :: es) ms):JE X (.Call (.Name x p) (e :: es) [] pos) (opM f ms):=
 pe_weak (pe_callBx hc hm hv hn hdb hg he hpl ha) fun _ _ _ h=>tE_op ok h
theorem je_callT {T:String} {f:List A→Option A} {r:List V→Hp→VK→Prop} (ok:OpN X.K f r) (hc:CallR X (.type T) r) (hm:X.mg x = none) (hv:bootBuiltins x = some (.type T)) (hn:x ≠ "__name__") (hdb:(x == ("__debug__" : Str)) = false) (hg:Gl X x)
  (he:starEach (e :: es) X.env = (false,eval e X.env) :: starEach es X.env) (hpl:(backTo pos (starEach es X.env)).any (·.1) = false) (ha:JA X (e :: es) ms):JE X (.Call (.Name x p) (e :: es) [] pos) (opM f ms):=
 pe_weak (pe_callTx hc hm hv hn hdb hg he hpl ha) fun _ _ _ h=>tE_op ok h
theorem je_one {op:BoolOp} (h:JE X a m):JE X (.BoolOp op [a] pos) m:=pe_one h
theorem je_and (ha:JE X a m1) (hb:JE X (.BoolOp .And (b :: es) pos) m2):JE X (.BoolOp .And (a :: b :: es) pos) (andM m1 m2):=pe_weak (pe_and ha hb) fun _ _ _ h=>tE_and h
theorem je_not (ha:JE X a m1):JE X (.UnaryOp .Not a pos) (notM m1):=pe_weak (pe_not ha) fun _ _ _ h=>tE_not h
theorem jt_val (he:∀ whole,isTrue e X.env whole = (do let v ← whole; standAt e.pos; holding [v] (truthy v))) (h:JE X e m):JT X e (tstM m):=pt_weak (pt_valx he h) fun _ _ _ h=>tT_tst h
theorem jw_and1 (ha:JT X a mt):JW X (.BoolOp .And [a] pos) mt:=pw_and1 ha
theorem jw_or1 (ha:JT X a mt):JW X (.BoolOp .Or [a] pos) mt:=pw_or1 ha
theorem jw_and (ha:JT X a mt) (hb:JW X (.BoolOp .And (b :: es) pos) mt2):JW X (.BoolOp .And (a :: b :: es) pos) (andT mt mt2):=pw_weak (pw_and ha hb) fun _ _ _ h=>tT_and h
theorem jw_or (ha:JT X a mt) (hb:JW X (.BoolOp .Or (b :: es) pos) mt2):JW X (.BoolOp .Or (a :: b :: es) pos) (orT mt mt2):=pw_weak (pw_or ha hb) fun _ _ _ h=>tT_or h
theorem jt_bool (h:JW X e mt):JT X e mt:=h.pt
theorem jt_not (ha:JT X a mt):JT X (.UnaryOp .Not a pos) (notT mt):=pt_weak (pt_not ha) fun _ _ _ h=>tT_not h
theorem tE_chn {K:PySem.W.Frag} {f g:List A→Option A} {r r':R2} (ok:OpN K f (r2L r)) (ok':OpN K g (r2L r')) {σ:L2.St} {H:Hp} {Q:VK} (h:tE K (chnM f g m1 m2 m3) σ H Q):tChain r r' (tE K m1) (tE K m2) (tE K m3) σ H Q:=by
 obtain ⟨ρ,O,fp,rl,y,ρ',h0,k⟩:=h
 simp only [chnM,Option.bind_eq_some_iff] at h0
 obtain ⟨⟨r1,ρ1⟩,e1,⟨r2,ρ2⟩,e2,as,e3,z,e4,kb,e5,e6⟩:=h0
 refine ⟨ρ,O,fp,rl,r1,ρ1,e1,fun v1 H1 yy=>?_⟩
 obtain ⟨L1,fp1,p1,q1⟩:=yy
 refine ⟨ρ1,ad O L1,fp1,p1.rel,r2,ρ2,e2,fun v2 H2 yy=>?_⟩
 obtain ⟨L2,fp2,p2,q2⟩:=yy
 have p12:=p1.then p2
 have q1':=p2.rr p1.rel q1 fun _ z=>z
 have q2':RR K (NN fp2 (ad O (L1 ++ L2))) H2 σ v2 r2 L2:=by
  have e:ad (ad O L1) L2 = ad O (L1 ++ L2):=funext fun p=>propext ad_app
  rw [← e]
  exact q2
 have hs:RepS K (NN fp2 (ad O (L1 ++ L2))) H2 [v1,v2] as:=p12.rel.peeks (rs:=[r1,r2]) (L:=L1 ++ L2) ⟨L1,L2,rfl,q1',L2,[],by simp,q2',rfl⟩ e3
 have key:=ok _ H2 [v1,v2] as z (fun u H3=>∃ kk,u = .bl kk∧if kk = true then tE K m3 σ H3 fun w H4=>r' v2 w H4 Q else Q (.bl false) H3) hs e4 ?_
 ·obtain ⟨x',y',e,q⟩:=key
  cases e
  exact q
 intro u H3 o
 obtain ⟨sm,L3,q3,nd3,nw3⟩:=o
 have hb:=repBl q3 e5
 refine ⟨kb,hb,?_⟩
 have p3:Post K O fp H ρ ρ2 σ σ (L1 ++ L2) fp2 H3:=p12.more sm p12.nd fun p hp=>.inl hp
 cases kb with
 | false =>
  rw [if_neg Bool.false_ne_true]
  simp at e6
  obtain ⟨rfl,rfl⟩:=e6
  exact k _ H3 ⟨[],fp2,p3.drop0,rrFz (.bl _)⟩
 | true =>
  rw [if_pos rfl]
  simp only [if_true,Option.bind_eq_some_iff,Option.map_eq_some_iff] at e6
  obtain ⟨⟨r3,ρ3⟩,e7,bs,e8,z2,e9,e10⟩:=e6
  cases e10
  refine ⟨ρ2,ad O (L1 ++ L2),fp2,p3.rel,r3,ρ3,e7,fun v3 H4 yy=>?_⟩
  obtain ⟨L4,fp4,p4,q4⟩:=yy
  have p34:=p3.then p4
  have q2'':RR K (NN fp2 (ad O (L1 ++ L2))) H3 σ v2 r2 L2:=by
   cases r2 with
   | ref i=>exact q2'
   | val a=>exact RepH.tr (M:=fun _=>False) (fun _ z=>z.elim) (Same.kept sm) (fun p z=>.inl z) (fun _ _ z=>z) q2'
  have q2f:=p4.rr p3.rel q2'' fun p z=>List.mem_append_right _ z
  have q4':RR K (NN fp4 (ad O ((L1 ++ L2) ++ L4))) H4 σ v3 r3 L4:=by
   have e:ad (ad O (L1 ++ L2)) L4 = ad O ((L1 ++ L2) ++ L4):=funext fun p=>propext ad_app
   rw [← e]
   exact q4
  have hs2:RepS K (NN fp4 (ad O ((L1 ++ L2) ++ L4))) H4 [v2,v3] bs:=p34.rel.peeks (rs:=[r2,r3]) (L:=L2 ++ L4) ⟨L2,L4,rfl,q2f,L4,[],by simp,q4',rfl⟩ e8
  obtain ⟨x',y',e,q⟩:=ok' _ H4 [v2,v3] bs z2 Q hs2 e9 fun u H5 o=>k u H5 (p34.out o)
  cases e
  exact q
theorem je_chn {op op':CmpOp} {f g:List A→Option A} {r r':R2} (ok:OpN X.K f (r2L r)) (ok':OpN X.K g (r2L r')) (ho:OpR X (compareOp op) r) (ho':OpR X (compareOp op') r') (hm:lastMarks [op,op'] [b,c] = false) (ha:JE X a m1) (hb:JE X b m2) (hc:JE X c m3) :
  JE X (.Compare a [op,op'] [b,c] pos) (chnM f g m1 m2 m3):=pe_weak (pe_chain ho ho' ha hb hc hm) fun _ _ _ h=>tE_chn ok ok' h
theorem jt_chn {op op':CmpOp} {f g:List A→Option A} {r r':R2} (ok:OpN X.K f (r2L r)) (ok':OpN X.K g (r2L r')) (ho:OpR X (compareOp op) r) (ho':OpR X (compareOp op') r') (hm:lastMarks [op,op'] [b,c] = false) (ha:JE X a m1) (hb:JE X b m2) (hc:JE X c m3) :
  JT X (.Compare a [op,op'] [b,c] pos) (tstM (chnM f g m1 m2 m3)):=pt_weak (pt_chain ho ho' ha hb hc hm) fun _ _ _ h=>tE_chn ok ok' (tT_tst h)
theorem je_lst (h:JA X es ms):JE X (.List es pos) (lstM ms):=pe_weak (pe_lst h) fun _ _ _ h=>tE_lst h
theorem je_call {P:Program} {w:World} {K:PySem.W.Frag} {mg:Str→Option Value} {base:Heap} {CX:CXT} {k j:Nat} {ps:List Str} {Φ:Fn} {np:Nat} {E:XK} (D:Def P w K mg base CX k x ps (spJ K Φ np)) (hnp:∀ args y,Φ args = some y→args.length = np)
  (hP:X.prog = P) (hw:X.w = w) (hK:X.K = K) (hm:X.mg = mg) (hb:X.base = base) (hr:Room j X.A) (hkj:k≤j) (hx:Passes CX X E) (hdb:(x == ("__debug__" : Str)) = false) (hg:Gl X x)
  (he:starEach (e :: es) X.env = (false,eval e X.env) :: starEach es X.env) (hpl:(backTo pos (starEach es X.env)).any (·.1) = false) (ha:JA X (e :: es) ms):JE X (.Call (.Name x p) (e :: es) [] pos) (callM Φ ms):=by
 subst hP hw hK hm hb
 exact pe_weak (pe_def D hr hkj hx ha hg hdb he hpl) fun _ _ _ h=>tE_call hnp h
noncomputable def JEc (X:Cx) (own:List Str) (scope:Scope) (e:Expr) (m:ME):Prop:=∀ C s H fp pins,JE (cxC X own scope C s H fp pins) e m
noncomputable def JTc (X:Cx) (own:List Str) (scope:Scope) (ifs:List Expr) (m:MT):Prop:=∀ C s H fp pins,PTs (cxC X own scope C s H fp pins) ifs (tT X.K m)
theorem jtc_nil {own:List Str} {scope:Scope}:JTc X own scope [] yesT:=fun C s H fp pins=>fun _ _ _ H _ I h=>by
 obtain ⟨ρ,O,fp,r,x,ρ',e,k⟩:=h
 cases e
 exact pts_nil _ _ _ H _ I (k fp H r.post)
theorem jtc_one {own:List Str} {scope:Scope} (h:∀ C s H fp pins,JT (cxC X own scope C s H fp pins) c mt):JTc X own scope [c] mt:=fun C s H fp pins=>pts_one (h C s H fp pins)
theorem own_new {own N:List Str} {sc sco:Scope} (hok:lcOk own N sc sco = true):∀ y∈own,y ∉ N:=fun y hy=>by
 simp only [lcOk,Bool.and_eq_true,List.all_eq_true] at hok
 have:=hok.2 y hy
 simpa using this
theorem je_lc1 {scope:Scope} {iter elt:Expr} {ifs:List Expr} {px:Pos} (hok:lcOk [x] X.N scope X.env.scope = true) (hc:X.calm = true) (hn:X.N.Nodup) (hx:scope.names.lookup x = some .local)
  (hs:∀ z,foldedSetIterable iter X.env z = pure z) (hi:JI X (.Name x px) iter mi) (ht:JTc X [x] scope ifs mt) (he:JEc X [x] scope elt m) :
  JE X (.ListComp elt [⟨.Name x px,iter,ifs,0⟩] scope pos) (compM mi 0 mt m):=
 pe_weak (pe_lcN (te:=tE X.K m) hok hc ⟨hn⟩ rfl hx hs hi ht (fun C s H fp pins=>he C s H fp pins)) fun _ _ _ h=>tE_comp h
theorem je_lc2 {scope:Scope} {iter elt:Expr} {ifs:List Expr} {px py pt':Pos} {y:Str} {k:Nat} (hok:lcOk [x,y] X.N scope X.env.scope = true) (hc:X.calm = true) (hn:X.N.Nodup) (hxy:x≠y) (hx:scope.names.lookup x = some .local) (hy:scope.names.lookup y = some .local)
  (hs:∀ z,foldedSetIterable iter X.env z = pure z) (hi:JI X (.Tuple [.Name x px,.Name y py] k pt') iter mi) (ht:JTc X [x,y] scope ifs mt) (he:JEc X [x,y] scope elt m) :
  JE X (.ListComp elt [⟨.Tuple [.Name x px,.Name y py] k pt',iter,ifs,0⟩] scope pos) (compM mi 2 mt m):=by
 have nw:=own_new hok
 refine pe_weak (pe_lc (un:=uPat X.K 2) hc hok hi (te:=tE X.K m) (fun C s H fp pins=>?_) ht (fun C s H fp pins=>he C s H fp pins) hs) fun _ _ _ h=>tE_comp h
 have P:=pgo_pair (X:=cxC X [x,y] scope C s H fp pins) (px:=px) (py:=py) (pos:=pt') (k:=k) hc rfl rfl (List.nodup_cons.mpr ⟨by
  intro z
  rcases List.mem_cons.mp z with z | z
  ·exact hxy z
  ·exact nw x (by simp) z,List.nodup_cons.mpr ⟨nw y (by simp),hn⟩⟩) (lookup_relabel_local hx) (lookup_relabel_local hy)
 intro pins' s' σ0 σ H' v u vs h0 I r hu
 obtain ⟨a,rfl,hq,hl⟩:=hu
 obtain ⟨v1,v2,rfl⟩:=len2 hl
 exact P pins' s' σ0 σ H' _ u _ h0 I r ⟨a,v1,v2,rfl,hq,rfl⟩
theorem pi_seq {tg l:Expr} {tl:TE} (hl:PE X l tl):PI X tg l (iSeq X.K tl):=by
 intro pins s σ H R I h
 refine thn (hl pins s σ H _ I h) fun v s1 yy=>?_
 obtain ⟨y,H1,I1,r1,q1⟩:=yy
 obtain ⟨a,e,q1⟩:=q1
 subst e
 cases r1
 rcases q1 with ⟨⟨xs,hq⟩,q⟩ | ⟨⟨xs,hq⟩,q⟩
 ·obtain ⟨its,rv,p,hz⟩:=I1.list hq
  refine wpAny_pyIter_list p.isList ?_
  refine ⟨s1.heap.objs.size,[s1.heap.objs.size],_,_,H1,rfl,I1.kept (t':=s1.toks) fun b o e=>Heap.get?_push_of_some _ e,turn_list a _,⟨_,Heap.get?_push_size _ rfl,rfl,rfl⟩,fun b hb=>?_,q⟩
  have e:b = s1.heap.objs.size:=by simpa using hb
  subst e
  exact I1.fpOk (Nat.le_refl _) (I1.hok.fresh (Nat.le_refl _))
 ·obtain ⟨its,rv,p,hz⟩:=I1.tuple hq
  refine wpAny_pyIter_tuple (show s1.heap.IsTuple a its.toArray from p) ?_
  refine ⟨s1.heap.objs.size,[s1.heap.objs.size],_,_,H1,rfl,I1.kept (t':=s1.toks) fun b o e=>Heap.get?_push_of_some _ e,turn_tuple a _,⟨_,Heap.get?_push_size _ rfl,rfl,rfl⟩,fun b hb=>?_,q⟩
  have e:b = s1.heap.objs.size:=by simpa using hb
  subst e
  exact I1.fpOk (Nat.le_refl _) (I1.hok.fresh (Nat.le_refl _))
theorem ji_seq {tg:Expr} (h:JE X e m):JI X tg e (seqI m):=pi_weak (pi_seq h) fun _ _ _ h=>tI_seq h
theorem tI_str {K:PySem.W.Frag} {σ:L2.St} {H:Hp} {R:It→Hp→Prop} (h:tI K (strI m) σ H R):iStr (tE K m) σ H R:=by
 obtain ⟨ρ,O,fp,rl,ds,n,ρ',e,k⟩:=h
 simp only [strI,Option.bind_eq_some_iff] at e
 obtain ⟨⟨r,ρ1⟩,e1,e2⟩:=e
 dsimp only at e2
 split at e2
 ·rename_i z
  split at e2
  ·rename_i hz
   cases e2
   refine ⟨ρ,O,fp,rl,_,_,e1,fun v H1 yy=>?_⟩
   obtain ⟨L,fp1,p,q⟩:=yy
   have q':RepH K (NN fp1 (ad O L)) H1 v (.fz (.str z)) L:=q
   rw [RepH] at q'
   obtain ⟨rfl,q'⟩:=q'
   cases q'
   refine ⟨z,rfl,k _ _ ⟨.val (.fz .non),.non,.fz .non,[],fp1,p,repFz (K:=K) .non,rfl,rfl,fun N H2 _=>?_⟩⟩
   have hl:(signsD z).length = z.cps.size:=by simp [signsD]
   refine ⟨fun i hi=>by show i < z.cps.size; lia,fun i hi=>by show z.cps.size≤i; lia,fun i v H' d y e=>?_⟩
   obtain ⟨rfl,c,hc,rfl⟩:=y
   refine ⟨fun _ _ z=>z,?_⟩
   have:d = .str ⟨#[c]⟩:=by
    simp only [signsD,List.getElem?_map] at e
    have hc':z.cps.toList[i]? = some c:=by simpa using hc
    rw [hc'] at e
    cases e
    rfl
   subst this
   exact .str _ (by show 1≤sizeLine; decide)
  ·cases e2
 ·cases e2
theorem ji_str {tg:Expr} (h:JE X e m):JI X tg e (strI m):=pi_weak (pi_str h) fun _ _ _ h=>tI_str h
theorem tI_rng1 {K:PySem.W.Frag} {σ:L2.St} {H:Hp} {R:It→Hp→Prop} (h:tI K (rngI1 m) σ H R):iRng1 (tCons (tE K m) tNil) σ H R:=by
 obtain ⟨ρ,O,fp,rl,ds,n,ρ',e,k⟩:=h
 simp only [rngI1,Option.bind_eq_some_iff] at e
 obtain ⟨⟨r,ρ1⟩,e1,e2⟩:=e
 dsimp only at e2
 split at e2
 ·rename_i j
  split at e2
  ·rename_i hz
   cases e2
   refine ⟨ρ,O,fp,rl,_,_,e1,fun v H1 yy=>?_⟩
   obtain ⟨L,fp1,p,q⟩:=yy
   have q':RepH K (NN fp1 (ad O L)) H1 v (.fz (.int j)) L:=q
   rw [RepH] at q'
   obtain ⟨rfl,q'⟩:=q'
   cases q'
   refine ⟨j,rfl,hz.1,hz.2,k _ _ ⟨.val (.fz .non),.non,.fz .non,[],fp1,p,repFz (K:=K) .non,rfl,rfl,fun N H2 _=>?_⟩⟩
   have hl:(upto 0 j.toNat).length = j.toNat:=by simp [upto]
   refine ⟨fun i hi=>by show i < j.toNat; lia,fun i hi=>by show j.toNat≤i; lia,fun i v H' d y e=>?_⟩
   obtain ⟨rfl,rfl⟩:=y
   refine ⟨fun _ _ z=>z,?_⟩
   have hi:i < j.toNat:=by have:=lt_of_get e; lia
   simp only [upto,List.getElem?_map,List.getElem?_range hi,Option.map_some,Option.some.injEq] at e
   subst e
   exact .int _
  ·cases e2
 ·cases e2
theorem ji_rng1 {tg:Expr} (hg:Gl X "range") (hm:X.mg "range" = none) (hs:starEach [a] X.env = [(false,eval a X.env)]) (h:JE X a m):JI X tg (.Call (.Name "range" p) [a] [] pos) (rngI1 m):=pi_weak (pi_range1 hg hm (pa_cons h pa_nil hs) hs) fun _ _ _ h=>tI_rng1 h
theorem jss_nil:JSs X [] skipS:=pss_weak pss_nil fun _ _ _ h=>tS_skip h
theorem jss_one (h:JS X s w1):JSs X [s] w1:=pss_one h
theorem jss_cons (h:JS X s w1) (t:JSs X ss w2):JSs X (s :: ss) (seqS w1 w2):=pss_weak (pss_cons h t) fun _ _ _ h=>tS_seq h
theorem js_never:JS X s stuckS:=fun _ _ _ _ _ _ y=>by
 obtain ⟨_,_,_,_,_,h,_⟩:=y
 cases h
theorem js_break:JS X (.Break pos) brkS:=ps_weak ps_break fun _ _ _ h=>tS_brk h
theorem js_exp (hs:swapsWith e none pos.line X.env = pure false) (h:JE X e m):JS X (.Expr e pos) (expS m):=ps_weak (ps_expr h hs) fun _ _ _ h=>tS_exp h
theorem js_ret (h:JE X e m):JS X (.Return (some e) pos) (retS m):=ps_weak (ps_ret h) fun _ _ _ h=>tS_ret h
theorem js_if {st st':List Stmt} (hc:JT X c mt) (ha:JSs X st w1) (hb:JSs X st' w2):JS X (.If c st st' pos) (ifS mt w1 w2):=ps_weak (ps_if hc ha hb) fun _ _ _ h=>tS_if h
theorem js_asg (i:Nat) (hN:X.N.Nodup) (hi:X.N[i]? = some x) (hx:Loc X.env.scope x) (hf:X.fn x = true) (hs:swapsWith e (some (.Name x pos')) pos.line X.env = pure false) (h:JE X e m):JS X (.Assign [.Name x pos'] e pos) (asgS i m):=
 ps_weak (ps_set hN hi hx h hs (.inl hf)) fun _ _ _ h=>tS_asg h
theorem js_while {st:List Stmt} (n:Nat) (hp:PassesOwn (model X.prog X.w) X.A X.env X.xe) (hc:JT X c mt) (hb:JSs X st w1):JS X (.While c st [] pos) (whileS n mt w1):=ps_weak (ps_while hp hc hb) fun _ _ _ h=>tS_while h
theorem js_for {tg iter:Expr} {st:List Stmt} {is:List Nat} {one:Bool} (hp:PassesOwn (model X.prog X.w) X.A X.env X.xe) (hc:X.calm = true) (hi:JI X tg iter mi) (hg:PG X tg (gPat X.K is one)) (hb:JSs X st w1)
  (hs:∀ y,foldedSetIterable iter X.env y = pure y):JS X (.For tg iter st [] pos) (forS is one mi w1):=ps_weak (ps_for hp hc hi hg hb hs) fun _ _ _ h=>tS_for h
theorem pg_one (i:Nat) (hN:X.N.Nodup) (hi:X.N[i]? = some x) (hx:Loc X.env.scope x) (hf:X.fn x = true):PG X (.Name x pos) (gPat X.K [i] true):=pg_name hN hi hx (.inl hf)
theorem pgn_nil:PGs X [] (gNames []):=pgs_nil
theorem pgn_cons (i:Nat) {is:List Nat} (hN:X.N.Nodup) (hi:X.N[i]? = some x) (hx:Loc X.env.scope x) (hf:X.fn x = true) (t:PGs X es (gNames is))
  (hs:(assignEach (.Name x pos :: es) X.env).map (·.2) = assign (.Name x pos) X.env :: (assignEach es X.env).map (·.2)):PGs X (.Name x pos :: es) (gNames (i :: is)):=pgs_cons (pg_name hN hi hx (.inl hf)) t hs
theorem pg_many {is:List Nat} {k:Nat} (hc:X.calm = true) (h:PGs X es (gNames is)) (hn:(assignEach es X.env).length = is.length) (hst:(assignEach es X.env).findIdx? (·.1) = none):PG X (.Tuple es k pos) (gPat X.K is false):=pg_tup hc h hn hst
end
end J
end
section
set_option Elab.async false
set_option linter.all false
set_option maxRecDepth 100000
set_option maxHeartbeats 1000000
namespace L2
open PySem PySem.Spec PyProof.Rows
section
variable {P:Program} {w:World} {H:Hp} {s:Shared} {N N':Addr→Prop}
theorem rcNeAt_D (hok:HOk P w H s.heap) {A:Around} {n:Nat} {x y:V} {d e:D} {v u:Value} (r:RepA N H x d) (q:RepA N' H y e) (rx:RelV x v) (ry:RelV y u) (hs:Sh n d) (hu:A.units + n < cLine):SeqAt.RcNeAt A s v u (!eqD d e):=by
 cases r with
 | non =>
  cases rx
  cases q with
  | non=>cases ry; exact SeqAt.RcNeAt.none_none
  | bl b=>cases ry; exact SeqAt.RcNeAt.none_bool b
  | int b=>obtain ⟨t,rfl⟩:=ry; exact SeqAt.RcNeAt.none_int b t
  | str b=>obtain ⟨t,rfl⟩:=ry; exact SeqAt.RcNeAt.none_str b t
  | lst h=>cases ry; obtain ⟨its,_,hl⟩:=rep_list hok h; exact SeqAt.RcNeAt.none_list hl (lt0 hu)
  | tup h=>cases ry; obtain ⟨its,_,hl⟩:=rep_tup hok h; exact SeqAt.RcNeAt.none_tuple hl (lt0 hu)
 | bl a =>
  cases rx
  cases q with
  | non=>cases ry; exact SeqAt.RcNeAt.bool_none a
  | bl b=>cases ry; exact SeqAt.RcNeAt.bool_bool a b
  | int b=>obtain ⟨t,rfl⟩:=ry; exact SeqAt.RcNeAt.bool_int a b t
  | str b=>obtain ⟨t,rfl⟩:=ry; exact SeqAt.RcNeAt.bool_str a b t
  | lst h=>cases ry; obtain ⟨its,_,hl⟩:=rep_list hok h; exact SeqAt.RcNeAt.bool_list a hl (lt0 hu)
  | tup h=>cases ry; obtain ⟨its,_,hl⟩:=rep_tup hok h; exact SeqAt.RcNeAt.bool_tuple a hl (lt0 hu)
 | int a =>
  obtain ⟨t',rfl⟩:=rx
  cases q with
  | non=>cases ry; exact SeqAt.RcNeAt.int_none a t'
  | bl b=>cases ry; exact SeqAt.RcNeAt.int_bool a t' b
  | int b=>obtain ⟨t,rfl⟩:=ry; exact SeqAt.RcNeAt.int_int a t' b t
  | str b=>obtain ⟨t,rfl⟩:=ry; exact SeqAt.RcNeAt.int_str a t' b t
  | lst h=>cases ry; obtain ⟨its,_,hl⟩:=rep_list hok h; exact SeqAt.RcNeAt.int_list a t' hl (lt0 hu)
  | tup h=>cases ry; obtain ⟨its,_,hl⟩:=rep_tup hok h; exact SeqAt.RcNeAt.int_tuple a t' hl (lt0 hu)
 | str a =>
  obtain ⟨t',rfl⟩:=rx
  cases q with
  | non=>cases ry; exact SeqAt.RcNeAt.str_none a t'
  | bl b=>cases ry; exact SeqAt.RcNeAt.str_bool a t' b
  | int b=>obtain ⟨t,rfl⟩:=ry; exact SeqAt.RcNeAt.str_int a t' b t
  | str b=>obtain ⟨t,rfl⟩:=ry; exact SeqAt.RcNeAt.str_str a t' b t
  | lst h=>cases ry; obtain ⟨its,_,hl⟩:=rep_list hok h; exact SeqAt.RcNeAt.str_list a t' hl (lt0 hu)
  | tup h=>cases ry; obtain ⟨its,_,hl⟩:=rep_tup hok h; exact SeqAt.RcNeAt.str_tuple a t' hl (lt0 hu)
 | @lst a vs ds h hz hn hl hr =>
  cases rx
  obtain ⟨its,rv,hil⟩:=rep_list hok h
  cases hs with
  | @lst n _ hs =>
   cases q with
   | non=>cases ry; exact SeqAt.RcNeAt.list_none hil (lt0 hu)
   | bl b=>cases ry; exact SeqAt.RcNeAt.list_bool b hil (lt0 hu)
   | int b=>obtain ⟨t,rfl⟩:=ry; exact SeqAt.RcNeAt.list_int b t hil (lt0 hu)
   | str b=>obtain ⟨t,rfl⟩:=ry; exact SeqAt.RcNeAt.list_str b t hil (lt0 hu)
   | @lst a' vs' es h' hz' hn' hl' hr' =>
    cases ry
    obtain ⟨its',rv',hil'⟩:=rep_list hok h'
    have l1:=rv.length
    have l2:=rv'.length
    rw [eqD]
    by_cases hlen:ds.length = es.length
    ·rw [eqDs_all hlen,show ds.length = its.toArray.size by simp; lia]
     refine SeqAt.RcNeAt.lists hil hil' (by simp; lia) (lt0 hu) (items_eq rv rv' hl hl' fun i v d v' e u u' e1 e2 e3 e4 ru ru'=>?_)
     exact eqAt_D hok (hr i v d e1 e2) (hr' i v' e e3 e4) ru ru' (hs d (List.mem_of_getElem? e2)) (lt1 hu)
    ·have:eqDs ds es = false:=by
      cases q:eqDs ds es with
      | false=>rfl
      | true=>exact absurd (eqDs_len q) hlen
     rw [this]
     exact SeqAt.RcNeAt.lists_lengths hil hil' (by simp; lia) (lt0 hu)
   | tup h' =>
    cases ry
    obtain ⟨its',_,hl'⟩:=rep_tup hok h'
    exact SeqAt.RcNeAt.list_tuple hil hl' (lt0 hu)
 | @tup a vs ds h hz hl hr =>
  cases rx
  obtain ⟨its,rv,hil⟩:=rep_tup hok h
  cases hs with
  | @tup n _ hs =>
   cases q with
   | non=>cases ry; exact SeqAt.RcNeAt.tuple_none hil (lt0 hu)
   | bl b=>cases ry; exact SeqAt.RcNeAt.tuple_bool b hil (lt0 hu)
   | int b=>obtain ⟨t,rfl⟩:=ry; exact SeqAt.RcNeAt.tuple_int b t hil (lt0 hu)
   | str b=>obtain ⟨t,rfl⟩:=ry; exact SeqAt.RcNeAt.tuple_str b t hil (lt0 hu)
   | @tup a' vs' es h' hz' hl' hr' =>
    cases ry
    obtain ⟨its',rv',hil'⟩:=rep_tup hok h'
    have l1:=rv.length
    have l2:=rv'.length
    have q:=SeqAt.RcNeAt.tuples (A:=A) hil hil' (lt0 hu) (items_eq rv rv' hl hl' fun i v d v' e u u' e1 e2 e3 e4 ru ru'=>eqAt_D hok (hr i v d e1 e2) (hr' i v' e e3 e4) ru ru' (hs d (List.mem_of_getElem? e2)) (lt1 hu))
    rw [eqD]
    by_cases hlen:ds.length = es.length
    ·have e1:(its.toArray.size == its'.toArray.size) = true:=by simp; lia
     have e2:min its.toArray.size its'.toArray.size = ds.length:=by simp; lia
     rw [e1,e2,Bool.and_true,← eqDs_all hlen] at q
     exact q
    ·have e1:(its.toArray.size == its'.toArray.size) = false:=by simp; lia
     have e3:eqDs ds es = false:=by
      cases q:eqDs ds es with
      | false=>rfl
      | true=>exact absurd (eqDs_len q) hlen
     rw [e1,Bool.and_false] at q
     rw [e3]
     exact q
   | lst h' =>
    cases ry
    obtain ⟨its',_,hl'⟩:=rep_list hok h'
    exact SeqAt.RcNeAt.tuple_list hil hl' (lt0 hu)
end
section
variable {X:Cx} {k:Nat}
noncomputable def rNeD:R2:=fun x y H Q=>∃ d e,Rep H x d∧Rep H y e∧Sh 16 d∧Q (.bl (!eqD d e)) H
theorem op_neD (hr:Room k X.A):OpR X (compareOp .NotEq) rNeD:=by
 intro pins s σ H x y v u Q I rx ry h
 obtain ⟨d,e,r1,r2,hs,q⟩:=h
 exact EqBoolInt.of_rcne (rcNeAt_D I.hok r1 r2 rx ry hs (by have:=hr.units; lia)) ⟨.bl _,H,I,rfl,q⟩
end
end L2
namespace J
open PySem PySem.Spec PyProof.Rows L2
section
variable {K:PySem.W.Frag} {N:Addr→Prop} {H H':Hp} {L:List Addr} {v:V} {a:A}
theorem repH_fz {d:D}:RepH K N H v (.fz d) L↔L = []∧RepA N H v d:=by rw [RepH]
theorem repInt {i:Int} (h:RepH K N H v (.fz (.int i)) L):v = .int i:=by
 obtain ⟨_,h⟩:=repH_fz.mp h
 cases h; rfl
theorem repStr {z:Str} (h:RepH K N H v (.fz (.str z)) L):v = .str z∧z.length≤sizeLine:=by
 obtain ⟨_,h⟩:=repH_fz.mp h
 cases h with
 | str z hz=>exact ⟨rfl,hz⟩
theorem out_fz {d:D} (h:RepA N H v d):OutP K N H (.fz d) v H:=⟨fun _ _ z=>z,[],repFz (K:=K) (weakA (fun p z=>z.elim id fun q=>by simp at q) h),List.nodup_nil,fun _ h=>by simp at h⟩
theorem out_int {i:Int}:OutP K N H (.fz (.int i)) (.int i) H:=out_fz (.int i)
theorem out_bl {b:Bool}:OutP K N H (.fz (.bl b)) (.bl b) H:=out_fz (.bl b)
theorem out_str {z:Str} (h:z.length≤sizeLine):OutP K N H (.fz (.str z)) (.str z) H:=out_fz (.str z h)
theorem out_lst {p:Addr} {vs:List V} {ds:List D} (hp:H p = none) (hz:vs.length≤sizeLine) (q:RepDs N H vs ds):OutP K N H (.lst (ds.map A.fz)) (.ref p) (upd H p (.lst vs)):=by
 have sm:=same_updJ (o:=.lst vs) hp
 refine ⟨sm,[p],?_,by simp,fun b hb=>by simp at hb; rw [hb]; exact hp⟩
 rw [RepH]
 refine ⟨p,vs,[],rfl,rfl,upd_same,hz,RepHs.of (q.tr (M:=fun _=>False) (fun _ z=>z.elim) (Same.kept sm) fun b z=>?_)⟩
 rcases z with z | z
 ·exact .inl z
 ·simp at z; subst z; exact .inr hp
noncomputable def fzU:A→Option D
 | .fz d=>some d
 | _=>none
noncomputable def intV:D→Option Int
 | .int i=>some i
 | _=>none
noncomputable def strV:D→Option Str
 | .str z=>some z
 | _=>none
noncomputable def intU (a:A):Option Int:=(fzU a).bind intV
noncomputable def strU (a:A):Option Str:=(fzU a).bind strV
theorem fzU_eq {a:A} {d:D} (h:fzU a = some d):a = .fz d:=by
 cases a with
 | fz d'=>cases h; rfl
 | _=>cases h
theorem intU_eq {a:A} {i:Int} (h:intU a = some i):a = .fz (.int i):=by
 obtain ⟨d,h1,h2⟩:=Option.bind_eq_some_iff.mp h
 cases fzU_eq h1
 cases d with
 | int j=>cases h2; rfl
 | _=>cases h2
theorem strU_eq {a:A} {z:Str} (h:strU a = some z):a = .fz (.str z):=by
 obtain ⟨d,h1,h2⟩:=Option.bind_eq_some_iff.mp h
 cases fzU_eq h1
 cases d with
 | str j=>cases h2; rfl
 | _=>cases h2
noncomputable def int2 (C:Int→Int→Bool) (g:Int→Int→Int):List A→Option A
 | [a,b]=>(intU a).bind fun i=>(intU b).bind fun j=>if C i j then some (.fz (.int (g i j))) else none
 | _=>none
noncomputable def int2b (g:Int→Int→Bool):List A→Option A
 | [.fz (.int i),.fz (.int j)]=>some (.fz (.bl (g i j)))
 | _=>none
theorem cons_of {xs:List V} {a:A} {as:List A} (h:RepS K N H xs (a :: as)):∃ x t L1,xs = x :: t∧RepH K N H x a L1∧RepS K N H t as:=by
 cases xs with
 | nil=>cases h
 | cons x t =>
  obtain ⟨⟨L,h⟩,q⟩:=h
  exact ⟨x,t,L,rfl,h,q⟩
theorem one_of {xs:List V} {a:A} (h:RepS K N H xs [a]):∃ x L1,xs = [x]∧RepH K N H x a L1:=by
 obtain ⟨x,t,L1,rfl,h1,q⟩:=cons_of h
 cases t with
 | nil=>exact ⟨x,L1,rfl,h1⟩
 | cons y t=>cases q
theorem two_of {xs:List V} {a b:A} (h:RepS K N H xs [a,b]):∃ x y L1 L2,xs = [x,y]∧RepH K N H x a L1∧RepH K N H y b L2:=by
 obtain ⟨x,t,L1,rfl,h1,q⟩:=cons_of h
 obtain ⟨y,L2,rfl,h2⟩:=one_of q
 exact ⟨x,y,L1,L2,rfl,h1,h2⟩
theorem ok_int2 {C:Int→Int→Bool} {C':Int→Int→Prop} {g:Int→Int→Int} (hC:∀ i j,C i j = true→C' i j):OpN K (int2 C g) (r2L (rI C' fun i j=>.int (g i j))):=by
 intro N H xs as b Q hs e k
 unfold int2 at e
 split at e
 ·rename_i a1 b1
  simp only [Option.bind_eq_some_iff] at e
  obtain ⟨i,ei,j,ej,e⟩:=e
  cases intU_eq ei
  cases intU_eq ej
  split at e
  ·rename_i hc
   cases e
   obtain ⟨x,y,L1,L2,rfl,h1,h2⟩:=two_of hs
   cases repInt h1
   cases repInt h2
   exact ⟨_,_,rfl,i,j,rfl,rfl,hC i j hc,k _ _ out_int⟩
  ·cases e
 ·cases e
theorem ok_int20 {g:Int→Int→Int}:OpN K (int2 (fun _ _=>true) g) (r2L (rI0 fun i j=>.int (g i j))):=by
 intro N H xs as b Q hs e k
 unfold int2 at e
 split at e
 ·rename_i a1 b1
  simp only [Option.bind_eq_some_iff] at e
  obtain ⟨i,ei,j,ej,e⟩:=e
  cases intU_eq ei
  cases intU_eq ej
  rw [if_pos trivial] at e
  cases e
  obtain ⟨x,y,L1,L2,rfl,h1,h2⟩:=two_of hs
  cases repInt h1
  cases repInt h2
  exact ⟨_,_,rfl,i,j,rfl,rfl,k _ _ out_int⟩
 ·cases e
theorem ok_int2b {g:Int→Int→Bool}:OpN K (int2b g) (r2L (rI0 fun i j=>.bl (g i j))):=by
 intro N H xs as b Q hs e k
 unfold int2b at e
 split at e
 ·rename_i i j
  cases e
  obtain ⟨x,y,L1,L2,rfl,h1,h2⟩:=two_of hs
  cases repInt h1
  cases repInt h2
  exact ⟨_,_,rfl,i,j,rfl,rfl,k _ _ out_bl⟩
 ·cases e
noncomputable def subA:=int2 (fun _ _=>true) fun i j=>i - j
noncomputable def fdivA:=int2 (fun _ j=>decide (0 < j∧j < 1073741824)) fun i j=>i / j
noncomputable def modA:=int2 (fun _ j=>decide (0 < j)) fun i j=>i % j
noncomputable def powA:=int2 (fun i j=>decide (0≤j∧j≤1000000∧i.natAbs < 2 ^ 64)) fun i j=>i ^ j.toNat
noncomputable def shlA:=int2 (fun i j=>decide (0≤j∧j≤1000000∧i.natAbs < 2 ^ 64)) fun i j=>i * 2 ^ j.toNat
noncomputable def shrA:=int2 (fun _ j=>decide (0≤j)) fun i j=>i / 2 ^ j.toNat
noncomputable def bandA:=int2 (fun _ _=>true) fun i j=>Builtin.bitAnd i j
noncomputable def borA:=int2 (fun _ _=>true) fun i j=>Builtin.bitOr i j
noncomputable def gtA:=int2b fun i j=>decide (j < i)
noncomputable def geA:=int2b fun i j=>decide (j≤i)
theorem ok_fdiv:OpN K fdivA (r2L (rI CDiv fun i j=>.int (i / j))):=ok_int2 fun i j h=>by simpa [CDiv] using h
theorem ok_mod:OpN K modA (r2L (rI (fun _ j=>0 < j) fun i j=>.int (i % j))):=ok_int2 fun i j h=>by simpa using h
theorem ok_pow:OpN K powA (r2L (rI CPow fun i j=>.int (i ^ j.toNat))):=ok_int2 fun i j h=>by simpa [CPow] using h
theorem ok_shl:OpN K shlA (r2L (rI CPow fun i j=>.int (i * 2 ^ j.toNat))):=ok_int2 fun i j h=>by simpa [CPow] using h
theorem ok_shr:OpN K shrA (r2L (rI (fun _ j=>0≤j) fun i j=>.int (i / 2 ^ j.toNat))):=ok_int2 fun i j h=>by simpa using h
noncomputable def lstA:A→Option (List D)
 | .fz (.lst ds)=>some ds
 | .lst as=>fzs as
 | _=>none
theorem lst_of {ds:List D} (q:RepH K N H v a L) (e:lstA a = some ds):∃ p vs,v = .ref p∧H p = some (.lst vs)∧vs.length≤sizeLine∧RepDs N H vs ds:=by
 cases a with
 | fz d =>
  obtain ⟨_,q⟩:=repH_fz.mp q
  cases d with
  | lst es =>
   simp only [lstA,Option.some.injEq] at e
   subst e
   cases q with
   | lst h hz hn hl hr=>exact ⟨_,_,rfl,h,hz,RepDs.mk hl hr⟩
  | _=>simp [lstA] at e
 | lst as =>
  simp only [lstA] at e
  rw [RepH] at q
  obtain ⟨p,vs,L',rfl,rfl,h,hz,hs⟩:=q
  exact ⟨p,vs,rfl,h,hz,(hs.fzs e).2⟩
 | _=>simp [lstA] at e
noncomputable def addA:List A→Option A
 | [a,b]=>((intU a).bind fun i=>(intU b).map fun j=>A.fz (.int (i + j))).or (((strU a).bind fun x=>(strU b).bind fun y=>if x.length + y.length≤LIM then some (.fz (.str (x ++ y))) else none).or
  ((lstA a).bind fun xs=>(lstA b).bind fun ys=>if xs.length + ys.length≤LIM then some (.lst ((xs ++ ys).map A.fz)) else none))
 | _=>none
theorem str_app_len (x y:Str):(x ++ y).length = x.length + y.length:=strLen_append x y
theorem ok_add:OpN K addA (r2L fun x y H Q=>(rI0 (fun i j=>.int (i + j))) x y H Q∨(∃ i j,x = .str i∧y = .str j∧i.length + j.length≤sizeLine∧Q (.str (i ++ j)) H)∨rCat x y H Q):=by
 intro N H xs as b Q hs e k
 unfold addA at e
 split at e
 ·rcases Option.or_eq_some_iff.mp e with e | ⟨_,e⟩
  ·simp only [Option.bind_eq_some_iff,Option.map_eq_some_iff] at e
   obtain ⟨i,ei,j,ej,rfl⟩:=e
   cases intU_eq ei
   cases intU_eq ej
   obtain ⟨x,y,L1,L2,rfl,h1,h2⟩:=two_of hs
   cases repInt h1
   cases repInt h2
   exact ⟨_,_,rfl,.inl ⟨i,j,rfl,rfl,k _ _ out_int⟩⟩
  ·rcases Option.or_eq_some_iff.mp e with e | ⟨_,e⟩
   ·simp only [Option.bind_eq_some_iff] at e
    obtain ⟨i,ei,j,ej,e9⟩:=e
    cases strU_eq ei
    cases strU_eq ej
    split at e9
    ·rename_i hz
     cases e9
     obtain ⟨x,y,L1,L2,rfl,h1,h2⟩:=two_of hs
     obtain ⟨rfl,_⟩:=repStr h1
     obtain ⟨rfl,_⟩:=repStr h2
     exact ⟨_,_,rfl,.inr (.inl ⟨i,j,rfl,rfl,hz,k _ _ (out_str (by rw [str_app_len]; exact hz))⟩)⟩
    ·cases e9
   ·simp only [Option.bind_eq_some_iff] at e
    obtain ⟨ds,e1,es,e2,e3⟩:=e
    split at e3
    ·rename_i hz
     cases e3
     obtain ⟨x,y,L1,L2,rfl,h1,h2⟩:=two_of hs
     obtain ⟨p,vs,rfl,hp,z1,q1⟩:=lst_of h1 e1
     obtain ⟨p',vs',rfl,hp',z2,q2⟩:=lst_of h2 e2
     have hl:(vs ++ vs').length≤sizeLine:=by rw [List.length_append,q1.len,q2.len]; exact hz
     exact ⟨_,_,rfl,.inr (.inr ⟨p,p',vs,vs',rfl,rfl,hp,hp',by rw [List.length_append] at hl; exact hl,fun q hq=>k _ _ (out_lst hq hl (repDs_app q1 q2))⟩)⟩
    ·cases e3
 ·cases e
theorem op_addJ {X:Cx}:OpR X (binaryOp .Add) (fun x y H Q=>(rI0 (fun i j=>.int (i + j))) x y H Q∨(∃ i j,x = .str i∧y = .str j∧i.length + j.length≤sizeLine∧Q (.str (i ++ j)) H)∨rCat x y H Q):=op_add.or (op_add_str.or op_cat)
noncomputable def mulA:List A→Option A
 | [.fz (.int i),.fz (.int j)]=>if (-(2 ^ 64) < i∧i < 2 ^ 64)∨(-(2 ^ 64) < j∧j < 2 ^ 64) then some (.fz (.int (i * j))) else none
 | _=>none
theorem ok_mul:OpN K mulA (r2L (rI CMul fun i j=>.int (i * j))):=by
 intro N H xs as b Q hs e k
 unfold mulA at e
 split at e
 ·rename_i i j
  split at e
  ·rename_i hc
   cases e
   obtain ⟨x,y,L1,L2,rfl,h1,h2⟩:=two_of hs
   cases repInt h1
   cases repInt h2
   exact ⟨_,_,rfl,i,j,rfl,rfl,hc,k _ _ out_int⟩
  ·cases e
 ·cases e
noncomputable def negA:List A→Option A
 | [.fz (.int i)]=>some (.fz (.int (-i)))
 | _=>none
theorem ok_neg:OpN K negA (r1L (rU fun i=>.int (-i))):=by
 intro N H xs as b Q hs e k
 unfold negA at e
 split at e
 ·rename_i i
  cases e
  obtain ⟨x,L1,rfl,h1⟩:=one_of hs
  cases repInt h1
  exact ⟨_,rfl,i,rfl,k _ _ out_int⟩
 ·cases e
mutual
noncomputable def shB:Nat→D→Bool
 | _,.non=>true
 | _,.bl _=>true
 | _,.int _=>true
 | _,.str _=>true
 | 0,.lst _=>false
 | 0,.tup _=>false
 | n + 1,.lst ds=>shBs n ds
 | n + 1,.tup ds=>shBs n ds
noncomputable def shBs:Nat→List D→Bool
 | _,[]=>true
 | n,d :: ds=>shB n d && shBs n ds
end
mutual
theorem shB_ok:∀ {n:Nat} {d:D},shB n d = true→Sh n d
 | _,.non,_=>.non
 | _,.bl b,_=>.bl b
 | _,.int i,_=>.int i
 | _,.str x,_=>.str x
 | 0,.lst _,h=>by simp [shB] at h
 | 0,.tup _,h=>by simp [shB] at h
 | n + 1,.lst ds,h=>.lst (shBs_ok (by simpa [shB] using h))
 | n + 1,.tup ds,h=>.tup (shBs_ok (by simpa [shB] using h))
theorem shBs_ok:∀ {n:Nat} {ds:List D},shBs n ds = true→∀ d∈ds,Sh n d
 | _,[],_,d,hd=>by simp at hd
 | n,e :: ds,h,d,hd=>by
  simp only [shBs,Bool.and_eq_true] at h
  rcases List.mem_cons.mp hd with q | hd
  ·rw [q]; exact shB_ok h.1
  ·exact shBs_ok h.2 d hd
end
noncomputable def eqA:List A→Option A
 | [a,b]=>(er a).bind fun d=>(er b).bind fun e=>if shB 16 d then some (.fz (.bl (eqD d e))) else none
 | _=>none
noncomputable def neA:List A→Option A
 | [a,b]=>(er a).bind fun d=>(er b).bind fun e=>if shB 16 d then some (.fz (.bl (!eqD d e))) else none
 | _=>none
theorem rep_er {d:D} (q:RepH K N H v a L) (e:er a = some d):Rep H v d:=(RepH.er q e).rep
theorem ok_eq:OpN K eqA (r2L rEqD):=by
 intro N H xs as b Q hs e k
 unfold eqA at e
 split at e
 ·rename_i a b
  simp only [Option.bind_eq_some_iff] at e
  obtain ⟨d,e1,d',e2,e3⟩:=e
  split at e3
  ·rename_i hz
   cases e3
   obtain ⟨x,y,L1,L2,rfl,h1,h2⟩:=two_of hs
   exact ⟨_,_,rfl,d,d',rep_er h1 e1,rep_er h2 e2,shB_ok hz,k _ _ out_bl⟩
  ·cases e3
 ·cases e
theorem ok_ne:OpN K neA (r2L rNeD):=by
 intro N H xs as b Q hs e k
 unfold neA at e
 split at e
 ·rename_i a b
  simp only [Option.bind_eq_some_iff] at e
  obtain ⟨d,e1,d',e2,e3⟩:=e
  split at e3
  ·rename_i hz
   cases e3
   obtain ⟨x,y,L1,L2,rfl,h1,h2⟩:=two_of hs
   exact ⟨_,_,rfl,d,d',rep_er h1 e1,rep_er h2 e2,shB_ok hz,k _ _ out_bl⟩
  ·cases e3
 ·cases e
noncomputable def ltA:List A→Option A
 | [a,b]=>((intU a).bind fun i=>(intU b).map fun j=>A.fz (.bl (decide (i < j)))).or ((strU a).bind fun x=>(strU b).map fun y=>A.fz (.bl (decide (x.cps.toList < y.cps.toList))))
 | _=>none
noncomputable def leA:List A→Option A
 | [.fz (.int i),.fz (.int j)]=>some (.fz (.bl (decide (i≤j))))
 | [.fz (.str x),.fz (.str y)]=>some (.fz (.bl (!decide (y.cps.toList < x.cps.toList))))
 | _=>none
theorem ok_lt:OpN K ltA (r2L rLtIS):=by
 intro N H xs as b Q hs e k
 unfold ltA at e
 split at e
 ·rcases Option.or_eq_some_iff.mp e with e | ⟨_,e⟩
  ·simp only [Option.bind_eq_some_iff,Option.map_eq_some_iff] at e
   obtain ⟨i,ei,j,ej,rfl⟩:=e
   cases intU_eq ei
   cases intU_eq ej
   obtain ⟨x,y,L1,L2,rfl,h1,h2⟩:=two_of hs
   cases repInt h1
   cases repInt h2
   exact ⟨_,_,rfl,.inl ⟨i,j,rfl,rfl,k _ _ out_bl⟩⟩
  ·simp only [Option.bind_eq_some_iff,Option.map_eq_some_iff] at e
   obtain ⟨i,ei,j,ej,rfl⟩:=e
   cases strU_eq ei
   cases strU_eq ej
   obtain ⟨x,y,L1,L2,rfl,h1,h2⟩:=two_of hs
   obtain ⟨rfl,_⟩:=repStr h1
   obtain ⟨rfl,_⟩:=repStr h2
   exact ⟨_,_,rfl,.inr ⟨i,j,rfl,rfl,k _ _ out_bl⟩⟩
 ·cases e
theorem ok_le:OpN K leA (r2L rLeIS):=by
 intro N H xs as b Q hs e k
 unfold leA at e
 split at e
 ·rename_i i j
  cases e
  obtain ⟨x,y,L1,L2,rfl,h1,h2⟩:=two_of hs
  cases repInt h1
  cases repInt h2
  exact ⟨_,_,rfl,.inl ⟨i,j,rfl,rfl,k _ _ out_bl⟩⟩
 ·rename_i i j
  cases e
  obtain ⟨x,y,L1,L2,rfl,h1,h2⟩:=two_of hs
  obtain ⟨rfl,_⟩:=repStr h1
  obtain ⟨rfl,_⟩:=repStr h2
  exact ⟨_,_,rfl,.inr ⟨i,j,rfl,rfl,k _ _ out_bl⟩⟩
 ·cases e
noncomputable def flatD:D→Bool
 | .lst _=>false
 | .tup _=>false
 | _=>true
theorem flat_ok {d:D} (r:RepA N H v d) (h:flatD d = true):flatV v = true:=by
 cases r with
 | lst=>simp [flatD] at h
 | tup=>simp [flatD] at h
 | _=>rfl
theorem eqV_ok {x y:V} {d e:D} (r:RepA N H x d) (q:RepA N H y e) (hd:flatD d = true) (he:flatD e = true):eqV x y = eqD d e:=by
 cases r with
 | lst=>simp [flatD] at hd
 | tup=>simp [flatD] at hd
 | _ =>
  cases q with
  | lst=>simp [flatD] at he
  | tup=>simp [flatD] at he
  | _=>simp [eqV,eqD]
noncomputable def inD (d:D) (ds:List D):Bool:=ds.any fun e=>eqD e d
theorem inV_ok {x:V} {d:D} (r:RepA N H x d) (hd:flatD d = true):∀ {vs:List V} {ds:List D},RepDs N H vs ds→ds.all flatD = true→vs.all flatV = true∧inV x vs = inD d ds
 | [],[],_,_=>⟨rfl,rfl⟩
 | [],_ :: _,q,_=>by simp only [RepDs] at q
 | _ :: _,[],q,_=>by simp only [RepDs] at q
 | v :: vs,e :: ds,q,h=>by
  simp only [List.all_cons,Bool.and_eq_true] at h
  obtain ⟨h1,h2⟩:=inV_ok r hd q.2 h.2
  refine ⟨by simp [flat_ok q.1 h.1,h1],?_⟩
  simp only [inV,inD,List.any_cons] at h2 ⊢
  rw [h2,eqV_ok q.1 r h.1 hd]
noncomputable def inA (neg:Bool):List A→Option A
 | [a,b]=>((strU a).bind fun x=>(strU b).map fun y=>A.fz (.bl (if neg then !(!(Builtin.Str.occurrences y x 0 y.length 1).isEmpty) else !(Builtin.Str.occurrences y x 0 y.length 1).isEmpty))).or ((fzU a).bind fun d=>(itemsA b).bind fun ds=>if flatD d && ds.all flatD then some (.fz (.bl (if neg then !inD d ds else inD d ds))) else none)
 | _=>none
theorem ok_in (neg:Bool):OpN K (inA neg) (r2L fun x y H Q=>rIn K neg x y H Q∨∃ i j,x = .str i∧y = .str j∧Q (.bl (if neg then !(!(Builtin.Str.occurrences j i 0 j.length 1).isEmpty) else !(Builtin.Str.occurrences j i 0 j.length 1).isEmpty)) H):=by
 intro N H xs as b Q hs e k
 unfold inA at e
 split at e
 rotate_left
 ·cases e
 rcases Option.or_eq_some_iff.mp e with e | ⟨_,e⟩
 ·simp only [Option.bind_eq_some_iff,Option.map_eq_some_iff] at e
  obtain ⟨i,ei,j,ej,rfl⟩:=e
  cases strU_eq ei
  cases strU_eq ej
  obtain ⟨x,y,L1,L2,rfl,h1,h2⟩:=two_of hs
  obtain ⟨rfl,_⟩:=repStr h1
  obtain ⟨rfl,_⟩:=repStr h2
  exact ⟨_,_,rfl,.inr ⟨i,j,rfl,rfl,k _ _ out_bl⟩⟩
 ·simp only [Option.bind_eq_some_iff] at e
  obtain ⟨d,ed,ds,e1,e2⟩:=e
  cases fzU_eq ed
  split at e2
  ·rename_i hz
   cases e2
   simp only [Bool.and_eq_true] at hz
   obtain ⟨x,y,L1,L2,rfl,h1,h2⟩:=two_of hs
   obtain ⟨_,h1⟩:=repH_fz.mp h1
   obtain ⟨p,vs,rfl,hp,q⟩:=items_ok h2 e1
   obtain ⟨f1,f2⟩:=inV_ok h1 hz.1 q hz.2
   refine ⟨_,_,rfl,.inl ⟨p,vs,rfl,hp,flat_ok h1 hz.1,f1,?_⟩⟩
   rw [f2]
   exact k _ _ out_bl
  ·cases e2
theorem op_inJ {X:Cx}:OpR X (compareOp .In) (fun x y H Q=>rIn X.K false x y H Q∨∃ i j,x = .str i∧y = .str j∧Q (.bl (if false = true then !(!(Builtin.Str.occurrences j i 0 j.length 1).isEmpty) else !(Builtin.Str.occurrences j i 0 j.length 1).isEmpty)) H):=op_in_seq.or op_in_str
noncomputable def ixA:List A→Option A
 | [a,b]=>(intU b).bind fun i=>((strU a).bind fun z=>(atI z.cps.toList i).map fun c=>A.fz (.str ⟨#[c]⟩)).or ((itemsA a).bind fun ds=>(atI ds i).map A.fz)
 | _=>none
theorem atI_ok {vs:List V} {ds:List D} {i:Int} {d:D} (q:RepDs N H vs ds) (e:atI ds i = some d):∃ v,atI vs i = some v∧RepA N H v d:=by
 unfold atI at e ⊢
 rw [q.len]
 simp only [Option.bind_eq_some_iff] at e ⊢
 obtain ⟨j,e1,e2⟩:=e
 obtain ⟨v,hv⟩:=dlen q (lt_of_get e2)
 exact ⟨v,⟨j,e1,hv⟩,q.get j v d hv e2⟩
theorem ok_ix:OpN K ixA (r2L (rIx K)):=by
 intro N H xs as b Q hs e k
 unfold ixA at e
 split at e
 rotate_left
 ·cases e
 obtain ⟨i,ei,e8⟩:=Option.bind_eq_some_iff.mp e
 cases intU_eq ei
 rcases Option.or_eq_some_iff.mp e8 with e | ⟨_,e⟩
 ·simp only [Option.bind_eq_some_iff,Option.map_eq_some_iff] at e
  obtain ⟨z,ez,c,e1,rfl⟩:=e
  cases strU_eq ez
  obtain ⟨x,y,L1,L2,rfl,h1,h2⟩:=two_of hs
  obtain ⟨rfl,hz⟩:=repStr h1
  cases repInt h2
  exact ⟨_,_,rfl,.inr (.inr ⟨z,i,c,rfl,rfl,hz,e1,k _ _ (out_str (by show 1≤sizeLine; decide))⟩)⟩
 ·simp only [Option.bind_eq_some_iff,Option.map_eq_some_iff] at e
  obtain ⟨ds,e1,d,e2,rfl⟩:=e
  obtain ⟨x,y,L1,L2,rfl,h1,h2⟩:=two_of hs
  cases repInt h2
  obtain ⟨p,vs,rfl,hp,q⟩:=items_ok h1 e1
  obtain ⟨v,hv,q2⟩:=atI_ok q e2
  rcases hp with hp | hp
  ·exact ⟨_,_,rfl,.inl ⟨p,vs,i,v,rfl,rfl,hp,hv,k _ _ (out_fz q2)⟩⟩
  ·exact ⟨_,_,rfl,.inr (.inl ⟨p,vs,i,v,rfl,rfl,hp,hv,k _ _ (out_fz q2)⟩)⟩
noncomputable def lenA:List A→Option A
 | [.fz (.str z)]=>some (.fz (.int z.length))
 | [a]=>(itemsA a).map fun ds=>.fz (.int ds.length)
 | _=>none
theorem ok_len:OpN K lenA (rLen K):=by
 intro N H xs as b Q hs e k
 unfold lenA at e
 split at e
 ·rename_i z
  cases e
  obtain ⟨x,L1,rfl,h1⟩:=one_of hs
  obtain ⟨rfl,hz⟩:=repStr h1
  exact .inr ⟨z,rfl,hz,k _ _ out_int⟩
 ·rename_i a _
  simp only [Option.map_eq_some_iff] at e
  obtain ⟨ds,e1,rfl⟩:=e
  obtain ⟨x,L1,rfl,h1⟩:=one_of hs
  obtain ⟨p,vs,rfl,hp,q⟩:=items_ok h1 e1
  refine .inl ⟨p,vs,rfl,hp,?_⟩
  rw [q.len]
  exact k _ _ out_int
 ·cases e
theorem call_lenJ {X:Cx}:CallR X (.builtin "len") (rLen X.K):=call_len_seq.or call_len_str
noncomputable def absA:List A→Option A
 | [.fz (.int i)]=>some (.fz (.int (if i < 0 then -i else i)))
 | _=>none
theorem ok_abs:OpN K absA (fun xs H Q=>∃ i,xs = [.int i]∧Q (.int (if i < 0 then -i else i)) H):=by
 intro N H xs as b Q hs e k
 unfold absA at e
 split at e
 ·rename_i i
  cases e
  obtain ⟨x,L1,rfl,h1⟩:=one_of hs
  cases repInt h1
  exact ⟨i,rfl,k _ _ out_int⟩
 ·cases e
noncomputable def maxA:List A→Option A
 | [.fz (.int i),.fz (.int j)]=>some (.fz (.int (if j > i then j else i)))
 | _=>none
noncomputable def minA:List A→Option A
 | [.fz (.int i),.fz (.int j)]=>some (.fz (.int (if j < i then j else i)))
 | _=>none
theorem ok_max:OpN K maxA (fun xs H Q=>∃ i j,xs = [.int i,.int j]∧Q (.int (if j > i then j else i)) H):=by
 intro N H xs as b Q hs e k
 unfold maxA at e
 split at e
 ·rename_i i j
  cases e
  obtain ⟨x,y,L1,L2,rfl,h1,h2⟩:=two_of hs
  cases repInt h1
  cases repInt h2
  exact ⟨i,j,rfl,k _ _ out_int⟩
 ·cases e
theorem ok_min:OpN K minA (fun xs H Q=>∃ i j,xs = [.int i,.int j]∧Q (.int (if j < i then j else i)) H):=by
 intro N H xs as b Q hs e k
 unfold minA at e
 split at e
 ·rename_i i j
  cases e
  obtain ⟨x,y,L1,L2,rfl,h1,h2⟩:=two_of hs
  cases repInt h1
  cases repInt h2
  exact ⟨i,j,rfl,k _ _ out_int⟩
 ·cases e
noncomputable def boolsD:List D→Option (List Bool)
 | []=>some []
 | .bl b :: ds=>(boolsD ds).map (b :: ·)
 | _ :: _=>none
theorem bools_ok:∀ {vs:List V} {ds:List D} {bs:List Bool},RepDs N H vs ds→boolsD ds = some bs→vs = boolsV bs
 | [],[],bs,_,e=>by simp [boolsD] at e; subst e; rfl
 | [],_ :: _,_,q,_=>by simp only [RepDs] at q
 | _ :: _,[],_,q,_=>by simp only [RepDs] at q
 | v :: vs,d :: ds,bs,q,e=>by
  cases d with
  | bl b =>
   simp only [boolsD,Option.map_eq_some_iff] at e
   obtain ⟨bs',e1,rfl⟩:=e
   have:=bools_ok q.2 e1
   obtain ⟨q1,_⟩:=q
   cases q1
   subst this
   rfl
  | _=>simp [boolsD] at e
noncomputable def allA:List A→Option A
 | [a]=>(lstA a).bind fun ds=>(boolsD ds).map fun bs=>.fz (.bl (bs.all id))
 | _=>none
noncomputable def anyA:List A→Option A
 | [a]=>(lstA a).bind fun ds=>(boolsD ds).map fun bs=>.fz (.bl (bs.any id))
 | _=>none
theorem ok_all:OpN K allA (rAll K):=by
 intro N H xs as b Q hs e k
 unfold allA at e
 split at e
 ·rename_i a
  simp only [Option.bind_eq_some_iff,Option.map_eq_some_iff] at e
  obtain ⟨ds,e1,bs,e2,rfl⟩:=e
  obtain ⟨x,L1,rfl,h1⟩:=one_of hs
  obtain ⟨p,vs,rfl,hp,hz,q⟩:=lst_of h1 e1
  cases bools_ok q e2
  exact ⟨p,bs,rfl,.inl (.inl hp),k _ _ out_bl⟩
 ·cases e
theorem ok_any:OpN K anyA (rAny K):=by
 intro N H xs as b Q hs e k
 unfold anyA at e
 split at e
 ·rename_i a
  simp only [Option.bind_eq_some_iff,Option.map_eq_some_iff] at e
  obtain ⟨ds,e1,bs,e2,rfl⟩:=e
  obtain ⟨x,L1,rfl,h1⟩:=one_of hs
  obtain ⟨p,vs,rfl,hp,hz,q⟩:=lst_of h1 e1
  cases bools_ok q e2
  exact ⟨p,bs,rfl,.inl (.inl hp),k _ _ out_bl⟩
 ·cases e
noncomputable def listA:List A→Option A
 | [a]=>(itemsA a).bind fun ds=>if ds.length≤LIM then some (.lst (ds.map A.fz)) else none
 | _=>none
theorem ok_list:OpN K listA (rListOf K):=by
 intro N H xs as b Q hs e k
 unfold listA at e
 split at e
 ·rename_i a
  simp only [Option.bind_eq_some_iff] at e
  obtain ⟨ds,e1,e2⟩:=e
  split at e2
  ·rename_i hz
   cases e2
   obtain ⟨x,L1,rfl,h1⟩:=one_of hs
   obtain ⟨p,vs,rfl,hp,q⟩:=items_ok h1 e1
   exact ⟨p,vs,rfl,hp,fun l hl=>k _ _ (out_lst hl (by rw [q.len]; exact hz) q)⟩
  ·cases e2
 ·cases e
noncomputable def isiA (f:D→Bool):List A→Option A
 | [a]=>(er a).map fun d=>.fz (.bl (f d))
 | _=>none
theorem ok_isi {T:String} {f:D→Bool}:OpN K (isiA f) (r1L fun x H Q=>∃ d,Rep H x d∧Q (.bl (f d)) H):=by
 intro N H xs as b Q hs e k
 unfold isiA at e
 split at e
 ·rename_i a
  simp only [Option.map_eq_some_iff] at e
  obtain ⟨d,e1,rfl⟩:=e
  obtain ⟨x,L1,rfl,h1⟩:=one_of hs
  exact ⟨x,rfl,d,rep_er h1 e1,k _ _ out_bl⟩
 ·cases e
theorem tE_isi {T:String} {f:D→Bool} {m:ME} {σ:L2.St} {Q:VK} (h:tE K (opM (isiA f) (m1L m)) σ H Q):tCB (rIs T f) (tCons (tE K m) (tCons (tC (.ty T)) tNil)) σ H Q:=by
 have h2:=one (ok_isi (T:=T)) h
 exact tE.mono h2 fun x H1 ⟨d,r,q⟩=>⟨x,d,rfl,r,q⟩
end
end J
end
section
set_option Elab.async false
set_option linter.all false
set_option maxRecDepth 100000
set_option maxHeartbeats 1000000
namespace L2
open PySem PySem.Spec PyProof.Rows
section
variable {X:Cx}
noncomputable def rSlS:V→Option Int→Option Int→Hp→VK→Prop:=fun x lo hi H Q=>∃ z,x = .str z∧z.length≤sizeLine∧Q (.str (Txt.slice z lo hi)) H
theorem sl_str:SlR X rSlS:=by
 intro pins s σ H x v vl vu lo hi sl Q I rx hs pl pu h
 obtain ⟨z,rfl,hz,q⟩:=h
 obtain ⟨t,rfl⟩:=rx
 refine ⟨"str",_,F.slot_str_getitem.lookup,typeIs_str _ _ _,?_⟩
 have fin:∀ t' k,EP X pins σ Q (.str (Txt.slice z lo hi) t') { s with toks:=k }:=fun t' k=>⟨.str _,H,I.tok k,⟨_,rfl⟩,q⟩
 obtain ⟨o,ho,hc,hd⟩:=hs
 cases pl with
 | none =>
  cases pu with
  | none=>exact wpAny_getItem_str_slice (l:=none) (u:=none) (st:=none) ⟨o,ho,hc,hd⟩ rfl (post_val_or_str ⟨Nat.le_trans (Txt.slice_le z _ _) hz,fun t' k=>fin t' k⟩)
  | int j tj=>exact wpAny_getItem_str_slice (l:=none) (u:=some (j,tj)) (st:=none) ⟨o,ho,hc,hd⟩ rfl (post_val_or_str ⟨Nat.le_trans (Txt.slice_le z _ _) hz,fun t' k=>fin t' k⟩)
 | int i ti =>
  cases pu with
  | none=>exact wpAny_getItem_str_slice (l:=some (i,ti)) (u:=none) (st:=none) ⟨o,ho,hc,hd⟩ rfl (post_val_or_str ⟨Nat.le_trans (Txt.slice_le z _ _) hz,fun t' k=>fin t' k⟩)
  | int j tj=>exact wpAny_getItem_str_slice (l:=some (i,ti)) (u:=some (j,tj)) (st:=none) ⟨o,ho,hc,hd⟩ rfl (post_val_or_str ⟨Nat.le_trans (Txt.slice_le z _ _) hz,fun t' k=>fin t' k⟩)
end
end L2
namespace J
open PySem PySem.Spec PyProof.Rows L2
section
variable {X:Cx} {a b c e:Expr} {es:List Expr} {m m1 m2 m3:ME} {ms:MA} {p pos pos' p2 apos cpos q:Pos} {x:Str}
variable {K:PySem.W.Frag} {H:Hp} {σ:L2.St}
theorem je_isI (hg:Gl X "isinstance") (hg2:Gl X "int") (B:Blt X.mg X.K) (he:starEach [a,.Name "int" q] X.env = [(false,eval a X.env),(false,eval (.Name "int" q) X.env)]) (he2:starEach [.Name "int" q] X.env = [(false,eval (.Name "int" q) X.env)]) (ha:JE X a m) :
  JE X (.Call (.Name "isinstance" p) [a,.Name "int" q] [] pos) (opM (isiA isInt) (m1L m)):=pe_weak (pe_isI hg hg2 B he he2 ha) fun _ _ _ h=>tE_isi h
theorem je_isB (hg:Gl X "isinstance") (hg2:Gl X "bool") (B:Blt X.mg X.K) (he:starEach [a,.Name "bool" q] X.env = [(false,eval a X.env),(false,eval (.Name "bool" q) X.env)]) (he2:starEach [.Name "bool" q] X.env = [(false,eval (.Name "bool" q) X.env)]) (ha:JE X a m) :
  JE X (.Call (.Name "isinstance" p) [a,.Name "bool" q] [] pos) (opM (isiA isBool) (m1L m)):=pe_weak (pe_isB hg hg2 B he he2 ha) fun _ _ _ h=>tE_isi h
theorem je_isL (hg:Gl X "isinstance") (hg2:Gl X "list") (B:Blt X.mg X.K) (he:starEach [a,.Name "list" q] X.env = [(false,eval a X.env),(false,eval (.Name "list" q) X.env)]) (he2:starEach [.Name "list" q] X.env = [(false,eval (.Name "list" q) X.env)]) (ha:JE X a m) :
  JE X (.Call (.Name "isinstance" p) [a,.Name "list" q] [] pos) (opM (isiA isLst) (m1L m)):=pe_weak (pe_isL hg hg2 B he he2 ha) fun _ _ _ h=>tE_isi h
theorem je_isP (hg:Gl X "isinstance") (hg2:Gl X "tuple") (B:Blt X.mg X.K) (he:starEach [a,.Name "tuple" q] X.env = [(false,eval a X.env),(false,eval (.Name "tuple" q) X.env)]) (he2:starEach [.Name "tuple" q] X.env = [(false,eval (.Name "tuple" q) X.env)]) (ha:JE X a m) :
  JE X (.Call (.Name "isinstance" p) [a,.Name "tuple" q] [] pos) (opM (isiA isTup) (m1L m)):=pe_weak (pe_isP hg hg2 B he he2 ha) fun _ _ _ h=>tE_isi h
theorem je_isS (hg:Gl X "isinstance") (hg2:Gl X "str") (B:Blt X.mg X.K) (he:starEach [a,.Name "str" q] X.env = [(false,eval a X.env),(false,eval (.Name "str" q) X.env)]) (he2:starEach [.Name "str" q] X.env = [(false,eval (.Name "str" q) X.env)]) (ha:JE X a m) :
  JE X (.Call (.Name "isinstance" p) [a,.Name "str" q] [] pos) (opM (isiA isStr) (m1L m)):=pe_weak (pe_isS hg hg2 B he he2 ha) fun _ _ _ h=>tE_isi h
noncomputable def partA:A→Option (Option Int)
 | .fz (.int i)=>some (some i)
 | _=>none
noncomputable def slF (x:A) (lo hi:Option Int):Option A:=match x with
 | .fz (.str z)=>some (.fz (.str (Txt.slice z lo hi)))
 | _=>none
noncomputable def slHi:List A→Option A
 | [x,.fz (.int j)]=>slF x none (some j)
 | _=>none
noncomputable def slLo:List A→Option A
 | [x,.fz (.int i)]=>slF x (some i) none
 | _=>none
noncomputable def slLoHi:List A→Option A
 | [x,.fz (.int i),.fz (.int j)]=>slF x (some i) (some j)
 | _=>none
theorem slF_ok {N:Addr→Prop} {v:V} {a b:A} {L:List Addr} {lo hi:Option Int} {Q:VK} (h:RepH K N H v a L) (e:slF a lo hi = some b) (k:∀ u H',OutP K N H b u H'→Q u H'):rSlS v lo hi H Q:=by
 unfold slF at e
 split at e
 ·rename_i z
  cases e
  obtain ⟨rfl,hz⟩:=repStr h
  exact ⟨z,rfl,hz,k _ _ (out_str (Nat.le_trans (Txt.slice_le z _ _) hz))⟩
 ·cases e
theorem je_slHi (ha:JE X a m1) (hb:JE X b m2):JE X (.Subscript a (.Slice none (some b) none p2) pos) (opM slHi (m2L m1 m2)):=by
 refine pe_weak (pe_slice sl_str ha po_none (po_some hb)) fun σ H Q h=>?_
 have ok:OpN X.K slHi (r2L fun x y H Q=>∃ j,y = .int j∧rSlS x none (some j) H Q):=by
  intro N H xs as b Q hs e k
  unfold slHi at e
  split at e
  ·rename_i x j
   obtain ⟨x,y,L1,L2,rfl,h1,h2⟩:=two_of hs
   cases repInt h2
   exact ⟨_,_,rfl,j,rfl,slF_ok h1 e k⟩
  ·cases e
 exact tE.mono (two ok h) fun x H1 h1=>tE.mono h1 fun y H2 ⟨j,e,q⟩=>⟨j,e,q⟩
theorem je_slLo (ha:JE X a m1) (hb:JE X b m2):JE X (.Subscript a (.Slice (some b) none none p2) pos) (opM slLo (m2L m1 m2)):=by
 refine pe_weak (pe_slice sl_str ha (po_some hb) po_none) fun σ H Q h=>?_
 have ok:OpN X.K slLo (r2L fun x y H Q=>∃ j,y = .int j∧rSlS x (some j) none H Q):=by
  intro N H xs as b Q hs e k
  unfold slLo at e
  split at e
  ·rename_i x j
   obtain ⟨x,y,L1,L2,rfl,h1,h2⟩:=two_of hs
   cases repInt h2
   exact ⟨_,_,rfl,j,rfl,slF_ok h1 e k⟩
  ·cases e
 exact tE.mono (two ok h) fun x H1 h1=>tE.mono h1 fun y H2 ⟨j,e,q⟩=>⟨j,e,q⟩
noncomputable def strsD:List D→Option (List Str)
 | []=>some []
 | .str z :: ds=>(strsD ds).map (z :: ·)
 | _ :: _=>none
theorem strs_ok {N:Addr→Prop}:∀ {vs:List V} {ds:List D} {zs:List Str},RepDs N H vs ds→strsD ds = some zs→vs = zs.map V.str
 | [],[],zs,_,e=>by simp [strsD] at e; subst e; rfl
 | [],_ :: _,_,q,_=>by simp only [RepDs] at q
 | _ :: _,[],_,q,_=>by simp only [RepDs] at q
 | v :: vs,d :: ds,zs,q,e=>by
  cases d with
  | str z =>
   simp only [strsD,Option.map_eq_some_iff] at e
   obtain ⟨zs',e1,rfl⟩:=e
   have:=strs_ok q.2 e1
   obtain ⟨q1,_⟩:=q
   cases q1
   subst this
   rfl
  | _=>simp [strsD] at e
theorem glue_len (zs:List Str):(glue zs).length = (zs.map (·.length)).sum:=by
 show (glue zs).cps.size = _
 simp [glue,List.length_flatten,Function.comp_def]
 rfl
theorem sep_nil {sep:Str} (h:sep.length = 0):sep = ("" : Str):=by
 cases sep with
 | mk c =>
  have:c = #[]:=Array.eq_empty_of_size_eq_zero h
  subst this
  decide +kernel
noncomputable def smeM (f:Str→List A→Option A) (m:ME) (ms:MA):ME:=fun ρ=>(m ρ).bind fun p=>match p.1 with
 | .val (.fz (.str z))=>(ms p.2).bind fun q=>(peeks q.2 q.1).bind fun as=>(f z as).map fun a=>(.val a,q.2)
 | _=>none
theorem tE_sme {f:Str→List A→Option A} {r:V→List V→Hp→VK→Prop} {Q:VK} (ok:∀ z,z.length≤sizeLine→OpN K (f z) fun xs H Q=>r (.str z) xs H Q) (h:tE K (smeM f m ms) σ H Q):tBM K "str" r (tE K m) (tA K ms) σ H Q:=by
 obtain ⟨ρ,O,fp,rl,y,ρ',h0,k⟩:=h
 simp only [smeM,Option.bind_eq_some_iff] at h0
 obtain ⟨⟨r1,ρ1⟩,e1,h0⟩:=h0
 dsimp only at h0
 split at h0
 ·rename_i z
  simp only [Option.bind_eq_some_iff,Option.map_eq_some_iff] at h0
  obtain ⟨⟨rs,ρ2⟩,e2,as,e3,c,e4,e5⟩:=h0
  cases e5
  refine ⟨ρ,O,fp,rl,_,ρ1,e1,fun v H1 yy=>?_⟩
  obtain ⟨L,fp1,p,q⟩:=yy
  obtain ⟨rfl,hz⟩:=repStr (K:=K) q
  have p':=p.drop0
  refine ⟨rfl,ρ1,O,fp1,p'.rel0,rs,ρ2,e2,fun vs H2 yy=>?_⟩
  obtain ⟨L2,fp2,p2,q2⟩:=yy
  exact ok z hz _ H2 vs as c Q (p2.rel.peeks q2 e3) e4 fun u H3 o=>k u H3 ((p2.out o).pre p')
 ·cases h0
noncomputable def joinF (sep:Str):List A→Option A
 | [b]=>if sep.length = 0 then (lstA b).bind fun ds=>(strsD ds).bind fun zs=>if (zs.map (·.length)).sum≤16777216 then some (.fz (.str (glue zs))) else none else none
 | _=>none
theorem ok_join (sep:Str) (hz:sep.length≤sizeLine):OpN K (joinF sep) fun xs H Q=>rJoin K (.str sep) xs H Q:=by
 intro N H xs as b Q hs e k
 unfold joinF at e
 split at e
 ·rename_i b
  split at e
  ·rename_i h0
   simp only [Option.bind_eq_some_iff] at e
   obtain ⟨ds,e1,zs,e2,e3⟩:=e
   split at e3
   ·rename_i hl
    cases e3
    obtain ⟨x,L1,rfl,h1⟩:=one_of hs
    obtain ⟨p,vs,rfl,hp,hz',q⟩:=lst_of h1 e1
    cases strs_ok q e2
    cases sep_nil h0
    refine ⟨_,p,zs,rfl,rfl,.inl (.inl hp),?_,?_⟩
    ·have:("" : Str).length = 0:=by decide +kernel
     rw [this,Nat.mul_zero,Nat.add_zero]
     exact hl
    ·rw [join_empty]
     exact k _ _ (out_str (by rw [glue_len]; exact hl))
   ·cases e3
  ·cases e
 ·cases e
theorem je_join (hbase:attributeBase a "join" X.env (eval a X.env) = eval a X.env) (hline:(apos.endLine == cpos.line) = true) (B:Blt X.mg X.K) (hs:starEach [e] X.env = [(false,eval e X.env)]) (ha:JE X a m1) (he:JE X e m2) :
  JE X (.Call (.Attribute a "join" apos) [e] [] cpos) (smeM joinF m1 (m1L m2)):=by
 refine pe_weak (pe_join rfl B hbase hline hs ha he) fun σ H Q h=>?_
 exact tE.mono (tE_sme ok_join h) fun x H1 ⟨ty,q⟩=>⟨ty,tA_cons q |> fun q=>tE.mono q fun y H2 q=>tA_nil q⟩
noncomputable def indexF (z:Str):List A→Option A
 | [.fz (.str y)]=>if 0≤Txt.find z y then some (.fz (.int (Txt.find z y))) else none
 | _=>none
theorem ok_index (z:Str) (hz:z.length≤sizeLine):OpN K (indexF z) fun xs H Q=>rIndex (.str z) xs H Q:=by
 intro N H xs as b Q hs e k
 unfold indexF at e
 split at e
 ·rename_i y
  split at e
  ·rename_i h0
   cases e
   obtain ⟨x,L1,rfl,h1⟩:=one_of hs
   obtain ⟨rfl,_⟩:=repStr h1
   exact ⟨z,y,rfl,rfl,h0,k _ _ out_int⟩
  ·cases e
 ·cases e
theorem je_index (hbase:attributeBase a "index" X.env (eval a X.env) = eval a X.env) (hline:(apos.endLine == cpos.line) = true) (B:Blt X.mg X.K) (hc:X.calm = true) (hs:starEach [e] X.env = [(false,eval e X.env)]) (ha:JE X a m1) (he:JE X e m2) :
  JE X (.Call (.Attribute a "index" apos) [e] [] cpos) (smeM indexF m1 (m1L m2)):=by
 refine pe_weak (pe_index rfl B hc hbase hline hs ha he) fun σ H Q h=>?_
 exact tE.mono (tE_sme ok_index h) fun x H1 ⟨ty,q⟩=>⟨ty,tA_cons q |> fun q=>tE.mono q fun y H2 q=>tA_nil q⟩
noncomputable def intsD:List D→Option (List Int)
 | []=>some []
 | .int z :: ds=>(intsD ds).map (z :: ·)
 | _ :: _=>none
theorem ints_ok {N:Addr→Prop}:∀ {vs:List V} {ds:List D} {zs:List Int},RepDs N H vs ds→intsD ds = some zs→vs = zs.map V.int
 | [],[],zs,_,e=>by simp [intsD] at e; subst e; rfl
 | [],_ :: _,_,q,_=>by simp only [RepDs] at q
 | _ :: _,[],_,q,_=>by simp only [RepDs] at q
 | v :: vs,d :: ds,zs,q,e=>by
  cases d with
  | int z =>
   simp only [intsD,Option.map_eq_some_iff] at e
   obtain ⟨zs',e1,rfl⟩:=e
   have:=ints_ok q.2 e1
   obtain ⟨q1,_⟩:=q
   cases q1
   subst this
   rfl
  | _=>simp [intsD] at e
noncomputable def sortedA:List A→Option A
 | [a]=>(lstA a).bind fun ds=>(intsD ds).bind fun ns=>if ns.length < 64 then some (.lst ((ns.mergeSort.map D.int).map A.fz)) else none
 | _=>none
end
section
variable {K:PySem.W.Frag} {ρ ρ' ρ1 ρ2:Ro} {σ σ' σ1 σ2:L2.St} {H H' H1 H2:Hp} {O O' N:Addr→Prop} {fp fp' fp1 fp2:Nat→List Addr} {L L1:List Addr}
theorem Post.mut {i:Nat} {st:Own} {a a':A} {v:V} {p:Addr} {o:HO} {vs:List V} {L':List Addr} (x:Post K O fp H ρ ρ1 σ σ L fp1 H1) (hi : ρ1[i]? = some (some (st,a))) (hst:st ≠ .ro) (hv : σ[i]? = some (some v)) (hp:p∈fp1 i) (hy:H1 p = some (.lst vs))
  (hL:∀ q∈L',q∈fp1 i∨q∈L) (nd:L'.Nodup) (hr:RepH K (NN fp1 (ad O L)) (upd H1 p o) v a' L'):Post K O fp H ρ (ρ1.set i (some (st,a'))) σ σ [] (pt fp1 i L') (upd H1 p o):=by
 have alp:∀ q,H1 q≠none→upd H1 p o q≠none:=fun q z=>by
  by_cases e:q = p
  ·subst e; rw [upd_same]; simp
  ·rw [upd_ne e]; exact z
 have k:=upd_keptT (o:=o) hy
 -- first the heap,then the slot
 have nn:∀ q,NN (pt fp1 i L') (ad O []) q→NN fp1 (ad O L) q:=fun q z=>by
  rcases z with ⟨j,z⟩ | z | z
  ·rcases mem_pt z with ⟨_,z⟩ | ⟨_,z⟩
   ·rcases hL q z with z | z
    ·exact .inl ⟨i,z⟩
    ·exact .inr (.inr z)
   ·exact .inl ⟨j,z⟩
  ·exact .inr (.inl z)
  ·simp at z
 have dis:∀ q∈L',∀ j,j≠i→q ∉ fp1 j:=fun q hq j hj z=>by
  rcases hL q hq with w | w
  ·exact hj (x.rel.inj j i q z w)
  ·exact x.rel.off j q z (.inr w)
 refine ⟨⟨by rw [List.length_set]; exact x.rel.len,fun j st' b e=>?_,fun j h=>?_,fun j=>?_,fun j1 j2 q h1 h2=>?_,fun j q h z=>?_,fun q z=>alp q (x.rel.al q (nn q z))⟩,List.nodup_nil,fun q h=>by simp at h,fun q h=>?_,fun b u e c=>?_,rfl,fun j st' b e h=>?_⟩
 ·by_cases hj:j = i
  ·subst hj
   rw [List.getElem?_set_self (lt_of_get hi)] at e
   cases e
   exact ⟨v,hv,by rw [pt_same]; exact weakH nn hr⟩
  ·rw [List.getElem?_set_ne (Ne.symm hj)] at e
   obtain ⟨w,e1,q⟩:=x.rel.slot j _ _ e
   refine ⟨w,e1,?_⟩
   rw [pt_ne hj]
   exact q.tr (M:=fun q=>q = p) (fun b z=>by rw [z]; exact .inl ⟨i,hp⟩) k (fun b z=>.inl (nn b z)) fun b hb z=>hj (x.rel.inj j i p (z ▸ hb) hp)
 ·by_cases hj:j = i
  ·subst hj
   exact absurd (List.getElem?_set_self (lt_of_get hi)) (h st a')
  ·rw [pt_ne hj]
   exact x.rel.out j fun st' b e=>h st' b (by rw [List.getElem?_set_ne (Ne.symm hj)]; exact e)
 ·by_cases hj:j = i
  ·subst hj; rw [pt_same]; exact nd
  ·rw [pt_ne hj]; exact x.rel.nd j
 ·rcases mem_pt h1 with ⟨e1,z1⟩ | ⟨e1,z1⟩
  ·rcases mem_pt h2 with ⟨e2,z2⟩ | ⟨e2,z2⟩
   ·rw [e1,e2]
   ·exact absurd z2 (dis q z1 j2 e2)
  ·rcases mem_pt h2 with ⟨e2,z2⟩ | ⟨e2,z2⟩
   ·exact absurd z1 (dis q z2 j1 e1)
   ·exact x.rel.inj j1 j2 q z1 z2
 ·have z':=ad_nil.mp z
  rcases mem_pt h with ⟨_,z1⟩ | ⟨_,z1⟩
  ·rcases hL q z1 with w | w
   ·exact x.rel.off i q w (.inl z')
   ·exact x.lo q w z'
  ·exact x.rel.off j q z1 (.inl z')
 ·rcases h with h | ⟨j,h⟩
  ·simp at h
  ·rcases mem_pt h with ⟨_,z1⟩ | ⟨_,z1⟩
   ·rcases hL q z1 with w | w
    ·exact x.new q (.inr ⟨i,w⟩)
    ·exact x.new q (.inl w)
   ·exact x.new q (.inr ⟨j,z1⟩)
 ·have e1:=x.kept b u e c
  by_cases hb:b = p
  ·subst hb
   rw [hy] at e1
   cases e1
   rcases c with c | c
   ·rcases x.new b (.inr ⟨i,hp⟩) with z | z
    ·exact absurd z c
    ·rw [e] at z; cases z
   ·cases c
  ·rw [upd_ne hb]; exact e1
 ·obtain ⟨b',e1,_,f⟩:=x.stab j st' b e h
  by_cases hj:j = i
  ·subst hj
   rw [hi] at e1
   cases e1
   exact ⟨a',List.getElem?_set_self (lt_of_get hi),rfl,fun z=>absurd z hst⟩
  ·exact ⟨b',by rw [List.getElem?_set_ne (Ne.symm hj)]; exact e1,rfl,f⟩
theorem RepHs.app:∀ {vs ws:List V} {as bs:List A} {L1 L2:List Addr},RepHs K N H vs as L1→RepHs K N H ws bs L2→RepHs K N H (vs ++ ws) (as ++ bs) (L1 ++ L2)
 | [],ws,[],bs,L1,L2,r,q=>by
  simp only [RepHs] at r
  subst r
  exact q
 | [],_,_ :: _,_,_,_,r,_=>by simp only [RepHs] at r
 | _ :: _,_,[],_,_,_,r,_=>by simp only [RepHs] at r
 | v :: vs,ws,a :: as,bs,L1,L2,r,q=>by
  simp only [RepHs] at r
  obtain ⟨M1,M2,rfl,h1,h2⟩:=r
  simp only [List.cons_append,RepHs]
  exact ⟨M1,M2 ++ L2,by simp,h1,RepHs.app h2 q⟩
noncomputable def heldL (ρ:Ro) (i:Nat):Option (Own × List A):=match ρ[i]? with
 | some (some (.ro,_))=>none
 | some (some (st,.lst as))=>some (st,as)
 | _=>none
theorem held_ok {i:Nat} {st:Own} {as:List A} (h:heldL ρ i = some (st,as)) : ρ[i]? = some (some (st,.lst as))∧st ≠ .ro:=by
 unfold heldL at h
 split at h
 ·cases h
 ·rename_i st' as' hn e
  cases h
  exact ⟨e,fun z=>hn z⟩
 ·cases h
noncomputable def appS (i:Nat) (m:ME):MS:=fun ρ=>(heldL ρ i).bind fun _=>(m ρ).bind fun p=>(keep p.2 p.1).bind fun q=>(heldL q.2 i).bind fun h=>if h.2.length < LIM then some (.next (q.2.set i (some (h.1,.lst (h.2 ++ [q.1]))))) else none
theorem tS_app {i:Nat} {m:ME} {D:Ends} (h:tS K (appS i m) D σ H):tDrop (tBM K "list" rAppend (tVar i) (tCons (tE K m) tNil)) D σ H:=by
 obtain ⟨ρ,O,fp,rl,fl,e,w⟩:=h
 simp only [appS,Option.bind_eq_some_iff] at e
 obtain ⟨⟨st0,as0⟩,e0,⟨r,ρ1⟩,e1,⟨a,ρ2⟩,e2,⟨st,as⟩,e3,e4⟩:=e
 split at e4
 ·rename_i hz
  cases e4
  obtain ⟨g0,_⟩:=held_ok e0
  obtain ⟨v,hv,q0⟩:=rl.slot i _ _ g0
  rw [RepH] at q0
  obtain ⟨p0,vs0,_,rfl,_,hp0,_,_⟩:=q0
  refine ⟨_,hv,.inl ⟨rfl,vs0,.inl (.inl hp0)⟩,ρ,O,fp,rl,r,ρ1,e1,fun y H1 yy=>?_⟩
  obtain ⟨L,fp1,p,q⟩:=yy
  obtain ⟨L2,fp2,p2,q2⟩:=keep_post p q e2
  obtain ⟨g,gst⟩:=held_ok e3
  obtain ⟨v',hv',qi⟩:=p2.rel.slot i _ _ g
  rw [hv] at hv'; cases hv'
  rw [RepH] at qi
  obtain ⟨pa,vs,L',e5,e6,hp,hz',hs⟩:=qi
  cases e5
  have hlen:=hs.len
  refine ⟨p0,vs,y,rfl,rfl,hp,by rw [hlen]; exact hz,w _ _ _ (p2.mut (a':=.lst (as ++ [a])) (L':=p0 :: (L' ++ L2)) g gst hv (by rw [e6]; simp) hp (fun b hb=>?_) ?_ ?_)⟩
  ·rcases List.mem_cons.mp hb with rfl | hb
   ·rw [e6]; simp
   ·rcases List.mem_append.mp hb with hb | hb
    ·rw [e6]; simp [hb]
    ·exact .inr hb
  ·have n1:=p2.rel.nd i
   rw [e6] at n1
   have n2:(p0 :: L').Nodup:=n1
   have:((p0 :: L') ++ L2).Nodup:=List.nodup_append.mpr ⟨n2,p2.nd,fun b hb c hc e=>by
    subst e
    exact p2.rel.off i b (by rw [e6]; exact hb) (.inr hc)⟩
   simpa using this
  ·rw [RepH]
   have k:=upd_keptT (o:=.lst (vs ++ [y])) hp
   have pn:NN fp2 (ad O L2) p0:=.inl ⟨i,by rw [e6]; simp⟩
   have n1:=p2.rel.nd i
   rw [e6] at n1
   have h1:RepHs K (NN fp2 (ad O L2)) (upd H1 p0 (.lst (vs ++ [y]))) vs as L':=hs.tr (M:=fun b=>b = p0) (fun b z=>z ▸ pn) k (fun b z=>.inl z) fun b hb z=>by
    subst z
    exact (List.nodup_cons.mp n1).1 hb
   have h2:RepH K (NN fp2 (ad O L2)) (upd H1 p0 (.lst (vs ++ [y]))) y a L2:=q2.tr (M:=fun b=>b = p0) (fun b z=>z ▸ pn) k (fun b z=>.inl z) fun b hb z=>by
    subst z
    exact p2.rel.off i b (by rw [e6]; simp) (.inr hb)
   have h3:RepHs K (NN fp2 (ad O L2)) (upd H1 p0 (.lst (vs ++ [y]))) [y] [a] L2:=by
    simp only [RepHs]
    exact ⟨L2,[],by simp,h2,rfl⟩
   refine ⟨p0,vs ++ [y],L' ++ L2,rfl,rfl,upd_same,?_,RepHs.app h1 h3⟩
   rw [List.length_append,hlen]
   exact hz
 ·cases e4
noncomputable def extS (i:Nat) (m:ME):MS:=fun ρ=>(heldL ρ i).bind fun _=>(m ρ).bind fun p=>(peek p.2 p.1).bind fun b=>(lstA b).bind fun ds=>(heldL p.2 i).bind fun h=>if h.2.length + ds.length≤LIM then some (.next (p.2.set i (some (h.1,.lst (h.2 ++ ds.map A.fz))))) else none
theorem tS_ext {i:Nat} {m:ME} {D:Ends} (h:tS K (extS i m) D σ H):tDrop (tBM K "list" rExtend (tVar i) (tCons (tE K m) tNil)) D σ H:=by
 obtain ⟨ρ,O,fp,rl,fl,e,w⟩:=h
 simp only [extS,Option.bind_eq_some_iff] at e
 obtain ⟨⟨st0,as0⟩,e0,⟨r,ρ1⟩,e1,bb,e2,ds,e2',⟨st,as⟩,e3,e4⟩:=e
 split at e4
 ·rename_i hz
  cases e4
  obtain ⟨g0,_⟩:=held_ok e0
  obtain ⟨v,hv,q0⟩:=rl.slot i _ _ g0
  rw [RepH] at q0
  obtain ⟨p0,vs0,_,rfl,_,hp0,_,_⟩:=q0
  refine ⟨_,hv,.inl ⟨rfl,vs0,.inl (.inl hp0)⟩,ρ,O,fp,rl,r,ρ1,e1,fun y H1 yy=>?_⟩
  obtain ⟨L,fp1,p,q⟩:=yy
  obtain ⟨Lb,qb⟩:=p.rel.peek q e2
  obtain ⟨pb,ws,rfl,hpb,hzb,qd⟩:=lst_of qb e2'
  have p2:=p.drop0
  obtain ⟨g,gst⟩:=held_ok e3
  obtain ⟨v',hv',qi⟩:=p2.rel.slot i _ _ g
  rw [hv] at hv'; cases hv'
  rw [RepH] at qi
  obtain ⟨pa,vs,L',e5,e6,hp,hz',hs⟩:=qi
  cases e5
  have hlen:=hs.len
  have hl2:vs.length + ws.length≤sizeLine:=by rw [hlen,qd.len]; exact hz
  refine ⟨p0,pb,vs,ws,rfl,rfl,hp,hpb,hl2,w _ _ _ (p2.mut (a':=.lst (as ++ ds.map A.fz)) (L':=p0 :: L') g gst hv (by rw [e6]; simp) hp (fun b hb=>.inl (by rw [e6]; exact hb)) (by have:=p2.rel.nd i; rw [e6] at this; exact this) ?_)⟩
  rw [RepH]
  have k:=upd_keptT (o:=.lst (vs ++ ws)) hp
  have pn:NN fp1 (ad O []) p0:=.inl ⟨i,by rw [e6]; simp⟩
  have n1:=p2.rel.nd i
  rw [e6] at n1
  have h1:RepHs K (NN fp1 (ad O [])) (upd H1 p0 (.lst (vs ++ ws))) vs as L':=hs.tr (M:=fun b=>b = p0) (fun b z=>z ▸ pn) k (fun b z=>.inl z) fun b hb z=>by
   subst z
   exact (List.nodup_cons.mp n1).1 hb
  have h2:RepDs (NN fp1 (ad O [])) (upd H1 p0 (.lst (vs ++ ws))) ws ds:=(weakDs (fun b z=>z.imp id fun y=>y.imp id fun y=>by simp at y) qd).tr (M:=fun b=>b = p0) (fun b z=>z ▸ pn) k fun b z=>.inl z
  refine ⟨p0,vs ++ ws,L',rfl,rfl,upd_same,by rw [List.length_append]; exact hl2,?_⟩
  have:=RepHs.app h1 (RepHs.of h2)
  rw [List.append_nil] at this
  exact this
 ·cases e4
noncomputable def putS (i:Nat) (mk me:ME):MS:=fun ρ=>(me ρ).bind fun p=>(share p.2 p.1).bind fun s=>(heldL s.2 i).bind fun _=>(mk s.2).bind fun t=>match t.1 with
 | .val (.fz (.int k))=>(heldL t.2 i).bind fun h=>(ixN h.2.length k).map fun j=>.next (t.2.set i (some (h.1,.lst (h.2.set j (.fz s.1)))))
 | _=>none
theorem RepHs.setFz:∀ {vs:List V} {as:List A} {L:List Addr} {j:Nat} {v:V} {d:D},RepHs K N H vs as L→RepA N H v d→∃ L',RepHs K N H (vs.set j v) (as.set j (.fz d)) L'∧(∀ q∈L',q∈L)∧(L.Nodup→L'.Nodup)
 | [],[],L,j,v,d,r,_=>⟨L,by simpa using r,fun _ h=>h,id⟩
 | [],_ :: _,_,_,_,_,r,_=>by simp only [RepHs] at r
 | _ :: _,[],_,_,_,_,r,_=>by simp only [RepHs] at r
 | x :: vs,a :: as,L,0,v,d,r,q=>by
  simp only [RepHs] at r
  obtain ⟨M1,M2,rfl,h1,h2⟩:=r
  refine ⟨M2,?_,fun b h=>List.mem_append_right _ h,fun h=>(List.nodup_append.mp h).2.1⟩
  simp only [List.set_cons_zero,RepHs]
  exact ⟨[],M2,rfl,repFz q,h2⟩
 | x :: vs,a :: as,L,j + 1,v,d,r,q=>by
  simp only [RepHs] at r
  obtain ⟨M1,M2,rfl,h1,h2⟩:=r
  obtain ⟨L',g1,g2,g3⟩:=RepHs.setFz (j:=j) h2 q
  refine ⟨M1 ++ L',?_,fun b h=>?_,fun h=>?_⟩
  ·simp only [List.set_cons_succ,RepHs]
   exact ⟨M1,L',rfl,h1,g1⟩
  ·rcases List.mem_append.mp h with h | h
   ·exact List.mem_append_left _ h
   ·exact List.mem_append_right _ (g2 b h)
  ·obtain ⟨n1,n2,n3⟩:=List.nodup_append.mp h
   exact List.nodup_append.mpr ⟨n1,g3 n2,fun b hb c hc e=>n3 b hb c (g2 c hc) e⟩
theorem tS_put {i:Nat} {mk me:ME} {D:Ends} (h:tS K (putS i mk me) D σ H):tAsg (tE K me) (gSub (tVar i) (tE K mk) rSetL) D σ H:=by
 obtain ⟨ρ,O,fp,rl,fl,e,w⟩:=h
 simp only [putS,Option.bind_eq_some_iff] at e
 obtain ⟨⟨r,ρ1⟩,e1,⟨d,ρ2⟩,e2,⟨st0,as0⟩,e0,⟨r3,ρ3⟩,e3,e4⟩:=e
 dsimp only at e4
 split at e4
 ·rename_i kk
  simp only [Option.bind_eq_some_iff,Option.map_eq_some_iff] at e4
  obtain ⟨⟨st,as⟩,e5,j,e6,e7⟩:=e4
  cases e7
  refine ⟨ρ,O,fp,rl,r,ρ1,e1,fun y H1 yy=>?_⟩
  obtain ⟨L,fp1,p,q⟩:=yy
  obtain ⟨fp2,p2,q2⟩:=share_post p q e2
  obtain ⟨g0,_⟩:=held_ok e0
  obtain ⟨v,hv,q0⟩:=p2.rel.slot i _ _ g0
  rw [RepH] at q0
  obtain ⟨p0,vs0,_,rfl,_,hp0,_,_⟩:=q0
  refine ⟨_,hv,ρ2,O,fp2,p2.rel0,_,ρ3,e3,fun y2 H2 yy=>?_⟩
  obtain ⟨L3,fp3,p3,q3⟩:=yy
  cases repInt (K:=K) q3
  have p4:=(p2.next p3).drop0
  obtain ⟨g,gst⟩:=held_ok e5
  obtain ⟨v',hv',qi⟩:=p4.rel.slot i _ _ g
  rw [hv] at hv'; cases hv'
  rw [RepH] at qi
  obtain ⟨pa,vs,L',e8,e9,hp,hz',hs⟩:=qi
  cases e8
  have hlen:=hs.len
  have qy:RepA (NN fp3 (ad O [])) H2 y d:=(weakA (fun b z=>nn_nil.mpr z) q2).tr (M:=Fp fp2) (fun b z=>.inl z) p3.kept fun b z=>by
   rcases z with z | z | z
   ·exact (p3.new b (.inr z)).imp (fun y=>.inl y) id
   ·exact .inl (.inr z)
   ·simp at z
  have k:=upd_keptT (o:=.lst (vs.set j y)) hp
  have pn:NN fp3 (ad O []) p0:=.inl ⟨i,by rw [e9]; simp⟩
  have n1:=p4.rel.nd i
  rw [e9] at n1
  have h1:RepHs K (NN fp3 (ad O [])) (upd H2 p0 (.lst (vs.set j y))) vs as L':=hs.tr (M:=fun b=>b = p0) (fun b z=>z ▸ pn) k (fun b z=>.inl z) fun b hb z=>by
   subst z
   exact (List.nodup_cons.mp n1).1 hb
  have h2:RepA (NN fp3 (ad O [])) (upd H2 p0 (.lst (vs.set j y))) y d:=qy.tr (M:=fun b=>b = p0) (fun b z=>z ▸ pn) k fun b z=>.inl z
  obtain ⟨L4,g1,g2,g3⟩:=RepHs.setFz (j:=j) h1 h2
  refine ⟨p0,vs,kk,j,rfl,rfl,hp,by rw [hlen]; exact e6,w _ _ _ (p4.mut (a':=.lst (as.set j (.fz d))) (L':=p0 :: L4) g gst hv (by rw [e9]; simp) hp (fun b hb=>?_) ?_ ?_)⟩
  ·rcases List.mem_cons.mp hb with rfl | hb
   ·exact .inl (by rw [e9]; simp)
   ·exact .inl (by rw [e9]; simp [g2 b hb])
  ·exact List.nodup_cons.mpr ⟨fun z=>(List.nodup_cons.mp n1).1 (g2 _ z),g3 (List.nodup_cons.mp n1).2⟩
  ·rw [RepH]
   exact ⟨p0,vs.set j y,L4,rfl,rfl,upd_same,by rw [List.length_set]; exact hz',g1⟩
 ·cases e4
end
section
variable {X:Cx} {a b c e:Expr} {es:List Expr} {m m1 m2 m3:ME} {ms:MA} {p pos pos' p2 apos cpos q npos:Pos} {x:Str}
theorem js_app (i:Nat) (hN:X.N[i]? = some x) (hv:Vis X.env.scope x) (hd:(x == ("__debug__" : Str)) = false) (hcd:(x == ("__classdict__" : Str)) = false) (hbase:attributeBase (.Name x npos) "append" X.env (eval (.Name x npos) X.env) = eval (.Name x npos) X.env) (hline:(apos.endLine == cpos.line) = true)
  (hs:starEach [e] X.env = [(false,eval e X.env)]) (hw:swapsWith (.Call (.Attribute (.Name x npos) "append" apos) [e] [] cpos) none pos.line X.env = pure false) (he:JE X e m):JS X (.Expr (.Call (.Attribute (.Name x npos) "append" apos) [e] [] cpos) pos) (appS i m):=
 ps_weak (ps_expr (pe_bm PySem.F.plainAttrs_list PySem.F.slot_list_append PySem.F.type_list_append mt_append (pe_var hN hv hd hcd) (pa_cons he pa_nil hs) hbase (by rw [hs]; rfl) hline hs rfl) hw) fun _ _ _ h=>tS_app h
theorem js_ext (i:Nat) (hN:X.N[i]? = some x) (hv:Vis X.env.scope x) (hd:(x == ("__debug__" : Str)) = false) (hcd:(x == ("__classdict__" : Str)) = false) (hbase:attributeBase (.Name x npos) "extend" X.env (eval (.Name x npos) X.env) = eval (.Name x npos) X.env) (hline:(apos.endLine == cpos.line) = true)
  (hs:starEach [e] X.env = [(false,eval e X.env)]) (hw:swapsWith (.Call (.Attribute (.Name x npos) "extend" apos) [e] [] cpos) none pos.line X.env = pure false) (he:JE X e m):JS X (.Expr (.Call (.Attribute (.Name x npos) "extend" apos) [e] [] cpos) pos) (extS i m):=
 ps_weak (ps_expr (pe_bm PySem.F.plainAttrs_list PySem.F.slot_list_extend PySem.F.type_list_extend mt_extend (pe_var hN hv hd hcd) (pa_cons he pa_nil hs) hbase (by rw [hs]; rfl) hline hs rfl) hw) fun _ _ _ h=>tS_ext h
theorem js_put (i:Nat) (hN:X.N[i]? = some x) (hv:Vis X.env.scope x) (hd:(x == ("__debug__" : Str)) = false) (hcd:(x == ("__classdict__" : Str)) = false)
  (ha:∀ v,assign (.Subscript (.Name x npos) b pos') X.env v = (do
   let ov ← holding [v] (eval (.Name x npos) X.env)
   let iv ← holding [v,ov] (eval b X.env)
   standAt pos'
   holding [v,ov,iv] (setItem ov iv v)
   release [v,ov,iv] []))
  (hs:swapsWithSole [.Subscript (.Name x npos) b pos'] e pos.line X.env = pure false) (hw:swappedStores [.Subscript (.Name x npos) b pos'] e X.env = pure none) (h1:(assignEach [.Subscript (.Name x npos) b pos'] X.env).map (·.2) = [assign (.Subscript (.Name x npos) b pos') X.env])
  (hk:JE X b m1) (he:JE X e m2):JS X (.Assign [.Subscript (.Name x npos) b pos'] e pos) (putS i m1 m2):=
 ps_weak (ps_asg he (pg_sub (pe_var hN hv hd hcd) hk set_list ha) hs hw h1) fun _ _ _ h=>tS_put h
end
end J
end
section
set_option Elab.async false
set_option linter.all false
set_option maxRecDepth 100000
set_option maxHeartbeats 4000000
namespace PySem
open Sem (wp)
theorem JD.miss_keys:typeLookup (.type "list") "keys" = pure none:=am_miss_of_fast (by decide +kernel)
theorem JD.entry_loop:entryFor table "dict.update.loop" = some Builtin.«dict.update.loop»:=entryFor_of_tree (by kernel_rfl)
theorem JD.plain_loop:plainId "dict.update.loop" = true:=by decide +kernel
theorem JD.getAttrQ_miss {prog:Program} {w:World} {A:Around} {E:Value→Shared→Prop} {s:Shared} {a:Addr} {o:Obj} {xs:Array Value} {k:Nat} {name:Str} {Q:Option Value→Shared→Prop}
  (hx:s.heap.get? a = some o) (hc:o.cls = .type "list") (hdat:o.data = .seq xs k) (hd:o.dict = none) (hmiss:typeLookup (.type "list") name = pure none) (hname:(["__module__","__name__","__qualname__","__doc__","__annotations__"]:List Str).contains name = false) (hA:A.handled = none)
  (h:∀ h' tk e,Heap.NewExcOf s.heap h' e "AttributeError" → Q none { s with heap:=h',toks:=tk }) (hsz:name.length + 100≤sizeLine:=by size_fits) :
  wpAny (model prog w) A (getAttr? (.ref a) name) Q E s:=by
 obtain ⟨c,dct,dat,sl⟩:=o
 simp only at hc hdat hd
 subst hc hdat hd
 obtain ⟨hp,g,d,tk,os⟩:=s
 have hT:∀ tk',(⟨hp,g,d,tk',os⟩:Shared).TypeIs (.ref a) "list" := fun _=>⟨_,hx,rfl⟩
 have f1:=sub_AttributeError
 have f3:=F.slot_list_getattribute.lookup
 have f4:=F.slot_list_getattribute.bind (.ref a)
 have f5:=am_list_getattr_none
 unfold getAttr? getAttrBy? getAttrBy
 repeat (any_goals (first | assumption | exact hT _ | ((with_reducible show wpAny _ _ (call (Value.builtin "list.__getattribute__") _ _) _ _ _); refine call_meets F.slot_list_getattribute (hT _) am_entry_list_getattribute (F.args_list_getattribute_2 _ _) (meets_getattribute_miss_list a xs k sl name _ hmiss hname hsz) ⟨hx,hA,fun h' tk' e hx'=>?_⟩) | wp_step))
 obtain ⟨t',u',he⟩:=hx'.there
 show wpAny _ _ (getattributeRaised _ _ _ _ _ _ _) _ _ _
 unfold getattributeRaised
 repeat (any_goals (first | assumption | wp_step))
 exact h _ _ _ hx'.of
theorem JD.dict_keep {prog:Program} {w:World} {Kk:Type} [DecidableEq Kk] {knd:KeyKind prog w Kk} {h h':Heap} {d:Addr} {kvs:List (Kk × Value)} (hd:h.DictOf knd d kvs) (k:∀ o,h.get? d = some o→h'.get? d = some o):h'.DictOf knd d kvs:=by
 obtain ⟨o,es,ep,ho,r⟩:=hd
 exact ⟨o,es,ep,k o ho,r⟩
section
variable {prog:Program} {w:World} {Kk:Type} [DecidableEq Kk] {knd:KeyKind prog w Kk} {A:Around} {E:Value→Shared→Prop} {R:Result→Shared→Prop}
theorem JD.pairItems {s:Shared} {t:Addr} {its:Array Value} {Q:List Value→Shared→Prop} (ht:PyProof.Rows.IsTup s.heap t its) (h:Q its.toList s):wpAny (model prog w) A (Builtin.Dict.pairItems (.ref t)) Q E s:=by
 obtain ⟨o,ho,hc,n,hd⟩:=ht
 unfold Builtin.Dict.pairItems
 refine wpAny_bind (wpAny_typeOf (T := "tuple") ⟨o,ho,hc⟩ ?_)
 rw [if_pos (by decide)]
 unfold seqItems?
 refine wpAny_bind (wpAny_bind (wpAny_load ho ?_))
 rw [hd]
 exact wpAny_pure (wpAny_pure h)
theorem JD.stored_new {kvs:List (Kk × Value)} {i:Nat} (hi:i < kvs.length) (nd:(kvs.map (·.1)).Nodup):stored (kvs.take i) (kvs[i]).1 (kvs[i]).2 = kvs.take (i + 1):=by
 unfold stored
 rw [if_neg]
 ·rw [List.take_succ,List.getElem?_eq_getElem hi]
  rfl
 ·intro h
  rw [List.any_eq_true] at h
  obtain ⟨x,hx,he⟩:=h
  obtain ⟨j,hj,rfl⟩:=List.mem_iff_getElem.mp hx
  rw [List.length_take] at hj
  have hj':j < i:=by lia
  have e1:(kvs.take i)[j] = kvs[j]:=by simp
  rw [e1] at he
  have e2:(kvs[j]).1 = (kvs[i]).1:=by simpa using he
  have n:=List.pairwise_iff_getElem.mp nd j i (by simpa using (by lia:j < kvs.length)) (by simpa using hi) hj'
  simp at n
  exact n e2
theorem JD.loop {I l d:Addr} {items:Array Value} {kvs:List (Kk × Value)} (hA:A.handled = none) (hIl:l≠I) (hId:d≠I) (hld:d≠l) (hsz:kvs.length≤sizeLine) (hnd:(kvs.map (·.1)).Nodup) (hlen:items.size = kvs.length)
  (ts:Nat→Addr) (hit:∀ i (h:i < kvs.length),items[i]? = some (.ref (ts i))) (htd:∀ i,i < kvs.length→ts i≠d∧ts i≠I) :
  ∀ (k i:Nat) (s:Shared) (tk:Tok),kvs.length - i = k→i≤kvs.length→s.heap.IsListIter I l i→s.heap.IsList l items→s.heap.DictOf knd d (kvs.take i) →
   (∀ j (h:j < kvs.length),∃ key,knd.is (kvs[j]).1 key = true∧PyProof.Rows.IsTup s.heap (ts j) #[key,(kvs[j]).2]) →
   (∀ h' tk',h'.DictOf knd d kvs→(∀ b o,b≠I→b≠d→s.heap.get? b = some o→h'.get? b = some o)→R (.ok (.ret .none)) { s with heap:=h',toks:=tk' }) →
   codeAny (model prog w) A (.builtin "dict.update.loop" ⟨[.ref d,.ref I,.int (i:Int) tk,.none],[]⟩) R s:=by
 intro k
 induction k with
 | zero =>
  intro i s tk hk hi hst hl hd ht hR
  have hin:i = kvs.length:=by lia
  subst hin
  refine codeAny_builtin JD.entry_loop ?_
  rw [Around.under_plainId JD.plain_loop _]
  have W:=Walks.list (prog:=prog) (w:=w) (A:=A.in1) (by exact hA) I l hIl items
  show wpAny _ A.in1 (pyNext (.ref I) >>= _) _ _ s
  refine wpAny_bind (W.done s _ _ ⟨by rw [hlen]; exact hst,hl⟩ fun h' tk' hk'=>?_)
  have hd':h'.DictOf knd d kvs:=by
   rw [List.take_length] at hd
   exact JD.dict_keep hd fun o e=>hk' d o (by simpa using hId) e
  show wpAny _ _ (Builtin.Dict.addKeywords d [] >>= fun _=>ret Value.none) _ _ _
  exact wpAny_bind (wpAny_pure (wpAny_pure (hR h' tk' hd' fun b o hb _ e=>hk' b o (by simpa using hb) e)))
 | succ k ih =>
  intro i s tk hk hi hst hl hd ht hR
  have hlt:i < kvs.length:=by lia
  refine codeAny_builtin JD.entry_loop ?_
  rw [Around.under_plainId JD.plain_loop _]
  have W:=Walks.list (prog:=prog) (w:=w) (A:=A.in1) (by exact hA) I l hIl items
  show wpAny _ A.in1 (pyNext (.ref I) >>= _) _ _ s
  refine wpAny_bind (W.item i s _ _ (by rw [hlen]; exact hlt) ⟨hst,hl⟩ fun v h' tk' hv st' hk'=>?_)
  rw [hit i hlt] at hv
  cases hv
  have keepI:∀ b o,b≠I→s.heap.get? b = some o→h'.get? b = some o:=fun b o hb e=>hk' b o (by simpa using hb) e
  have ht':∀ j (h:j < kvs.length),∃ key,knd.is (kvs[j]).1 key = true∧PyProof.Rows.IsTup h' (ts j) #[key,(kvs[j]).2]:=fun j h=>by
   obtain ⟨key,h1,o,h2,h3⟩:=ht j h
   exact ⟨key,h1,o,keepI _ o (htd j h).2 h2,h3⟩
  have hd':h'.DictOf knd d (kvs.take i):=JD.dict_keep hd fun o e=>keepI d o hId e
  obtain ⟨key,hkey,htup⟩:=ht' i hlt
  refine wpAny_bind (wpAny_holding ?_)
  refine wpAny_bind (wpAny_tryCatch (JD.pairItems (s:={ s with heap:=h',toks:=tk' }) htup ?_))
  show wpAny _ _ (holding [key,(kvs[i]).2] (dictSet d key (kvs[i]).2)) _ _ _
  have hl2:(kvs.take i).length≤sizeLine:=by rw [List.length_take]; lia
  refine wpAny_holding (wpAny_dictSet_pairs (s:={ s with heap:=h',toks:=tk' }) (hsz:=hl2) hkey hd' fun h2 hd2 hs2=>?_)
  rw [JD.stored_new hlt hnd] at hd2
  have keep2:∀ b o,b≠d→h'.get? b = some o→h2.get? b = some o:=fun b o hb e=>(hs2.2 b hb).trans e
  refine wpAny_pure ⟨plainId_quiet JD.plain_loop _,?_⟩
  have e1:rawInt ((i:Int) + 1) = .int (((i + 1:Nat)):Int) 0:=rfl
  rw [e1]
  refine ih (i + 1) { s with heap:=h2,toks:=tk' + 1 } 0 (by lia) hlt ?_ ?_ hd2 (fun j h=>?_) fun h3 tk3 hd3 hk3=>?_
  ·exact st'.1.at fun o e=>keep2 I o (Ne.symm hId) e
  ·exact st'.2.at fun o e=>keep2 l o (Ne.symm hld) e
  ·obtain ⟨key,h1,o,h2',h3'⟩:=ht' j h
   exact ⟨key,h1,o,keep2 _ o (htd j h).1 h2',h3'⟩
  ·exact hR h3 tk3 hd3 fun b o hb hb2 e=>hk3 b o hb hb2 (keep2 b o hb2 (keepI b o hb e))
theorem JD.call {s:Shared} {l:Addr} {items:Array Value} {kvs:List (Kk × Value)} {Q:Value→Shared→Prop} {ol:Obj} {nl:Nat} (hA:A.handled = none) (hol:s.heap.get? l = some ol) (hcl:ol.cls = .type "list") (hdl:ol.data = .seq items nl) (hdd:ol.dict = none) (hsz:kvs.length≤sizeLine) (hnd:(kvs.map (·.1)).Nodup) (hlen:items.size = kvs.length)
  (ts:Nat→Addr) (hit:∀ i (h:i < kvs.length),items[i]? = some (.ref (ts i)))
  (ht:∀ j (h:j < kvs.length),∃ key,knd.is (kvs[j]).1 key = true∧PyProof.Rows.IsTup s.heap (ts j) #[key,(kvs[j]).2])
  (h:∀ h' tk',h'.DictOf knd s.heap.objs.size kvs→(∀ b o,s.heap.get? b = some o→h'.get? b = some o)→Q (.ref s.heap.objs.size) { s with heap:=h',toks:=tk' }) :
  wpAny (model prog w) A (call (.type "dict") [.ref l]) Q E s:=by
 refine callType_codes (Q₁:=fun obj s₁=>obj = .ref s.heap.objs.size∧s₁ = { s with heap:=s.heap.push { cls:=.type "dict",data:=.dict #[] } }) F.kt_called_dict (F.kt_typeCall_dict_1 _) F.entry_dict_init (kt_code_dict_new _ ⟨rfl,rfl⟩) ?_
 rintro obj s₁ ⟨rfl,rfl⟩
 have hnew:(s.heap.push { cls:=.type "dict",data:=.dict #[] }).DictOf knd s.heap.objs.size []:=Heap.DictOf.new s.heap
 have hol':(s.heap.push { cls:=.type "dict",data:=.dict #[] }).get? l = some ol:=Heap.get?_push_of_some _ hol
 have hdo:l≠s.heap.objs.size:=fun e=>absurd (Heap.lt_size hol) (by rw [e]; exact Nat.lt_irrefl _)
 have hts:∀ i,i < kvs.length→ts i < s.heap.objs.size:=fun i hi=>by
  obtain ⟨_,_,o,ho,_⟩:=ht i hi
  exact Heap.lt_size ho
 refine ⟨hnew.typeIs,F.args_dict_init_2 _ _,?_⟩
 unfold Builtin.«dict.__init__»
 refine wpAny_bind ?_
 unfold Builtin.Dict.selfAndRest
 refine wpAny_bind (wpAny_notOrdered_dict hnew.typeIs ?_)
 show wpAny _ _ (pure (s.heap.objs.size,[Value.ref l])) _ _ _
 refine wpAny_pure ?_
 show wpAny _ _ (Builtin.Dict.updateFrom "dict.__init__" s.heap.objs.size (.ref l) [] .none) _ _ _
 unfold Builtin.Dict.updateFrom
 refine wpAny_bind (wpAny_typeOf (T := "list") ⟨ol,hol',hcl⟩ ?_)
 rw [if_pos (by decide)]
 refine wpAny_bind (JD.getAttrQ_miss hol' hcl hdl hdd JD.miss_keys (by decide +kernel) (by exact hA) (fun h1 tk1 e x=>?_) (by decide +kernel))
 simp only [Option.isNone_none,if_true]
 have keep1:∀ b o,s.heap.get? b = some o→h1.get? b = some o:=fun b o e=>x.keeps b o (Heap.get?_push_of_some _ e)
 have hbig:s.heap.objs.size < h1.objs.size:=by
  obtain ⟨o,_,_,ho,_⟩:=hnew
  exact Heap.lt_size (x.keeps _ _ ho)
 refine wpAny_bind (wpAny_rule (wpAny_bind (wpAny_pyIter_list (items:=items) ⟨ol,keep1 _ _ hol,hcl,nl,hdl⟩ ?_)))
 refine wpAny_pure ⟨plainId_quiet JD.plain_loop _,?_⟩
 have e1:rawInt 0 = .int (((0:Nat)):Int) 0:=rfl
 rw [e1]
 have hIs:∀ b,b < h1.objs.size→b≠h1.objs.size:=fun b hb=>Nat.ne_of_lt hb
 have hl1:l < h1.objs.size:=Heap.lt_size (keep1 _ _ hol)
 refine JD.loop (knd:=knd) (I:=h1.objs.size) (l:=l) (d:=s.heap.objs.size) (kvs:=kvs) (items:=items) (by exact hA) (hIs _ hl1) (hIs _ hbig) (Ne.symm hdo) hsz hnd hlen ts hit (fun i hi=>⟨Nat.ne_of_lt (hts i hi),hIs _ (Nat.lt_trans (hts i hi) hbig)⟩) kvs.length 0 _ 0 (by lia) (Nat.zero_le _) ?_ ?_ ?_ ?_ ?_
 ·exact ⟨_,Heap.get?_push_size _ rfl,rfl,rfl⟩
 ·exact ⟨ol,Heap.get?_push_of_some _ (keep1 _ _ hol),hcl,nl,hdl⟩
 ·rw [List.take_zero]
  exact JD.dict_keep hnew fun o e=>Heap.get?_push_of_some _ (x.keeps _ _ e)
 ·intro j hj
  obtain ⟨key,h1',o,h2,h3⟩:=ht j hj
  exact ⟨key,h1',o,Heap.get?_push_of_some _ (keep1 _ _ h2),h3⟩
 ·intro h' tk' hd' hk'
  refine ⟨rfl,h h' tk' hd' fun b o e=>?_⟩
  have lt:=Heap.lt_size e
  exact hk' b o (hIs _ (Nat.lt_trans lt hbig)) (Nat.ne_of_lt lt) (Heap.get?_push_of_some _ (keep1 _ _ e))
end
end PySem
end
section
set_option Elab.async false
set_option linter.all false
set_option maxRecDepth 100000
namespace L2
open PySem PySem.Spec PyProof.Rows
section
variable {κ:Type} [DecidableEq κ]
noncomputable def valV (kvs:List (κ × V)) (k : κ):Option V:=(kvs.find? fun kv=>decide (kv.1 = k)).map (·.2)
noncomputable def putK (kvs:List (κ × V)) (k : κ) (v:V):List (κ × V):=
 if (kvs.any fun kv=>decide (kv.1 = k)) = true then kvs.map (fun kv=>if kv.1 = k then (kv.1,v) else kv) else kvs ++ [(k,v)]
theorem valV_pos {p : κ × V} {r:List (κ × V)} {k : κ} (e:p.1 = k):valV (p :: r) k = some p.2:=by simp [valV,List.find?_cons,e]
theorem valV_neg {p : κ × V} {r:List (κ × V)} {k : κ} (e:¬ p.1 = k):valV (p :: r) k = valV r k:=by simp [valV,List.find?_cons,e]
theorem valV_any (k : κ):∀ kvs:List (κ × V),(kvs.any fun kv=>decide (kv.1 = k)) = (valV kvs k).isSome
 | []=>rfl
 | p :: r=>by
  rw [List.any_cons]
  by_cases e:p.1 = k
  ·simp only [valV_pos e,decide_eq_true e,Bool.true_or,Option.isSome_some]
  ·rw [valV_neg e,decide_eq_false e,Bool.false_or]; exact valV_any k r
theorem length_putK (kvs:List (κ × V)) (k : κ) (v:V):(putK kvs k v).length≤kvs.length + 1:=by
 unfold putK
 split
 ·rw [List.length_map]; lia
 ·rw [List.length_append,List.length_cons,List.length_nil]; lia
theorem RelO.isSome_eq {o:Option V} {u:Option Value} (r:RelO o u):o.isSome = u.isSome:=by
 cases o with
 | none=>cases u with
  | none=>rfl
  | some _=>exact (show False from r).elim
 | some _=>cases u with
  | none=>exact (show False from r).elim
  | some _=>rfl
theorem RelO.getD {o:Option V} {u:Option Value} {d:V} {d':Value} (r:RelO o u) (rd:RelV d d'):RelV (o.getD d) (u.getD d'):=by
 cases o with
 | none=>cases u with
  | none=>exact rd
  | some _=>exact (show False from r).elim
 | some _=>cases u with
  | none=>exact (show False from r).elim
  | some _=>exact r
theorem KV.val {kvs:List (κ × V)} {vs:List (κ × Value)} (r:KV kvs vs) (k : κ):RelO (valV kvs k) (valueAt vs k):=by
 unfold KV at r
 induction r with
 | nil=>exact True.intro
 | @cons p q ps qs h t ih =>
  obtain ⟨h1,h2⟩:=h
  by_cases e:p.1 = k
  ·have e':q.1 = k:=h1.symm.trans e
   have b:valueAt (q :: qs) k = some q.2:=by simp [valueAt,List.find?_cons,e']
   rw [valV_pos e,b]; exact h2
  ·have e':¬ q.1 = k:=fun z=>e (h1.trans z)
   have b:valueAt (q :: qs) k = valueAt qs k:=by simp [valueAt,List.find?_cons,e']
   rw [valV_neg e,b]; exact ih
theorem KV.any {kvs:List (κ × V)} {vs:List (κ × Value)} (r:KV kvs vs) (k : κ):(kvs.any fun kv=>decide (kv.1 = k)) = vs.any fun kv=>decide (kv.1 = k):=by
 unfold KV at r
 induction r with
 | nil=>rfl
 | cons h t ih=>rw [List.any_cons,List.any_cons,ih,h.1]
theorem KV.repl {kvs:List (κ × V)} {vs:List (κ × Value)} (r:KV kvs vs) (k : κ) {y:V} {u:Value} (ry:RelV y u) :
  KV (kvs.map fun kv=>if kv.1 = k then (kv.1,y) else kv) (vs.map fun kv=>if kv.1 = k then (kv.1,u) else kv):=by
 unfold KV at r ⊢
 induction r with
 | nil=>exact .nil
 | @cons p q ps qs h t ih =>
  rw [List.map_cons,List.map_cons]
  refine .cons ?_ ih
  obtain ⟨h1,h2⟩:=h
  by_cases e:p.1 = k
  ·rw [if_pos e,if_pos (h1.symm.trans e)]; exact ⟨h1,ry⟩
  ·rw [if_neg e,if_neg (fun z=>e (h1.trans z))]; exact ⟨h1,h2⟩
theorem KV.put {kvs:List (κ × V)} {vs:List (κ × Value)} (r:KV kvs vs) (k : κ) {y:V} {u:Value} (ry:RelV y u):KV (putK kvs k y) (stored vs k u):=by
 unfold putK stored
 rw [r.any k]
 by_cases e:(vs.any fun kv=>decide (kv.1 = k)) = true
 ·rw [if_pos e,if_pos e]; exact r.repl k ry
 ·rw [if_neg e,if_neg e]; exact Paired.snoc r ⟨rfl,ry⟩
theorem KV.keys {kvs:List (κ × V)} {vs:List (κ × Value)} (r:KV kvs vs):kvs.map (·.1) = vs.map (·.1):=by
 unfold KV at r
 induction r with
 | nil=>rfl
 | cons h t ih=>rw [List.map_cons,List.map_cons,ih,h.1]
theorem KV.length {kvs:List (κ × V)} {vs:List (κ × Value)} (r:KV kvs vs):kvs.length = vs.length:=Paired.length r
end
theorem kV_is {P:Program} {w:World} {k:Key} {u:Value} (r:RelV (kV k) u):(mixKind P w).is k u = true:=by
 cases k with
 | inl i=>obtain ⟨t,e⟩:=(show ∃ t,u = Value.int i t from r); subst e; exact mixKind_int P w i t
 | inr x=>obtain ⟨t,e⟩:=(show ∃ t,u = Value.str x t from r); subst e; exact mixKind_str P w x t
theorem items_are {P:Program} {w:World}:∀ {ks:List Key} {us:List Value},Vals (ks.map kV) us→ItemsAre (mixKind P w) ks us
 | [],_,r=>by rw [List.map_nil] at r; cases r; exact .nil
 | k :: ks,_,r=>by
  rw [List.map_cons] at r
  cases r with
  | cons h t=>exact .cons (kV_is h) (items_are t)
noncomputable abbrev KT (H:Hp):List (List Key × V)→List (List Key × Addr × Value)→Prop:=Paired fun p q=>p.1 = q.1∧H q.2.1 = some (.tup (p.1.map kV))∧RelV p.2 q.2.2
theorem KT.val {H:Hp} {kvs:List (List Key × V)} {xs:List (List Key × Addr × Value)} (r:KT H kvs xs) (k:List Key):RelO (valV kvs k) ((atKey xs k).map (·.2)):=by
 induction r with
 | nil=>exact True.intro
 | @cons p q ps qs h t ih =>
  obtain ⟨h1,_,h2⟩:=h
  by_cases e:p.1 = k
  ·have e':q.1 = k:=h1.symm.trans e
   have b:atKey (q :: qs) k = some q.2:=by simp [atKey,List.find?_cons,e']
   rw [valV_pos e,b]; exact h2
  ·have e':¬ q.1 = k:=fun z=>e (h1.trans z)
   have b:atKey (q :: qs) k = atKey qs k:=by simp [atKey,List.find?_cons,e']
   rw [valV_neg e,b]; exact ih
theorem KT.repl {H:Hp} {kvs:List (List Key × V)} {xs:List (List Key × Addr × Value)} (r:KT H kvs xs) (k:List Key) {y:V} {u:Value} (ry:RelV y u) :
  KT H (kvs.map fun kv=>if kv.1 = k then (kv.1,y) else kv) (xs.map (putAt k u)):=by
 induction r with
 | nil=>exact .nil
 | @cons p q ps qs h t ih =>
  rw [List.map_cons,List.map_cons]
  refine .cons ?_ ih
  obtain ⟨h1,h2,h3⟩:=h
  unfold putAt
  by_cases e:p.1 = k
  ·rw [if_pos e,if_pos (h1.symm.trans e)]; exact ⟨h1,h2,ry⟩
  ·rw [if_neg e,if_neg (fun z=>e (h1.trans z))]; exact ⟨h1,h2,h3⟩
theorem KT.put {H:Hp} {kvs:List (List Key × V)} {xs:List (List Key × Addr × Value)} (r:KT H kvs xs) (k:List Key) {b:Addr} {y:V} {u:Value} (hb:H b = some (.tup (k.map kV))) (ry:RelV y u) :
  KT H (putK kvs k y) (storedH xs k b u):=by
 have e:(kvs.any fun kv=>decide (kv.1 = k)) = (atKey xs k).isSome:=by
  rw [valV_any,(r.val k).isSome_eq,Option.isSome_map]
 unfold putK storedH
 rw [e]
 by_cases q:(atKey xs k).isSome = true
 ·rw [if_pos q,if_pos q]; exact r.repl k ry
 ·rw [if_neg q,if_neg q]; exact Paired.snoc r ⟨rfl,hb,ry⟩
theorem KT.keeps {H H':Hp} {kvs:List (List Key × V)} {xs:List (List Key × Addr × Value)} (r:KT H kvs xs) (ht:∀ b ys,H b = some (.tup ys)→H' b = some (.tup ys)):KT H' kvs xs:=
 Paired.mapP r fun _ _ z=>⟨z.1,ht _ _ z.2.1,z.2.2⟩
section
variable {P:Program} {w:World} {H:Hp} {h:Heap} {a:Addr}
theorem rd_of {u:HO} (ok:HOk P w H h) (e:Rd H a u):ObjOk P w H h a u:=e.ok ok
theorem dk_rd {kvs:List (Key × V)} (ok:HOk P w H h) (e:Rd H a (.dK kvs)):kvs.length≤sizeLine∧(a == sysModules) = false∧∃ vs,KV kvs vs∧h.DictOf (mixKind P w) a vs:=
 show ObjOk P w H h a (.dK kvs) from rd_of ok e
theorem dk_of {kvs:List (Key × V)} (ok:HOk P w H h) (e:H a = some (.dK kvs)):kvs.length≤sizeLine∧(a == sysModules) = false∧∃ vs,KV kvs vs∧h.DictOf (mixKind P w) a vs:=dk_rd ok (.inl e)
theorem key_of {ks:List Key} (ok:HOk P w H h) (e:H a = some (.tup (ks.map kV))):(tupleKind (mixKind P w)).is h ks a:=by
 obtain ⟨_,its,r,o,h1,h2,n,h3⟩:=(show ObjOk P w H h a (.tup (ks.map kV)) from ok a _ e)
 exact ⟨o,its.toArray,n,h1,h2,h3,by simpa using items_are r⟩
theorem dt_rd {kvs:List (List Key × V)} (ok:HOk P w H h) (e:Rd H a (.dT kvs)):kvs.length≤sizeLine∧(a == sysModules) = false ∧
  ∃ xs,KT H kvs xs∧h.DictOfH (tupleKind (mixKind P w)) a xs:=by
 obtain ⟨z,y,xs,r,o,es,ep,h1,h2,h3,h4,h5⟩:=(show ObjOk P w H h a (.dT kvs) from rd_of ok e)
 refine ⟨z,y,xs,r,o,es,ep,h1,h2,h3,h4,fun x hx=>?_,h5⟩
 have all:∀ {l:List (List Key × V)} {m:List (List Key × Addr × Value)},KT H l m→∀ x∈m,(tupleKind (mixKind P w)).is h x.1 x.2.1:=by
  intro l m q
  induction q with
  | nil=>intro x hx; exact nomatch hx
  | @cons p q ps qs hq t ih =>
   intro x hx
   rcases List.mem_cons.mp hx with e | hx
   ·subst e
    exact key_of ok (by rw [← hq.1]; exact hq.2.1)
   ·exact ih x hx
 exact all r x hx
theorem dt_of {kvs:List (List Key × V)} (ok:HOk P w H h) (e:H a = some (.dT kvs)):kvs.length≤sizeLine∧(a == sysModules) = false ∧
  ∃ xs,KT H kvs xs∧h.DictOfH (tupleKind (mixKind P w)) a xs:=dt_rd ok (.inl e)
end
noncomputable def DGet (H:Hp) (a:Addr) (y:V) (r:Option V):Prop:=
 (∃ kvs k,Rd H a (.dK kvs)∧y = kV k∧r = valV kvs k)∨∃ kvs k b,Rd H a (.dT kvs)∧y = .ref b∧H b = some (.tup (k.map kV))∧r = valV kvs k
noncomputable def DPut (H:Hp) (a:Addr) (y v:V) (H':Hp):Prop:=
 (∃ kvs k,H a = some (.dK kvs)∧y = kV k∧kvs.length < sizeLine∧H' = upd H a (.dK (putK kvs k v))) ∨
 ∃ kvs k b,H a = some (.dT kvs)∧y = .ref b∧H b = some (.tup (k.map kV))∧kvs.length < sizeLine∧H' = upd H a (.dT (putK kvs k v))
theorem DGet.k {H:Hp} {a:Addr} {kvs:List (Key × V)} {k:Key} (e:H a = some (.dK kvs)):DGet H a (kV k) (valV kvs k):=.inl ⟨kvs,k,.inl e,rfl,rfl⟩
section
variable {X:Cx} {pins:List (Addr × Obj)} {σ:St} {H:Hp} {s:Shared} {a:Addr} {y v:V} {u r:Value} {o:Option V} {A:Around} {E:Value→Shared→Prop}
theorem Inv.big (I:Inv X pins σ H s):sysModules < s.heap.objs.size:=by
 have h:mainGlobals < s.heap.objs.size:=(I.mod.glob.keeps I.bk).lt
 exact Nat.lt_trans (by decide) h
theorem d_getItem {Q:Value→Shared→Prop} (hu:A.units + 1 < cLine) (I:Inv X pins σ H s) (g:DGet H a y (some v)) (ry:RelV y u) (h:∀ w' s',Inv X pins σ H s'→RelV v w'→Q w' s') :
  wpAny (model X.prog X.w) A (getItem (.ref a) u) Q E s:=by
 rcases g with ⟨kvs,k,e,ey,l⟩ | ⟨kvs,k,b,e,ey,eb,l⟩
 ·subst ey
  obtain ⟨z,hd,vs,rel,dd⟩:=dk_rd I.hok e
  obtain ⟨w',hw,rw'⟩:=RelO.some_of (v:=v) (o:=valueAt vs k) (by rw [l]; exact rel.val k)
  exact wpAny_getItem_of (kV_is ry) dd.mapOf hw (h w' _ (I.tok _) rw')
 ·subst ey
  cases (show u = Value.ref b from ry)
  obtain ⟨z,hd,xs,rel,dd⟩:=dt_rd I.hok e
  obtain ⟨w',hw,rw'⟩:=RelO.some_of (v:=v) (o:=(atKey xs k).map (·.2)) (by rw [l]; exact rel.val k)
  obtain ⟨p,hp,hp2⟩:=Option.map_eq_some_iff.mp hw
  refine wpAny_getItem_heap (tupleKind_room_in1 hu) (key_of I.hok eb) dd hp ?_
  rw [hp2]
  exact h w' _ (I.tok _) rw'
theorem d_write {h':Heap} {t':Nat} {ob:HO} (I:Inv X pins σ H s) (mu:Mut (H a)) (hs:Heap.SameBut a s.heap h') (he:∃ q,h'.get? a = some q) (new:ObjOk X.prog X.w (upd H a ob) h' a ob) :
  Inv X pins σ (upd H a ob) { s with heap:=h',toks:=t' }:=
 I.write (x:=a) (e:=a) mu (.inl rfl) (fun b q hb z=>(hs.2 b hb).trans z) he new
theorem dk_new {P:Program} {w:World} {H':Hp} {h':Heap} {kvs:List (Key × V)} {vs:List (Key × Value)} (z:kvs.length≤sizeLine) (hd:(a == sysModules) = false) (rel:KV kvs vs) (dd:h'.DictOf (mixKind P w) a vs) :
  ObjOk P w H' h' a (.dK kvs):=⟨z,hd,vs,rel,dd⟩
theorem d_setItem {H':Hp} {Q:Unit→Shared→Prop} (hu:A.units + 1 < cLine) (I:Inv X pins σ H s) (g:DPut H a y v H') (ry:RelV y u) (rv:RelV v r) (h:∀ s',Inv X pins σ H' s'→Q () s') :
  wpAny (model X.prog X.w) A (setItem (.ref a) u r) Q E s:=by
 rcases g with ⟨kvs,k,e,ey,l,eH⟩ | ⟨kvs,k,b,e,ey,eb,l,eH⟩
 ·subst ey eH
  obtain ⟨z,hd,vs,rel,dd⟩:=dk_of I.hok e
  have hz:vs.length≤sizeLine:=by rw [← rel.length]; exact z
  have hl:(putK kvs k v).length≤sizeLine:=by have:=length_putK kvs k v; lia
  refine wpAny_setItem_pairs (hsz:=hz) (kV_is ry) dd fun h' dd' hs=>h _ ?_
  have he:∃ q,h'.get? a = some q:=let ⟨q,_,_,hq,_⟩:=dd'; ⟨q,hq⟩
  exact d_write I (by rw [e]; exact True.intro) hs he (dk_new hl hd (rel.put k rv) dd')
 ·subst ey eH
  cases (show u = Value.ref b from ry)
  obtain ⟨z,hd,xs,rel,dd⟩:=dt_of I.hok e
  have hz:xs.length≤sizeLine:=by rw [← Paired.length rel]; exact z
  have hl:(putK kvs k v).length≤sizeLine:=by have:=length_putK kvs k v; lia
  refine wpAny_setItem_heap (hsz:=hz) (tupleKind_room_in1 hu) (key_of I.hok eb) dd fun h' dd' hs=>h _ ?_
  obtain ⟨q,es,ep,hq,h2,h3,h4,_,h5⟩:=dd'
  refine d_write I (by rw [e]; exact True.intro) hs ⟨q,hq⟩ ⟨hl,hd,_,(rel.put k eb rv).keeps fun c ys ec=>?_,q,es,ep,hq,h2,h3,h4,h5⟩
  rw [upd_ne (ne_of ec e (fun z=>nomatch z))]
  exact ec
end
section
variable {X:Cx} {pins:List (Addr × Obj)} {σ:St} {H:Hp} {s:Shared} {a:Addr} {kvs:List (Key × V)} {k:Key} {u:Value} {A:Around} {E:Value→Shared→Prop}
end
noncomputable def NoSl (i:Expr):Prop:=∀ ov iv,subscripted i false ov iv = operate [ov,iv] (getItem ov iv)
theorem subD_of {prog:Program} {w:World} {A:Around} {E:Value→Shared→Prop} {s:Shared} {env:Env} {value slice:Expr} {pos:Pos} {T id:String} {Q:Value→Shared→Prop}
  (hl:typeLookup (.type T) "__getitem__" = pure (some (.builtin id))) (hs:NoSl slice)
  (h:wpAny (model prog w) A (eval value env) (fun o s₁=>wpAny (model prog w) A (eval slice env) (fun i s₂=>s₂.TypeIs o T∧wpAny (model prog w) A (getItem o i) Q E s₂) E s₁) E s) :
  wpAny (model prog w) A (eval (.Subscript value slice pos) env) Q E s:=by
 refine Subscript_ (wpAny_mono h (fun o s₁ h₁=>wpAny_mono h₁ (fun i s₂ h₂=>?_) fun _ _ x=>x) fun _ _ x=>x)
 obtain ⟨hT,h₂⟩:=h₂
 unfold subscriptTail
 refine wpAny_bind ?_
 rw [getitemInPython_of_ne hT.not_modules]
 refine wpAny_bind (wpAny_specialOf hT hl ?_)
 have fin:wpAny (model prog w) A (subscripted slice false o i) (fun r s₃=>wpAny (model prog w) A (letTemporaryGo value o r >>= fun _=>pure r) Q E s₃) E s₂:=by
  rw [hs o i]
  exact wpAny_operating (wpAny_mono h₂ (fun r s₃ h₃=>wpAny_bind (wpAny_letTemporaryGo (wpAny_pure h₃))) fun _ _ x=>x)
 first
  | exact wpAny_pure (wpAny_bind fin)
  | exact wpAny_bind (wpAny_pure (wpAny_bind fin))
  | exact wpAny_bind fin
theorem dict_typeIs {X:Cx} {pins:List (Addr × Obj)} {σ:St} {H:Hp} {s:Shared} {a:Addr} {y:V} {o:Option V} (I:Inv X pins σ H s) (g:DGet H a y o):s.TypeIs (.ref a) "dict" := by
 rcases g with ⟨kvs,k,e,_,_⟩ | ⟨kvs,k,b,e,_,_,_⟩
 ·obtain ⟨_,_,vs,_,dd⟩:=dk_rd I.hok e
  exact dd.typeIs
 ·obtain ⟨_,_,xs,_,dd⟩:=dt_rd I.hok e
  exact dd.typeIs
noncomputable def tDGet (td ty:TE):TE:=fun σ H Q=>td σ H fun x H1=>ty σ H1 fun y H2=>∃ a v,x = .ref a∧DGet H2 a y (some v)∧Q v H2
noncomputable def sDPut (td ty tv:TE):TS:=fun D σ H=>tv σ H fun v H1=>td σ H1 fun x H2=>ty σ H2 fun y H3=>∃ a H4,x = .ref a∧DPut H3 a y v H4∧D.nx σ H4
section
variable {X:Cx} {o i e value:Expr} {pos pos' tpos:Pos} {td ty tv:TE}
theorem pe_dget (hu:X.A.units + 1 < cLine) (ho:PE X o td) (hi:PE X i ty) (hs:NoSl i):PE X (.Subscript o i pos) (tDGet td ty):=by
 intro pins s σ H Q I h
 refine subD_of PySem.F.slot_dict_getitem.lookup hs (thn (ho pins s σ H _ I h) fun u s1 ⟨x,H1,I1,rx,q1⟩=>thn (hi pins s1 σ H1 _ I1 q1) fun iv s2 yy=>?_)
 obtain ⟨y,H2,I2,ry,a,v,ex,g,q2⟩:=yy
 subst ex
 obtain rfl:u = Value.ref a:=rx
 exact ⟨dict_typeIs I2 g,d_getItem hu I2 g ry fun w' s3 I3 rw'=>⟨v,H2,I3,rw',q2⟩⟩
theorem ps_dput (hu:X.A.units + 1 < cLine) (ho:PE X o td) (hi:PE X i ty) (hv:PE X value tv) (hs:swapsWith value (some (.Subscript o i pos')) pos.line X.env = pure false) :
  PS X (.Assign [.Subscript o i pos'] value pos) (sDPut td ty tv):=by
 intro pins s σ H D I h
 refine wpAny_Assign_Subscript (thn (hv pins s σ H _ I h) fun r s1 ⟨v,H1,I1,rv,q1⟩=>thn (ho pins s1 σ H1 _ I1 q1) fun u s2 ⟨x,H2,I2,rx,q2⟩=>thn (hi pins s2 σ H2 _ I2 q2) fun iv s3 yy=>?_) hs
 obtain ⟨y,H3,I3,ry,a,H4,ex,g,q3⟩:=yy
 subst ex
 obtain rfl:u = Value.ref a:=rx
 exact d_setItem hu I3 g ry rv fun s4 I4=>⟨σ,H4,I4,q3⟩
end
theorem dk_empty {P:Program} {w:World} {H:Hp} (h:Heap) (hb:sysModules < h.objs.size):ObjOk P w H (h.push { cls:=.type "dict",data:=.dict #[] }) h.objs.size (.dK []):=
 ⟨Nat.zero_le _,beq_eq_false_iff_ne.mpr (Ne.symm (Nat.ne_of_lt hb)),[],.nil,Heap.DictOf.new h⟩
noncomputable def tDNewK:TE:=fun _ H Q=>∀ p,H p = none→Q (.ref p) (upd H p (.dK []))
section
variable {X:Cx} {pos:Pos}
theorem pe_dnewK:PE X (.Dict [] [] pos) tDNewK:=fun pins s σ H Q I h =>
 wpAny_Dict_empty ⟨.ref s.heap.objs.size,_,I.laid (a:=s.heap.objs.size) (o:=.dK []) (t':=s.toks) (fun _ _ q=>Heap.get?_push_of_some _ q) (Nat.le_refl _) (dk_empty s.heap I.big),rfl,h _ (I.hok.fresh (Nat.le_refl _))⟩
end
structure M1 (X:Cx) (o:Expr) (m:Str) (apos:Pos) (e:Expr) (cpos:Pos):Prop where
 base:attributeBase o m X.env (eval o X.env) = eval o X.env
 few:((backTo cpos (starEach [e] X.env)).all (fun x=>!x.1) && (backToKw cpos (keywordEach [] X.env)).all (fun x=>x.1.isSome)
  && decide (([e]:List Expr).length + ([]:List Keyword).length + (if ([]:List Keyword).isEmpty then 0 else 1) < 30)) = true
 line:(apos.endLine == cpos.line) = true
 trees:backTo cpos (starEach [e] X.env) = [(false,eval e X.env)]
structure M2 (X:Cx) (o:Expr) (m:Str) (apos:Pos) (e f:Expr) (cpos:Pos):Prop where
 base:attributeBase o m X.env (eval o X.env) = eval o X.env
 few:((backTo cpos (starEach [e,f] X.env)).all (fun x=>!x.1) && (backToKw cpos (keywordEach [] X.env)).all (fun x=>x.1.isSome)
  && decide (([e,f]:List Expr).length + ([]:List Keyword).length + (if ([]:List Keyword).isEmpty then 0 else 1) < 30)) = true
 line:(apos.endLine == cpos.line) = true
 trees:backTo cpos (starEach [e,f] X.env) = [(false,eval e X.env),(false,eval f X.env)]
noncomputable def IsD (H:Hp) (a:Addr):Prop:=(∃ kvs,Rd H a (.dK kvs))∨∃ kvs,Rd H a (.dT kvs)
theorem isD_at {X:Cx} {pins:List (Addr × Obj)} {σ:St} {H:Hp} {s:Shared} {a:Addr} (I:Inv X pins σ H s) (d:IsD H a) :
  s.TypeIs (.ref a) "dict" ∧ (∀ b,Value.ref a = .ref b→∃ ob,s.heap.get? b = some ob∧ob.dict = none)∧(a == sysModules) = false:=by
 rcases d with ⟨kvs,e⟩ | ⟨kvs,e⟩
 ·obtain ⟨_,hd,vs,_,dd⟩:=dk_rd I.hok e
  refine ⟨dd.typeIs,fun b q=>?_,hd⟩
  cases q
  obtain ⟨ob,_,_,h1,h2,_⟩:=dd
  exact ⟨ob,h1,h2.2.1⟩
 ·obtain ⟨_,hd,xs,_,dd⟩:=dt_rd I.hok e
  refine ⟨dd.typeIs,fun b q=>?_,hd⟩
  cases q
  obtain ⟨ob,_,_,h1,h2,_⟩:=dd
  exact ⟨ob,h1,h2.2.1⟩
section
variable {X:Cx} {pins:List (Addr × Obj)} {σ:St} {H:Hp} {s:Shared} {a:Addr} {y d:V} {u r:Value} {o:Option V} {A:Around} {E:Value→Shared→Prop}
theorem d_get2 {Q:Value→Shared→Prop} (hu:A.units + 1 < cLine) (I:Inv X pins σ H s) (g:DGet H a y o) (ry:RelV y u) (rd:RelV d r) (h:∀ w' s',Inv X pins σ H s'→RelV (o.getD d) w'→Q w' s') :
  wpAny (model X.prog X.w) A (call (.builtin "dict.get") [.ref a,u,r]) Q E s:=by
 rcases g with ⟨kvs,k,e,ey,l⟩ | ⟨kvs,k,b,e,ey,eb,l⟩
 ·subst ey
  obtain ⟨z,hd,vs,rel,dd⟩:=dk_rd I.hok e
  refine call_meetsIn PySem.F.slot_dict_get dd.typeIs PySem.F.entry_dict_get (PySem.F.args_dict_get_3 _ _ _) (meets_dict_get_default (mixKind X.prog X.w) a (kV_is ry) hd r) ⟨_,dd.mapOf,h _ _ (I.tok _) ?_⟩
  rw [l]
  exact (rel.val k).getD rd
 ·subst ey
  cases (show u = Value.ref b from ry)
  obtain ⟨z,hd,xs,rel,dd⟩:=dt_rd I.hok e
  refine call_meetsIn PySem.F.slot_dict_get dd.typeIs PySem.F.entry_dict_get (PySem.F.args_dict_get_3 _ _ _) (meetsH_dict_get_default (tupleKind (mixKind X.prog X.w)) a b hd r) ⟨tupleKind_room_in1 hu,k,xs,key_of I.hok eb,dd,h _ _ (I.tok _) ?_⟩
  rw [l]
  exact (rel.val k).getD rd
end
noncomputable def tDGet2 (td ty tx:TE):TE:=fun σ H Q=>td σ H fun x H1=>∃ a,x = .ref a∧IsD H1 a∧ty σ H1 fun y H2=>tx σ H2 fun z H3=>∃ o,DGet H3 a y o∧Q (o.getD z) H3
section
variable {X:Cx} {o e f:Expr} {apos cpos:Pos} {td ty tx:TE}
theorem pe_dget2 (hu:X.A.units + 1 < cLine) (ho:PE X o td) (he:PE X e ty) (hf:PE X f tx) (m:M2 X o "get" apos e f cpos):PE X (.Call (.Attribute o "get" apos) [e,f] [] cpos) (tDGet2 td ty tx):=by
 intro pins s σ H Q I h
 refine wpAny_Call_method m.base m.few m.line PySem.F.plainAttrs_dict PySem.F.slot_dict_get PySem.F.type_dict_get (thn (ho pins s σ H _ I h) fun u s1 yy=>?_)
 obtain ⟨x,H1,I1,rx,a,ex,d,q1⟩:=yy
 subst ex
 obtain rfl:u = Value.ref a:=rx
 obtain ⟨t1,t2,_⟩:=isD_at I1 d
 refine ⟨t1,t2,?_⟩
 rw [m.trees]
 refine Calls.callWith_builtin rfl (Calls.evalArgs_plain (Calls.spliced_cons (thn (he pins s1 σ H1 _ I1 q1) fun iv s2 ⟨y,H2,I2,ry,q2⟩ =>
  Calls.spliced_cons (thn (hf pins s2 σ H2 _ I2 q2) fun fv s3 ⟨z,H3,I3,rz,ov,g,q3⟩=>Calls.spliced_nil ?_))))
 exact d_get2 hu I3 g ry rz fun w' s4 I4 rw'=>⟨_,H3,I4,rw',q3⟩
end
section
variable {X:Cx} {pins:List (Addr × Obj)} {σ:St} {H:Hp} {s:Shared} {a:Addr} {kvs:List (Key × V)} {A:Around} {E:Value→Shared→Prop}
end
section
variable {X:Cx} {pins:List (Addr × Obj)} {σ:St} {H:Hp} {s:Shared} {a:Addr} {y:V} {u:Value} {A:Around} {E:Value→Shared→Prop}
end
end L2
end
section
set_option Elab.async false
set_option linter.all false
set_option maxRecDepth 100000
set_option maxHeartbeats 1000000
namespace L2
open PySem PySem.Spec PyProof.Rows
section
variable {X:Cx}
noncomputable def Itd (lo:Int) (n:Nat):It:=⟨fun i _=>i < n,fun i H x H'=>H' = H∧x = .int (lo - i),fun i _=>n≤i⟩
theorem rangeSize_dn (a b:Int):Builtin.Range.rangeSize a b (-1) = if b < a then a - b else 0:=by
 unfold Builtin.Range.rangeSize
 rw [if_neg (by decide)]
 have e:(-(-1:Int)) = 1:=by decide
 rw [e]
 simp only [Int.ediv_one,gt_iff_lt]
 split <;> lia
noncomputable def iRngD (ta:TA):TI:=fun σ H R=>ta σ H fun vs H1=>∃ i j:Int,vs = [.int i,.int j,.int (-1)]∧(-(2 ^ 62)≤i∧i < 2 ^ 62 ∧ -(2 ^ 62)≤j∧j < 2 ^ 62)∧R (Itd i (i - j).toNat) H1
end
section
variable {X:Cx}
noncomputable def PairsAt (K:PySem.W.Frag) (H:Hp):List V→List (Key × V)→Prop:=Paired fun v u=>∃ t,v = .ref t∧SqT K H t [kV u.1,u.2]
noncomputable def rDict (K:PySem.W.Frag):List V→Hp→VK→Prop:=fun xs H Q=>∃ (p:Addr) (vs:List V) (us:List (Key × V)),xs = [.ref p]∧SqL K H p vs∧PairsAt K H vs us∧(us.map (·.1)).Nodup∧∀ l,H l = none→Q (.ref l) (upd H l (.dK us))
theorem pairs_vals {pins:List (Addr × Obj)} {σ:St} {H:Hp} {s:Shared} (I:Inv X pins σ H s) {vs:List V} {us:List (Key × V)} (hp:PairsAt X.K H vs us):∃ kvs:List (Key × Value),KV us kvs∧∀ (i:Nat) v (h:i < kvs.length),vs[i]? = some v→∃ t key,v = .ref t∧(mixKind X.prog X.w).is (kvs[i]).1 key = true∧IsTup s.heap t #[key,(kvs[i]).2]:=by
 induction hp with
 | nil=>exact ⟨[],.nil,fun i v h=>by simp at h⟩
 | @cons v u vs us r t ih =>
  obtain ⟨kvs,h1,h2⟩:=ih
  obtain ⟨tp,rfl,hq⟩:=r
  obtain ⟨its,rv,ht,_⟩:=I.tuple hq
  obtain ⟨k',u',rfl,rk,ru⟩:=rv.two
  refine ⟨(u.1,u') :: kvs,.cons ⟨rfl,ru⟩ h1,fun i w h e=>?_⟩
  cases i with
  | zero =>
   simp at e
   subst e
   exact ⟨tp,k',rfl,kV_is rk,ht⟩
  | succ i=>exact h2 i w (by simpa using h) (by simpa using e)
theorem call_dictJ (hc:X.calm = true):CallR X (.type "dict") (rDict X.K):=by
 intro pins s σ H xs us' Q I r h
 obtain ⟨p,vs,us,rfl,hq,hp,nd,q⟩:=h
 obtain ⟨u,rfl,ru⟩:=r.one
 cases ru
 obtain ⟨its,rv,pl,hz⟩:=I.list hq
 obtain ⟨kvs,hkv,hall⟩:=pairs_vals I hp
 have l1:vs.length = us.length:=hp.length
 have l2:us.length = kvs.length:=hkv.length
 have l3:=rv.length
 obtain ⟨ol,nl,hol,hcl,hdd,hdl⟩:=pl
 have keys:kvs.map (·.1) = us.map (·.1):=hkv.keys.symm
 have key:∀ (i:Nat) (h:i < kvs.length),∃ t key,vs[i]? = some (.ref t)∧its.toArray[i]? = some (.ref t)∧(mixKind X.prog X.w).is (kvs[i]).1 key = true∧IsTup s.heap t #[key,(kvs[i]).2]:=fun i h=>by
  have hv:vs[i]? = some (vs[i]'(by lia)):=by simp
  obtain ⟨t,key,e1,e2,e3⟩:=hall i _ h hv
  obtain ⟨u,hu,ru⟩:=rv.get hv
  rw [e1] at hv ru
  cases ru
  exact ⟨t,key,hv,by simpa using hu,e2,e3⟩
 refine JD.call (knd:=mixKind X.prog X.w) (kvs:=kvs) (items:=its.toArray) (I.ok.hd hc) hol hcl hdl hdd (by lia) (by rw [keys]; exact nd) (by simp; lia) (fun i=>match vs[i]? with | some (.ref t)=>t | _=>0) (fun i h=>?_) (fun i h=>?_) fun h' tk' hd hk=>?_
 ·obtain ⟨t,key,e1,e2,e3,e4⟩:=key i h
  rw [e1]
  exact e2
 ·obtain ⟨t,key,e1,e2,e3,e4⟩:=key i h
  rw [e1]
  exact ⟨key,e3,e4⟩
 ·have hS:(s.heap.objs.size == sysModules) = false:=by
   have:=I.big
   have hne:s.heap.objs.size≠sysModules:=fun z=>by rw [z] at this; exact Nat.lt_irrefl _ this
   simpa using hne
  have hlz:us.length≤sizeLine:=by lia
  refine ⟨.ref s.heap.objs.size,_,I.laid (t':=tk') (o:=.dK us) hk (Nat.le_refl _) ?_,rfl,q _ (I.hok.fresh (Nat.le_refl _))⟩
  exact ⟨hlz,hS,kvs,hkv,hd⟩
end
end L2
namespace J
open PySem PySem.Spec PyProof.Rows L2
section
variable {X:Cx} {a b c e:Expr} {es:List Expr} {m m1 m2 m3:ME} {ms:MA} {p pos pos' p2 apos cpos q npos:Pos} {x:Str}
variable {K:PySem.W.Frag} {N:Addr→Prop} {H:Hp} {σ:L2.St} {v:V} {L:List Addr}
noncomputable def down (lo:Int) (n:Nat):List D:=(List.range n).map fun (k:Nat)=>D.int (lo - (k:Int))
noncomputable def rngD (m1 m2 m3:ME):MI:=fun ρ=>(consM m1 (consM m2 (consM m3 nilM)) ρ).bind fun p=>match p.1 with
 | [.val (.fz (.int i)),.val (.fz (.int j)),.val (.fz (.int k))]=>if k = -1 ∧ -(2 ^ 62)≤i∧i < 2 ^ 62 ∧ -(2 ^ 62)≤j∧j < 2 ^ 62 then some (down i (i - j).toNat,none,p.2) else none
 | _=>none
theorem tI_rngD {R:It→Hp→Prop} (h:tI K (rngD m1 m2 m3) σ H R):iRngD (tA K (consM m1 (consM m2 (consM m3 nilM)))) σ H R:=by
 obtain ⟨ρ,O,fp,rl,ds,n,ρ',e,k⟩:=h
 simp only [rngD,Option.bind_eq_some_iff] at e
 obtain ⟨⟨rs,ρ1⟩,e1,e2⟩:=e
 dsimp only at e2
 split at e2
 ·rename_i i j kk
  split at e2
  ·rename_i hz
   obtain ⟨rfl,z1,z2,z3,z4⟩:=hz
   cases e2
   refine ⟨ρ,O,fp,rl,_,_,e1,fun vs H1 yy=>?_⟩
   obtain ⟨L,fp1,p,q⟩:=yy
   have hs:=p.rel.peeks (rs:=[.val (.fz (.int i)),.val (.fz (.int j)),.val (.fz (.int (-1)))]) (as:=[.fz (.int i),.fz (.int j),.fz (.int (-1))]) q rfl
   obtain ⟨v1,t1,_,rfl,h1,q1⟩:=cons_of hs
   obtain ⟨v2,v3,_,_,rfl,h2,h3⟩:=two_of q1
   cases repInt h1
   cases repInt h2
   cases repInt h3
   refine ⟨i,j,rfl,⟨z1,z2,z3,z4⟩,k _ _ ⟨.val (.fz .non),.non,.fz .non,[],fp1,p.drop0,repFz (K:=K) .non,rfl,rfl,fun N H2 _=>?_⟩⟩
   have hl:(down i (i - j).toNat).length = (i - j).toNat:=by simp [down]
   refine ⟨fun k hk=>by show k < (i - j).toNat; lia,fun k hk=>by show (i - j).toNat≤k; lia,fun k v H' d y e=>?_⟩
   obtain ⟨rfl,rfl⟩:=y
   refine ⟨fun _ _ z=>z,?_⟩
   have hi:k < (i - j).toNat:=by have:=lt_of_get e; lia
   simp only [down,List.getElem?_map,List.getElem?_range hi,Option.map_some,Option.some.injEq] at e
   subst e
   exact .int _
  ·cases e2
 ·cases e2
noncomputable def keyD:D→Option Key
 | .int i=>some (.inl i)
 | .str z=>some (.inr z)
 | _=>none
noncomputable def pairsD:List D→Option (List (Key × D))
 | []=>some []
 | .tup [k,d] :: ds=>(keyD k).bind fun k=>(pairsD ds).map ((k,d) :: ·)
 | _ :: _=>none
noncomputable def dictA:List A→Option A
 | [a]=>(lstA a).bind fun ds=>(pairsD ds).bind fun kvs=>if (kvs.map (·.1)).Nodup then some (.dic kvs) else none
 | _=>none
theorem key_ok {d:D} {k:Key} (r:RepA N H v d) (e:keyD d = some k):v = kV k:=by
 cases d with
 | int i=>simp only [keyD,Option.some.injEq] at e; subst e; cases r; rfl
 | str z=>simp only [keyD,Option.some.injEq] at e; subst e; cases r; rfl
 | _=>simp [keyD] at e
theorem pairs_ok:∀ {vs:List V} {ds:List D} {kvs:List (Key × D)},RepDs N H vs ds→pairsD ds = some kvs→∃ us:List (Key × V),PairsAt K H vs us∧Paired (fun (u:Key × V) (k:Key × D)=>u.1 = k.1∧RepA N H u.2 k.2) us kvs
 | [],[],kvs,_,e=>by
  simp only [pairsD,Option.some.injEq] at e
  subst e
  exact ⟨[],.nil,.nil⟩
 | [],_ :: _,_,q,_=>by simp only [RepDs] at q
 | _ :: _,[],_,q,_=>by simp only [RepDs] at q
 | v :: vs,d :: ds,kvs,q,e=>by
  unfold pairsD at e
  split at e
  ·rename_i h; cases h
  ·rename_i k' d' ds' h
   cases h
   simp only [Option.bind_eq_some_iff,Option.map_eq_some_iff] at e
   obtain ⟨k,e1,kvs',e2,rfl⟩:=e
   obtain ⟨us,h1,h2⟩:=pairs_ok q.2 e2
   have q1:=q.1
   cases q1 with
   | @tup a ws _ hh hz hl hr =>
    obtain ⟨w1,w2,rfl⟩:=len2 hl
    have r1:=hr 0 w1 k' rfl rfl
    have r2:=hr 1 w2 d' rfl rfl
    have ek:=key_ok r1 e1
    refine ⟨(k,w2) :: us,.cons ⟨a,rfl,.inl (.inl ?_)⟩ h1,.cons ⟨rfl,r2⟩ h2⟩
    rw [hh,ek]
  ·cases e
theorem paired_keys {us:List (Key × V)} {kvs:List (Key × D)} (hp:Paired (fun (u:Key × V) (k:Key × D)=>u.1 = k.1∧RepA N H u.2 k.2) us kvs):us.map (·.1) = kvs.map (·.1):=by
 induction hp with
 | nil=>rfl
 | cons r t ih=>rw [List.map_cons,List.map_cons,r.1,ih]
theorem ok_dict:OpN K dictA (rDict K):=by
 intro N H xs as b Q hs e k
 unfold dictA at e
 split at e
 ·rename_i a
  simp only [Option.bind_eq_some_iff] at e
  obtain ⟨ds,e1,kvs,e2,e3⟩:=e
  split at e3
  ·rename_i hn
   cases e3
   obtain ⟨x,L1,rfl,h1⟩:=one_of hs
   obtain ⟨p,vs,rfl,hp,hz,q⟩:=lst_of h1 e1
   obtain ⟨us,g1,g2⟩:=pairs_ok (K:=K) q e2
   refine ⟨p,vs,us,rfl,.inl (.inl hp),g1,by rw [paired_keys g2]; exact hn,fun l hl=>k _ _ ?_⟩
   have sm:=same_updJ (o:=.dK us) hl
   refine ⟨sm,[l],?_,by simp,fun b hb=>by simp at hb; rw [hb]; exact hl⟩
   rw [RepH]
   have hlen:us.length≤sizeLine:=by
    have:=Paired.length g1
    lia
   refine ⟨l,us,rfl,rfl,upd_same,hlen,Paired.mapQ g2 fun u kd r=>⟨r.1,r.2.tr (M:=fun _=>False) (fun _ z=>z.elim) (Same.kept sm) fun b z=>?_⟩⟩
   rcases z with z | z
   ·exact .inl z
   ·simp at z; subst z; exact .inr hl
  ·cases e3
 ·cases e
noncomputable def valD (kvs:List (Key × D)) (k:Key):Option D:=(kvs.find? fun kv=>decide (kv.1 = k)).map (·.2)
theorem val_ok {k:Key} {us:List (Key × V)} {kvs:List (Key × D)} (hp:Paired (fun (u:Key × V) (k:Key × D)=>u.1 = k.1∧RepA N H u.2 k.2) us kvs) {d:D} (e:valD kvs k = some d):∃ v,valV us k = some v∧RepA N H v d:=by
 induction hp with
 | nil=>simp [valD] at e
 | @cons u kd us kvs r t ih =>
  simp only [valD,valV,List.find?_cons] at e ⊢
  by_cases h:kd.1 = k
  ·have h':u.1 = k:=r.1.trans h
   simp only [h,decide_true,Option.map_some,Option.some.injEq] at e
   simp only [h',decide_true,Option.map_some,Option.some.injEq,exists_eq_left']
   subst e
   exact r.2
  ·have h':¬ u.1 = k:=fun z=>h (r.1.symm.trans z)
   simp only [h,decide_false] at e
   simp only [h',decide_false]
   exact ih e
noncomputable def dixA:List A→Option A
 | [.dic kvs,.fz d]=>(keyD d).bind fun k=>(valD kvs k).map A.fz
 | _=>none
theorem ok_dix:OpN K dixA (r2L fun x y H Q=>∃ a v,x = .ref a∧DGet H a y (some v)∧Q v H):=by
 intro N H xs as b Q hs e k
 unfold dixA at e
 split at e
 ·rename_i kvs d
  simp only [Option.bind_eq_some_iff,Option.map_eq_some_iff] at e
  obtain ⟨ky,e1,d',e2,rfl⟩:=e
  obtain ⟨x,y,L1,L2,rfl,h1,h2⟩:=two_of hs
  rw [RepH] at h1
  obtain ⟨a,us,rfl,rfl,ha,hz,hp⟩:=h1
  obtain ⟨_,h2⟩:=repH_fz.mp h2
  cases key_ok h2 e1
  obtain ⟨v,hv,rv⟩:=val_ok hp e2
  refine ⟨_,_,rfl,a,v,rfl,?_,k _ _ (out_fz rv)⟩
  rw [← hv]
  exact DGet.k ha
 ·cases e
theorem je_dix {k:Nat} (hr:Room k X.A) (hs:NoSl b) (ha:JE X a m1) (hb:JE X b m2):JE X (.Subscript a b pos) (opM dixA (m2L m1 m2)):=by
 refine pe_weak (pe_dget (hu_of hr) ha hb hs) fun σ H Q h=>?_
 exact tE.mono (two ok_dix h) fun x H1 h1=>tE.mono h1 fun y H2 h2=>h2
end
section
variable {P:Program} {w:World} {K:PySem.W.Frag} {mg:Str→Option Value} {base:Heap}
theorem fn_ok {x qual:Str} {st:Stmt} {f:Addr} {fd:FuncData} {N ps:List Str} {k:Nat} {m:MS} (F:Fun K x qual st f fd) (S:FnScope N ps (defScope st))
  (hb:∀ (cdv:Value) (A:Around) (outer:List Env) (s:Shared) (H:Hp) (E:XK),Room k (A.deeper (envOfC qual (defScope st) s.heap.objs.size f cdv))→JSs (cxOf CX0 P w K mg base N qual (defScope st) f cdv A outer s H E).nox (defBody st) m) :
  FnOk P w K mg base CX0 (k + 1) f fd ps (spJ K (fnM ps.length N.length m) ps.length):=by
 refine F.ok S (fun vs H Q E h=>?_) fun cdv A outer s H vs Q E hr h=>⟨_,hb cdv A outer s H E hr,?_⟩
 ·obtain ⟨_,_,_,h,_⟩:=h
  exact h
 ·have hl:vs.length = ps.length:=by
   obtain ⟨_,_,_,h,_⟩:=h
   exact h
  have:=body_ok h
  unfold L2.start
  rw [hl]
  exact this
theorem fnM_len {np nn:Nat} {b:MS}:∀ args y,fnM np nn b args = some y→args.length = np:=fun args y e=>by
 unfold fnM at e
 split at e
 ·rename_i h; exact h
 ·cases e
theorem law_sp {Φ:Fn} {H:Hp} {a:Addr} {ns:List Int} {as':List A} {E:XK} (hl:ns.length≤63) (hO:Only H) (hS:SqL K H a (ns.map V.int)) (e : Φ [(.ro,.scr ns)] = some (.fz (.bl true),as')):spJ K Φ 1 [.ref a] H (fun v _=>v = .bl true) E:=by
 refine ⟨[(.ro,.scr ns)],fun _=>False,fun _=>[],rfl,⟨rfl,fun i st b h=>?_,fun _ _=>rfl,fun _=>List.nodup_nil,fun i j p h=>by simp at h,fun i p h=>by simp at h,fun p z=>?_⟩,_,_,e,fun v H' ⟨L,fp',p,q⟩=>?_⟩
 ·cases i with
  | zero =>
   simp at h
   obtain ⟨rfl,rfl⟩:=h
   refine ⟨.ref a,rfl,?_⟩
   rw [RepH]
   refine ⟨a,rfl,rfl,fun H' k=>?_,Nat.le_trans hl (by decide)⟩
   rcases hS with (h | ⟨o,h⟩) | h
   ·rcases hO a with z | ⟨o,xs,z⟩ | ⟨ps,z⟩
    ·rw [z] at h; cases h
    ·rw [z] at h; cases h
    ·rw [z] at h; cases h
   ·exact .inl (.inr ⟨o,k _ _ h⟩)
   ·exact .inr h
  | succ i=>simp at h
 ·rcases z with ⟨i,z⟩ | z
  ·simp at z
  ·exact z.elim
 ·exact repBl q rfl
end
end J
end
section
set_option Elab.async false
set_option linter.all false
set_option maxRecDepth 100000
set_option maxHeartbeats 1000000
namespace J
open PySem PySem.Spec PyProof.Rows L2
noncomputable def moves:List R→Ro→Option (List A × Ro)
 | [],ρ=>some ([],ρ)
 | r :: rs,ρ=>(move ρ r).bind fun p=>(moves rs p.2).map fun q=>(p.1 :: q.1,q.2)
noncomputable def tupV (m:MA):ME:=fun ρ=>(m ρ).bind fun p=>(moves p.1 p.2).bind fun q=>if q.1.length≤LIM then some (.val (mkT q.1),q.2) else none
section
variable {K:PySem.W.Frag} {ρ ρ' ρ1 ρ2:Ro} {σ σ' σ1 σ2:L2.St} {H H' H1 H2:Hp} {O O' N:Addr→Prop} {fp fp' fp1 fp2:Nat→List Addr} {L L1:List Addr}
theorem Post.perm {L':List Addr} (x:Post K O fp H ρ ρ1 σ σ1 L fp1 H1) (h:∀ p,p∈L'↔p∈L) (nd:L'.Nodup):Post K O fp H ρ ρ1 σ σ1 L' fp1 H1:=
 ⟨x.rel.congr fun p=>or_congr Iff.rfl (h p).symm,nd,fun p hp=>x.lo p ((h p).mp hp),fun p hp=>x.new p (hp.imp (h p).mp id),x.kept,x.ln,x.stab⟩
theorem Post.give {i:Nat} {a:A} {v:V} (x:Post K O fp H ρ ρ1 σ σ L fp1 H1) (ha : ρ1[i]? = some (some (.own,a))) (hv : σ[i]? = some (some v)) :
  Post K O fp H ρ (ρ1.set i none) σ σ (L ++ fp1 i) (pt fp1 i []) H1∧RepH K (NN fp1 (ad O L)) H1 v a (fp1 i)∧∀ p,NN (pt fp1 i []) (ad O (L ++ fp1 i)) p↔NN fp1 (ad O L) p:=by
 obtain ⟨v',hv',q⟩:=x.rel.slot i _ _ ha
 rw [hv] at hv'; cases hv'
 have nn:∀ p,NN (pt fp1 i []) (ad O (L ++ fp1 i)) p↔NN fp1 (ad O L) p:=fun p=>by
  constructor
  ·intro z
   rcases z with ⟨j,z⟩ | z | z
   ·rcases mem_pt z with ⟨_,z⟩ | ⟨_,z⟩
    ·simp at z
    ·exact .inl ⟨j,z⟩
   ·exact .inr (.inl z)
   ·rcases List.mem_append.mp z with z | z
    ·exact .inr (.inr z)
    ·exact .inl ⟨i,z⟩
  ·intro z
   rcases z with ⟨j,z⟩ | z | z
   ·by_cases hj:j = i
    ·subst hj; exact .inr (.inr (List.mem_append_right _ z))
    ·exact .inl ⟨j,by rw [pt_ne hj]; exact z⟩
   ·exact .inr (.inl z)
   ·exact .inr (.inr (List.mem_append_left _ z))
 have nd:(L ++ fp1 i).Nodup:=List.nodup_append.mpr ⟨x.nd,x.rel.nd i,fun a ha b hb e=>by subst e; exact x.rel.off i a hb (.inr ha)⟩
 have R:=x.rel.set (i:=i) (s:=none) (o:=some v) (L:=[]) (O':=ad O (L ++ fp1 i)) (lt_of_get ha) (fun p z=>(nn p).mp (.inr z)) (fun p hp=>by simp at hp) List.nodup_nil (fun p hp=>by simp at hp) (fun p hp=>by simp at hp)
  (fun j p hj h z=>by
   rcases z with z | z
   ·exact x.rel.off j p h (.inl z)
   ·rcases List.mem_append.mp z with z | z
    ·exact x.rel.off j p h (.inr z)
    ·exact hj (x.rel.inj j i p h z)) (fun st a e=>by cases e) (fun _=>rfl)
 rw [set_self hv] at R
 refine ⟨⟨R,nd,fun p hp z=>?_,fun p hp=>?_,x.kept,rfl,fun j st a' h n=>?_⟩,q,nn⟩
 ·rcases List.mem_append.mp hp with hp | hp
  ·exact x.lo p hp z
  ·exact x.rel.off i p hp (.inl z)
 ·rcases hp with hp | ⟨j,hp⟩
  ·rcases List.mem_append.mp hp with hp | hp
   ·exact x.new p (.inl hp)
   ·exact x.new p (.inr ⟨i,hp⟩)
  ·rcases mem_pt hp with ⟨_,z⟩ | ⟨_,z⟩
   ·simp at z
   ·exact x.new p (.inr ⟨j,z⟩)
 ·obtain ⟨a2,h2,_,f2⟩:=x.stab j st a' h n
  refine ⟨a2,?_,rfl,f2⟩
  rw [List.getElem?_set_ne]
  ·exact h2
  ·rintro rfl
   rw [ha] at h2; cases h2; exact n rfl
theorem RRs.weak (h:∀ p,O' p→N p):∀ {vs:List V} {rs:List R} {L:List Addr},RRs K N H σ vs rs L→RRs K O' H σ vs rs L
 | [],[],_,q=>q
 | [],_ :: _,_,q=>by simp only [RRs] at q
 | _ :: _,[],_,q=>by simp only [RRs] at q
 | v :: vs,r :: rs,L,q=>by
  simp only [RRs] at q ⊢
  obtain ⟨L1,L2,rfl,h1,h2⟩:=q
  refine ⟨L1,L2,rfl,?_,RRs.weak h h2⟩
  cases r with
  | val a=>exact weakH h h1
  | ref i=>exact h1
theorem moves_post:∀ {rs:List R} {vs:List V} {as:List A} {ρ1 ρ2:Ro} {fp1:Nat→List Addr} {Lacc L:List Addr},Post K O fp H ρ ρ1 σ σ (Lacc ++ L) fp1 H1→RRs K (NN fp1 (ad O (Lacc ++ L))) H1 σ vs rs L→moves rs ρ1 = some (as,ρ2) →
  ∃ L2 fp2,Post K O fp H ρ ρ2 σ σ (Lacc ++ L2) fp2 H1∧RepHs K (NN fp2 (ad O (Lacc ++ L2))) H1 vs as L2∧∀ p,NN fp2 (ad O (Lacc ++ L2)) p↔NN fp1 (ad O (Lacc ++ L)) p
 | [],[],as,ρ1,ρ2,fp1,Lacc,L,x,q,e=>by
  simp only [moves,Option.some.injEq,Prod.mk.injEq] at e
  obtain ⟨rfl,rfl⟩:=e
  simp only [RRs] at q
  subst q
  exact ⟨[],fp1,x,by simp [RepHs],fun p=>Iff.rfl⟩
 | [],_ :: _,_,_,_,_,_,_,_,q,_=>by simp only [RRs] at q
 | _ :: _,[],_,_,_,_,_,_,_,q,_=>by simp only [RRs] at q
 | r :: rs,v :: vs,as,ρ1,ρ2,fp1,Lacc,L,x,q,e=>by
  simp only [RRs] at q
  obtain ⟨L1,L2,rfl,h1,h2⟩:=q
  simp only [moves,Option.bind_eq_some_iff,Option.map_eq_some_iff] at e
  obtain ⟨⟨a,ρ3⟩,e1,⟨as',ρ4⟩,e2,e3⟩:=e
  cases e3
  cases r with
  | val b =>
   simp only [move,Option.some.injEq,Prod.mk.injEq] at e1
   obtain ⟨rfl,rfl⟩:=e1
   rw [← List.append_assoc] at x h1 h2
   obtain ⟨L3,fp3,p3,q3,n3⟩:=moves_post (Lacc:=Lacc ++ L1) x h2 e2
   rw [List.append_assoc] at p3 q3 n3
   refine ⟨L1 ++ L3,fp3,p3,?_,fun p=>by rw [n3 p,List.append_assoc]⟩
   simp only [RepHs]
   exact ⟨L1,L3,rfl,weakH (fun p z=>by have:=(n3 p).mp z; rw [List.append_assoc]; rw [List.append_assoc] at this; exact this) h1,q3⟩
  | ref i =>
   obtain ⟨rfl,hv⟩:=h1
   rw [List.nil_append] at x h2
   simp only [move] at e1
   split at e1
   ·rename_i a' ha
    cases e1
    obtain ⟨g1,g2,g3⟩:=x.give ha hv
    have nd:((Lacc ++ fp1 i) ++ L2).Nodup:=by
     have:=g1.nd
     rw [List.append_assoc] at this ⊢
     exact (List.perm_append_comm.append_left Lacc).nodup this
    have g1':Post K O fp H ρ (ρ1.set i none) σ σ ((Lacc ++ fp1 i) ++ L2) (pt fp1 i []) H1:=g1.perm (fun p=>by simp; exact ⟨fun z=>by rcases z with z | z | z; exact .inl z; exact .inr (.inr z); exact .inr (.inl z),fun z=>by rcases z with z | z | z; exact .inl z; exact .inr (.inr z); exact .inr (.inl z)⟩) nd
    have nn:∀ p,NN (pt fp1 i []) (ad O ((Lacc ++ fp1 i) ++ L2)) p↔NN fp1 (ad O (Lacc ++ L2)) p:=fun p=>by
     rw [← g3 p]
     refine or_congr Iff.rfl (or_congr Iff.rfl ?_)
     simp
     exact ⟨fun z=>by rcases z with z | z | z; exact .inl z; exact .inr (.inr z); exact .inr (.inl z),fun z=>by rcases z with z | z | z; exact .inl z; exact .inr (.inr z); exact .inr (.inl z)⟩
    obtain ⟨L3,fp3,p3,q3,n3⟩:=moves_post (Lacc:=Lacc ++ fp1 i) g1' (RRs.weak (fun p z=>(nn p).mp z) h2) e2
    rw [List.append_assoc] at p3 q3 n3
    refine ⟨fp1 i ++ L3,fp3,p3,?_,fun p=>by rw [n3 p,nn p]; simp⟩
    simp only [RepHs]
    exact ⟨fp1 i,L3,rfl,weakH (fun p z=>(nn p).mp ((n3 p).mp z)) g2,q3⟩
   ·cases e1
theorem tE_tupV {m:MA} {Q:VK} (h:tE K (tupV m) σ H Q):tTup (tA K m) σ H Q:=by
 obtain ⟨ρ,O,fp,rl,x,ρ',e,k⟩:=h
 simp only [tupV,Option.bind_eq_some_iff] at e
 obtain ⟨⟨rs,ρ1⟩,e1,⟨as,ρ2⟩,e2,e3⟩:=e
 split at e3
 ·rename_i hz
  cases e3
  refine ⟨ρ,O,fp,rl,rs,_,e1,fun vs H1 yy=>?_⟩
  obtain ⟨L,fp1,p,q⟩:=yy
  obtain ⟨L2,fp2,p2,q',_⟩:=moves_post (Lacc:=[]) p q e2
  rw [List.nil_append] at p2 q'
  have hl:=q'.len
  refine ⟨by rw [hl]; exact hz,fun a ha=>k _ _ ?_⟩
  have s:=same_updJ (o:=.tup vs) ha
  have q2:RepHs K (NN fp2 (ad O L2)) (upd H1 a (.tup vs)) vs as L2:=q'.tr (M:=fun _=>False) (fun _ z=>z.elim) (Same.kept s) (fun p z=>.inl z) fun _ _ z=>z
  show PostE _ _ _ _ _ _ _ (.val (mkT as)) _ _
  unfold mkT
  split
  ·rename_i ds hd
   obtain ⟨rfl,qd⟩:=q2.fzs hd
   exact ⟨[],fp2,p2.more s List.nodup_nil (fun p hp=>by simp at hp),rrFz (repTup upd_same (by rw [hl]; exact hz) qd)⟩
  ·refine ⟨L2,fp2,p2.more s p2.nd (fun p hp=>.inl hp),?_⟩
   show RepH _ _ _ _ _ _
   rw [RepH]
   exact ⟨a,vs,rfl,upd_same,by rw [hl]; exact hz,q2⟩
 ·cases e3
end
section
variable {X:Cx} {a b c e:Expr} {es:List Expr} {m m1 m2 m3:ME} {ms:MA} {p pos pos' p2 apos cpos q npos:Pos} {x:Str} {K:PySem.W.Frag}
theorem je_tupV {k:Nat} (h:JA X es ms):JE X (.Tuple es k pos) (tupV ms):=pe_weak (pe_tup h) fun _ _ _ h=>tE_tupV h
theorem ok_sub:OpN K subA (r2L (rI0 fun i j=>.int (i - j))):=ok_int20
theorem ok_band:OpN K bandA (r2L (rI0 fun i j=>.int (Builtin.bitAnd i j))):=ok_int20
theorem ok_bor:OpN K borA (r2L (rI0 fun i j=>.int (Builtin.bitOr i j))):=ok_int20
theorem ok_gt:OpN K gtA (r2L (rI0 fun i j=>.bl (decide (j < i)))):=ok_int2b
theorem ok_ge:OpN K geA (r2L (rI0 fun i j=>.bl (decide (j≤i)))):=ok_int2b
end
end J
end
section
set_option linter.all false
set_option maxRecDepth 100000
namespace J
open PySem L2
theorem fzs_map (ds:List D):fzs (ds.map A.fz) = some ds:=by
 induction ds with
 | nil=>rfl
 | cons d ds ih=>simp [fzs,ih]
theorem ers_map (ds:List D):ers (ds.map A.fz) = some ds:=by
 induction ds with
 | nil=>simp [ers]
 | cons d ds ih=>simp [ers,er,ih]
theorem lock_none (ρ:Ro):lock ρ none = ρ:=rfl
theorem unlock_lock (ρ:Ro) (n:Option Nat):unlock ρ (lock ρ n) n = ρ:=by
 cases n with
 | none=>rfl
 | some i =>
  simp only [unlock,lock]
  split
  ·rename_i s e
   apply List.ext_getElem?
   intro j
   by_cases h:j = i
   ·subst h
    have hj:j < ρ.length:=lt_of_get e
    split
    ·rw [List.getElem?_set_self (by simpa using hj),e]
    ·rw [List.getElem?_set_self hj,e]
   ·split
    ·rw [List.getElem?_set_ne (Ne.symm h),List.getElem?_set_ne (Ne.symm h)]
    ·rw [List.getElem?_set_ne (Ne.symm h)]
  ·rename_i e
   split
   ·rename_i st a e'
    rw [e] at e'; cases e'
   ·rfl
theorem compL_of {c:MT} {e:ME} {f:D→D} {g:D→Bool} {ρ:Ro}:∀ {ds:List D},(∀ d∈ds,c (own d :: ρ) = some (g d,own d :: ρ))→(∀ d∈ds,g d = true→∃ r,e (own d :: ρ) = some (r,own d :: ρ)∧share (own d :: ρ) r = some (f d,own d :: ρ))→compL 0 c e ds ρ = some ((ds.filter g).map f,ρ)
 | [],_,_=>rfl
 | d :: ds,hc,he=>by
  have ih:=compL_of (ds:=ds) (fun x hx=>hc x (List.mem_cons_of_mem _ hx)) fun x hx=>he x (List.mem_cons_of_mem _ hx)
  simp only [compL,patB,Option.bind_some,List.map_cons,List.map_nil,List.cons_append,List.nil_append,hc d List.mem_cons_self]
  cases h:g d with
  | true =>
   obtain ⟨r,h1,h2⟩:=he d List.mem_cons_self h
   simp [h1,h2,ih,h]
  | false=>simp [ih,h]
theorem compM_of {it:MI} {c:MT} {e:ME} {f:D→D} {g:D→Bool} {ρ ρ1:Ro} {ds:List D} {n:Option Nat} (hi:it ρ = some (ds,n,ρ1)) (hl:ds.length≤LIM) (hc:∀ d∈ds,c (own d :: lock ρ1 n) = some (g d,own d :: lock ρ1 n))
  (he:∀ d∈ds,g d = true→∃ r,e (own d :: lock ρ1 n) = some (r,own d :: lock ρ1 n)∧share (own d :: lock ρ1 n) r = some (f d,own d :: lock ρ1 n)):compM it 0 c e ρ = some (.val (.lst (((ds.filter g).map f).map A.fz)),ρ1):=by
 simp only [compM,hi,Option.bind_some,hl,if_true,compL_of hc he,Option.map_some,unlock_lock]
theorem compM_map {it:MI} {e:ME} {f:D→D} {ρ ρ1:Ro} {ds:List D} {n:Option Nat} (hi:it ρ = some (ds,n,ρ1)) (hl:ds.length≤LIM)
  (he:∀ d∈ds,∃ r,e (own d :: lock ρ1 n) = some (r,own d :: lock ρ1 n)∧share (own d :: lock ρ1 n) r = some (f d,own d :: lock ρ1 n)):compM it 0 yesT e ρ = some (.val (.lst ((ds.map f).map A.fz)),ρ1):=by
 have:=compM_of (g:=fun _=>true) (c:=yesT) hi hl (fun d _=>rfl) fun d hd _=>he d hd
 rw [List.filter_eq_self.mpr (fun _ _=>rfl)] at this
 exact this
theorem compL_of2 {c:MT} {e:ME} {f:D→D→D} {g:D→D→Bool} {ρ:Ro}:∀ {ds:List (D × D)},(∀ d∈ds,c (own d.1 :: own d.2 :: ρ) = some (g d.1 d.2,own d.1 :: own d.2 :: ρ))→(∀ d∈ds,g d.1 d.2 = true→∃ r,e (own d.1 :: own d.2 :: ρ) = some (r,own d.1 :: own d.2 :: ρ)∧share (own d.1 :: own d.2 :: ρ) r = some (f d.1 d.2,own d.1 :: own d.2 :: ρ))→compL 2 c e (ds.map fun d=>.tup [d.1,d.2]) ρ = some ((ds.filter fun d=>g d.1 d.2).map fun d=>f d.1 d.2,ρ)
 | [],_,_=>rfl
 | d :: ds,hc,he=>by
  have ih:=compL_of2 (ds:=ds) (fun x hx=>hc x (List.mem_cons_of_mem _ hx)) fun x hx=>he x (List.mem_cons_of_mem _ hx)
  simp only [List.map_cons,compL,patB,List.length_cons,List.length_nil,Option.bind_some,List.map_cons,List.map_nil,List.cons_append,List.nil_append,if_true,hc d List.mem_cons_self]
  cases h:g d.1 d.2 with
  | true =>
   obtain ⟨r,h1,h2⟩:=he d List.mem_cons_self h
   simp [h1,h2,ih,h]
  | false=>simp [ih,h]
theorem compM_map2 {it:MI} {e:ME} {f:D→D→D} {ρ ρ1:Ro} {ds:List (D × D)} {n:Option Nat} (hi:it ρ = some (ds.map (fun d=>.tup [d.1,d.2]),n,ρ1)) (hl:ds.length≤LIM)
  (he:∀ d∈ds,∃ r,e (own d.1 :: own d.2 :: lock ρ1 n) = some (r,own d.1 :: own d.2 :: lock ρ1 n)∧share (own d.1 :: own d.2 :: lock ρ1 n) r = some (f d.1 d.2,own d.1 :: own d.2 :: lock ρ1 n)):compM it 2 yesT e ρ = some (.val (.lst ((ds.map fun d=>f d.1 d.2).map A.fz)),ρ1):=by
 have h:=compL_of2 (g:=fun _ _=>true) (c:=yesT) (e:=e) (f:=f) (ds:=ds) (ρ:=lock ρ1 n) (fun d _=>rfl) fun d hd _=>he d hd
 rw [List.filter_eq_self.mpr (fun _ _=>rfl)] at h
 simp only [compM,hi,Option.bind_some,List.length_map,hl,if_true,h,Option.map_some,unlock_lock]
theorem forL_inv {is:List Nat} {one:Bool} {b:MS} (Inv:Nat→Ro→Prop):∀ {ds:List D} {i:Nat} {ρ:Ro},Inv i ρ → (∀ (j:Nat) d ρ,ds[j]? = some d→Inv (i + j) ρ → ∃ ρ1 ρ2,bindS is one d ρ = some ρ1∧(b ρ1 = some (.next ρ2)∨b ρ1 = some (.cnt ρ2))∧Inv (i + j + 1) ρ2)→∃ ρ',forL is one b ds ρ = some (.next ρ')∧Inv (i + ds.length) ρ'
 | [],i,ρ,h0,_=>⟨ρ,rfl,h0⟩
 | d :: ds,i,ρ,h0,hs=>by
  obtain ⟨ρ1,ρ2,h1,h2,h3⟩:=hs 0 d ρ rfl h0
  obtain ⟨ρ',h4,h5⟩:=forL_inv (ds:=ds) (i:=i + 1) (b:=b) (is:=is) (one:=one) Inv h3 fun j d ρ e hI=>by
   have:=hs (j + 1) d ρ (by simpa using e) (by rw [show i + (j + 1) = i + 1 + j by lia]; exact hI)
   rw [show i + (j + 1) + 1 = i + 1 + j + 1 by lia] at this
   exact this
  refine ⟨ρ',?_,by rw [List.length_cons,show i + (ds.length + 1) = i + 1 + ds.length by lia]; exact h5⟩
  rcases h2 with h2 | h2 <;> simp [forL,h1,h2,h4]
theorem forS_inv {is:List Nat} {one:Bool} {it:MI} {b:MS} {ρ ρ1:Ro} {ds:List D} {n:Option Nat} (Inv:Nat→Ro→Prop) (hi:it ρ = some (ds,n,ρ1)) (h0:Inv 0 (lock ρ1 n))
  (hs:∀ (j:Nat) d ρ,ds[j]? = some d→Inv j ρ → ∃ ρ1 ρ2,bindS is one d ρ = some ρ1∧(b ρ1 = some (.next ρ2)∨b ρ1 = some (.cnt ρ2))∧Inv (j + 1) ρ2):∃ ρ',forS is one it b ρ = some (.next (unlock ρ1 ρ' n))∧Inv ds.length ρ':=by
 obtain ⟨ρ',h1,h2⟩:=forL_inv (is:=is) (one:=one) (b:=b) Inv (ds:=ds) (i:=0) h0 fun j d ρ e hI=>by
  rw [Nat.zero_add] at hI ⊢
  exact hs j d ρ e hI
 refine ⟨ρ',?_,by simpa using h2⟩
 simp [forS,hi,h1,unlockF]
theorem up_len (lo:Int) (n:Nat):(upto lo n).length = n:=by simp [upto]
theorem up_get {lo:Int} {n j:Nat} {d:D} (h:(upto lo n)[j]? = some d):d = .int (lo + j)∧j < n:=by
 have hj:j < n:=by have:=lt_of_get h; simpa [upto] using this
 simp only [upto,List.getElem?_map,List.getElem?_range hj,Option.map_some,Option.some.injEq] at h
 exact ⟨h.symm,hj⟩
noncomputable def iL (xs:List Int):List D:=xs.map D.int
theorem iL_flat (xs:List Int):(iL xs).all flatD = true:=by simp [iL,flatD,List.all_eq_true]
theorem inD_iL (x:Int) (xs:List Int):inD (.int x) (iL xs) = decide (x∈xs):=by
 induction xs with
 | nil=>rfl
 | cons y ys ih =>
  have:inD (.int x) (iL (y :: ys)) = (eqD (.int y) (.int x) || inD (.int x) (iL ys)):=rfl
  rw [this,ih]
  simp only [eqD,List.mem_cons]
  by_cases h:y = x
  ·subst h; simp
  ·have h':¬ x = y:=fun z=>h z.symm
   simp [h,h']
theorem bools_map {α:Type} (xs:List α) (f:α → Bool):boolsD (xs.map fun x=>D.bl (f x)) = some (xs.map f):=by
 induction xs with
 | nil=>rfl
 | cons x xs ih=>simp [boolsD,ih]
theorem intsD_iL (xs:List Int):intsD (iL xs) = some xs:=by
 induction xs with
 | nil=>rfl
 | cons x xs ih =>
  simp only [iL,List.map_cons,intsD] at ih ⊢
  rw [ih]; rfl
end J
namespace J
open PySem L2
@[simp] theorem iL_length (xs:List Int):(iL xs).length = xs.length:=by simp [iL]
theorem mem_iL {d:D} {xs:List Int}:d∈iL xs↔∃ i∈xs,d = .int i:=by
 simp only [iL,List.mem_map]
 constructor
 ·rintro ⟨i,h,rfl⟩; exact ⟨i,h,rfl⟩
 ·rintro ⟨i,h,rfl⟩; exact ⟨i,h,rfl⟩
noncomputable def nD:D→Int
 | .int i=>i
 | _=>0
@[simp] theorem nD_int (i:Int):nD (.int i) = i:=rfl
theorem map_iL {β:Type} (f:Int → β) (xs:List Int):(iL xs).map (fun d=>f (nD d)) = xs.map f:=by simp [iL]
end J
namespace J
open PySem L2
theorem seq_next {a b:MS} {ρ ρ1:Ro} (h:a ρ = some (.next ρ1)):seqS a b ρ = b ρ1:=by simp [seqS,h]
theorem seq_ret {a b:MS} {ρ ρ1:Ro} {v:A} (h:a ρ = some (.ret v ρ1)):seqS a b ρ = some (.ret v ρ1):=by simp [seqS,h]
theorem if_t {c:MT} {a b:MS} {ρ ρ1:Ro} (h:c ρ = some (true,ρ1)):ifS c a b ρ = a ρ1:=by simp [ifS,h]
theorem if_f {c:MT} {a b:MS} {ρ ρ1:Ro} (h:c ρ = some (false,ρ1)):ifS c a b ρ = b ρ1:=by simp [ifS,h]
theorem tst_of {m:ME} {ρ ρ1:Ro} {b:Bool} (h:m ρ = some (.val (.fz (.bl b)),ρ1)):tstM m ρ = some (b,ρ1):=by simp [tstM,h,peek,boolA]
theorem not_of {m:MT} {ρ ρ1:Ro} {b:Bool} (h:m ρ = some (b,ρ1)):notT m ρ = some (!b,ρ1):=by simp [notT,h]
theorem ret_of {m:ME} {ρ ρ1:Ro} {a:A} (h:m ρ = some (.val a,ρ1)):retS m ρ = some (.ret a ρ1):=by simp [retS,h,move]
theorem asg_of {m:ME} {ρ ρ1:Ro} {a:A} {i:Nat} (h:m ρ = some (.val a,ρ1)) (hf:free ρ1 i = true):asgS i m ρ = some (.next (ρ1.set i (some (.own,a)))):=by simp [asgS,h,keep,hf]
theorem fn_ret {np nn:Nat} {b:MS} {args:List (Own × A)} {a:A} {ρ:Ro} (hl:args.length = np) (h:b (args.map some ++ List.replicate (nn - np) none) = some (.ret a ρ)):fnM np nn b args = some (a,(ρ.take np).map outA):=by simp [fnM,hl,h]
end J
end
section
set_option Elab.async false
set_option linter.all false
namespace Sg
open PySem
end Sg
end
section
set_option Elab.async false
set_option linter.all false
namespace Sg
open PySem
section
variable {P:Program} {w:World} {A:Around} {E:Value→Shared→Prop} {s:Shared}
end
end Sg
end
section
set_option Elab.async false
set_option linter.all false
set_option maxRecDepth 100000
namespace Sg
open PySem
section
variable {P:Program} {w:World} {A:Around} {E:Value→Shared→Prop}
end
end Sg
end
section
set_option Elab.async false
set_option linter.all false
set_option maxRecDepth 100000
namespace Sg
open PySem
section
variable {P:Program} {w:World} {A:Around} {E:Value→Shared→Prop} {s:Shared}
end
end Sg
end
section
set_option Elab.async false
set_option linter.all false
set_option maxRecDepth 100000
namespace Sg
open PySem
section
variable {P:Program} {w:World} {A:Around} {E:Value→Shared→Prop} {s:Shared}
end
end Sg
end
section
set_option Elab.async false
set_option linter.all false
set_option maxRecDepth 100000
namespace Sg
open PySem
section
variable {P:Program} {w:World} {A:Around} {E:Value→Shared→Prop} {s:Shared}
end
end Sg
end
section
set_option Elab.async false
set_option linter.all false
set_option maxRecDepth 100000
set_option maxHeartbeats 3200000
namespace Sg
open PySem PyProof.Rows
section
variable {P:Program} {w:World} {A:Around} {E:Value→Shared→Prop} {s:Shared}
end
end Sg
end
section
set_option Elab.async false
set_option linter.all false
set_option maxRecDepth 100000
namespace Sg
open PySem PyProof.Rows
section
variable {P:Program} {w:World} {A:Around} {E:Value→Shared→Prop} {s:Shared}
end
end Sg
end
section
set_option Elab.async false
set_option linter.all false
set_option maxRecDepth 100000
set_option maxHeartbeats 1000000
namespace L2
open PySem PySem.Spec PyProof.Rows
section
variable {X:Cx} {pins:List (Addr × Obj)} {σ:St} {H:Hp} {s:Shared} {h':Heap}
theorem Inv.turnedT {t':Nat} {T:Addr} {xs:List V} {ch:List Addr} (I:Inv X pins σ H s) (hf:∀ b∈ch,FpOk X pins H b) (k:∀ b o,b ∉ ch→s.heap.get? b = some o→h'.get? b = some o)
  (hT:s.heap.objs.size≤T) (new:ObjOk X.prog X.w (upd H T (.tup xs)) h' T (.tup xs)):Inv X pins σ (upd H T (.tup xs)) { s with heap:=h',toks:=t' }:=by
 have hn:H T = none:=I.hok.fresh hT
 have nch:∀ b u,H b = some u→b ∉ ch:=fun b u e z=>by rw [(hf b z).1] at e; cases e
 have neT:∀ b u,H b = some u→b≠T:=fun b u e z=>by rw [z,hn] at e; cases e
 refine I.step (g':=s.gens) (d':=s.drawn) (ch:=ch) (fun b hb=>?_) (fun b o _ _ hc e _=>k b o hc e) (fun b o _ _ hc e _=>⟨o.slots,k b o hc e⟩) (fun b o hc e n=>?_)
  (fun b o hc e=>⟨o,k b o hc e⟩) (fun b xs e=>by rw [upd_ne (neT b _ e)]; exact e) (fun b o u e=>by rw [upd_ne (neT b _ e)]; exact e) (fun b ps e=>⟨#[],by rw [upd_ne (neT b _ e),e]; simp⟩) (fun m hm=>?_) (fun b u e=>?_) I.bare
 ·obtain ⟨f0,f1,f2,f3,f4,f5⟩:=hf b hb
  exact ⟨f3,f1,f4,f5⟩
 ·rw [upd_ne (Nat.ne_of_lt (Nat.lt_of_lt_of_le (Heap.lt_size e) hT))]; exact n
 ·obtain ⟨o,es,ep,ho,r⟩:=hm
  exact ⟨o,es,ep,k _ o (fun z=>(hf _ z).2.1 rfl) ho,r⟩
 ·by_cases hb:b = T
  ·subst hb; rw [upd_same] at e; cases e; exact new
  ·rw [upd_ne hb] at e
   refine (I.hok b u e).stay (fun c v hc q=>k c v ?_ q) (fun c q=>by rw [upd_ne (neT c _ q)]; exact q) fun c ys q=>by rw [upd_ne (neT c _ q)]; exact q
   rcases hc with z | z
   ·rw [z]; exact nch b u e
   ·exact nch c _ z
end
noncomputable def Ite (z:Str):It:=⟨fun i _=>i < z.cps.size,fun i H v H'=>∃ c T,z.cps[i]? = some c∧H T = none∧v = .ref T∧H' = upd H T (.tup [.int i,.str ⟨#[c]⟩]),fun i _=>z.cps.size≤i⟩
theorem draws_str {P:Program} {w:World} {A:Around} (hh:A.handled = none) (it:Addr) (z:Str) (t:Tok):Draws P w A it [it] z.cps.size (fun i v=>∃ c u,z.cps[i]? = some c∧v = .str ⟨#[c]⟩ u) (fun i h=>h.IsStrIter it (strIterType z) z t i):=by
 cases ha:z.cps.all (· < 128)
 ·have e:strIterType z = "str_iterator" := by simp [strIterType,ha]
  rw [e]
  exact Draws.strWide hh it z t
 ·have e:strIterType z = "str_ascii_iterator" := by simp [strIterType,ha]
  rw [e]
  exact Draws.strAscii hh it z t
theorem turn_enum {P:Program} {w:World} {K:PySem.W.Frag} {ts:List Expr} {k:Nat} {pos:Pos} (e it:Addr) (hne:e≠it) (z:Str) (t:Tok) :
  Turn P w K (.Tuple ts k pos) (Ite z) [e,it] e (fun i h=>i≤z.cps.size∧(∃ old,IsEnum h e it ((i:Nat):Int) old)∧h.IsStrIter it (strIterType z) z t i) where
 mem:=by simp
 obj:=fun i h st b hb=>by
  obtain ⟨_,⟨old,he⟩,o,ho,c,d⟩:=st
  simp only [List.mem_cons,List.not_mem_nil,or_false] at hb
  rcases hb with rfl | rfl
  ·exact ⟨_,he,fun v q=>by cases q⟩
  ·exact ⟨o,ho,fun v q=>by rw [d] at q; cases q⟩
 keep:=fun i h h' st kk=>by
  obtain ⟨le,⟨old,he⟩,o,ho,r⟩:=st
  exact ⟨le,⟨old,kk e (by simp) _ he⟩,o,kk it (by simp) _ ho,r⟩
 item:=by
  intro X hP hw hK hc i pins s σ H E I hf st hg
  subst hP hw hK
  obtain ⟨le,⟨old,he⟩,hs⟩:=st
  have D:=draws_str (P:=X.prog) (w:=X.w) (A:=X.A.in1) (I.ok.hd hc) it z t
  have elt:e < s.heap.objs.size:=Heap.lt_size he
  have ilt:it < s.heap.objs.size:=by obtain ⟨o,ho,_⟩:=hs; exact Heap.lt_size ho
  refine wpAny_pyNext_enum_itemD D he hs hg hne (by simpa using hne) fun x h1 tk hx ho hs1 hT hsz hk=>?_
  obtain ⟨c,u,hcc,rfl⟩:=hx
  refine ⟨_,rfl,wpAny_letOwnedTupleGo_enum ho fun h2 he2 hs2=>?_⟩
  have hs2':Heap.SameBut e h1 h2:=hs2
  have g2:h2.get? s.heap.objs.size = some { cls:=.type "tuple",data:=.seq #[.int i tk,.str ⟨#[c]⟩ u] }:=(hs2'.2 _ (Nat.ne_of_gt elt)).trans hT
  have I2:Inv X pins σ (upd H s.heap.objs.size (.tup [.int i,.str ⟨#[c]⟩])) { s with heap:=h2,toks:=tk + 1 }:=by
   refine I.turnedT (ch:=[e,it]) hf (fun b o hb q=>?_) (Nat.le_refl _) ?_
   ·simp only [List.mem_cons,List.not_mem_nil,or_false,not_or] at hb
    exact (hs2'.2 b hb.1).trans (hk b o hb.1 hb.2 q)
   ·exact ⟨by show 2≤sizeLine; decide,[.int i tk,.str ⟨#[c]⟩ u],.cons ⟨_,rfl⟩ (.cons ⟨_,rfl⟩ .nil),_,g2,rfl,_,rfl⟩
  refine ⟨.ref s.heap.objs.size,_,I2,rfl,⟨c,_,hcc,I.hok.fresh (Nat.le_refl _),rfl,rfl⟩,⟨hg,⟨_,by simpa using he2⟩,?_⟩,fun b hb=>?_⟩
  ·obtain ⟨o,ho1,r⟩:=hs1
   exact ⟨o,(hs2'.2 it (Ne.symm hne)).trans ho1,r⟩
  ·have hlt:b < s.heap.objs.size:=by
    simp only [List.mem_cons,List.not_mem_nil,or_false] at hb
    rcases hb with rfl | rfl
    ·exact elt
    ·exact ilt
   rw [upd_ne (Nat.ne_of_lt hlt)]
   exact (hf b hb).1
 done:=by
  intro X hP hw hK hc i pins s σ H E I hf st hg
  subst hP hw hK
  obtain ⟨le,⟨old,he⟩,hs⟩:=st
  have D:=draws_str (P:=X.prog) (w:=X.w) (A:=X.A.in1) (I.ok.hd hc) it z t
  have hg':z.cps.size≤i:=hg
  obtain ⟨f0,f1,f2,f3,f4,f5⟩:=hf it (by simp)
  have e0:i = z.cps.size:=by lia
  subst e0
  exact wpAny_pyNext_enum_endD D he hs fun h1 eb=>⟨rfl,I.turned (t':=s.toks) (fun b o hb q=>eb b o hb q) f0 f1 f3 f4 f5⟩
 self:=fun _ _ _ _ _ st h=>by
  obtain ⟨_,⟨old,he⟩,_⟩:=st
  exact wpAny_pyIter_enum he h
section
variable {X:Cx}
noncomputable def iEnum (tl:TA):TI:=fun σ H R=>tl σ H fun vs H1=>∃ z,vs = [.str z]∧R (Ite z) H1
theorem pi_enum {ts:List Expr} {k:Nat} {tpos:Pos} {a:Expr} {ta:TA} {p pos:Pos} (hg:Gl X "enumerate") (hm:X.mg "enumerate" = none) (ha:PA X [a] ta) (hs:starEach [a] X.env = [(false,eval a X.env)]) :
  PI X (.Tuple ts k tpos) (.Call (.Name "enumerate" p) [a] [] pos) (iEnum ta):=by
 intro pins s σ H R I h
 refine Call_ (ld_blt I hg hm boot_enumerate (PyProof.Rows.callWith_type1 (thn (ha pos pins s σ H _ I h) fun us s1 yy=>?_) hs rfl))
 obtain ⟨vs,H1,I1,r1,q1⟩:=yy
 obtain ⟨z,e,q⟩:=q1
 subst e
 obtain ⟨u,rfl,ru⟩:=r1.one
 obtain ⟨t,rfl⟩:=ru
 refine call_enumerate_str fun h1 he hit hsz hk=>?_
 refine wpAny_pyIter_enum he ?_
 have I2:Inv X pins σ H1 { s1 with heap:=h1 }:=I1.kept (t':=s1.toks) hk
 refine ⟨_,[s1.heap.objs.size + 1,s1.heap.objs.size],_,_,H1,rfl,I2,turn_enum _ _ (Nat.succ_ne_self _) z t,⟨Nat.zero_le _,⟨_,he⟩,hit⟩,fun b hb=>?_,q⟩
 simp only [List.mem_cons,List.not_mem_nil,or_false] at hb
 rcases hb with rfl | rfl
 ·exact I1.fpOk (Nat.le_succ _) (I1.hok.fresh (Nat.le_succ _))
 ·exact I1.fpOk (Nat.le_refl _) (I1.hok.fresh (Nat.le_refl _))
end
end L2
namespace J
open PySem PySem.Spec PyProof.Rows L2
section
variable {X:Cx} {a b c e:Expr} {es:List Expr} {m m1 m2 m3:ME} {ms:MA} {p pos pos' p2 apos cpos q npos:Pos} {x:Str}
variable {K:PySem.W.Frag} {N:Addr→Prop} {H:Hp} {σ:L2.St} {v:V} {L:List Addr}
noncomputable def numsD (z:Str):List D:=(List.range z.cps.size).map fun (i:Nat)=>D.tup [.int (i:Int),.str ⟨#[z.cps.getD i 0]⟩]
noncomputable def enumI (m:ME):MI:=fun ρ=>(m ρ).bind fun p=>match p.1 with
 | .val (.fz (.str z))=>if z.length≤LIM then some (numsD z,none,p.2) else none
 | _=>none
theorem tI_enum {R:It→Hp→Prop} (h:tI K (enumI m) σ H R):iEnum (tCons (tE K m) tNil) σ H R:=by
 obtain ⟨ρ,O,fp,rl,ds,n,ρ',e,k⟩:=h
 simp only [enumI,Option.bind_eq_some_iff] at e
 obtain ⟨⟨r,ρ1⟩,e1,e2⟩:=e
 dsimp only at e2
 split at e2
 ·rename_i z
  split at e2
  ·rename_i hz
   cases e2
   refine ⟨ρ,O,fp,rl,_,_,e1,fun v H1 yy=>?_⟩
   obtain ⟨L,fp1,p,q⟩:=yy
   have q':RepH K (NN fp1 (ad O L)) H1 v (.fz (.str z)) L:=q
   rw [RepH] at q'
   obtain ⟨rfl,q'⟩:=q'
   cases q'
   refine ⟨z,rfl,k _ _ ⟨.val (.fz .non),.non,.fz .non,[],fp1,p,repFz (K:=K) .non,rfl,rfl,fun N H2 _=>?_⟩⟩
   have hl:(numsD z).length = z.cps.size:=by simp [numsD]
   refine ⟨fun i hi=>by show i < z.cps.size; lia,fun i hi=>by show z.cps.size≤i; lia,fun i v H' d y e=>?_⟩
   obtain ⟨c,T,hc,hT,rfl,rfl⟩:=y
   have hi:i < z.cps.size:=by have:=lt_of_get e; lia
   have hd:d = .tup [.int i,.str ⟨#[c]⟩]:=by
    have ec:z.cps.getD i 0 = c:=by
     rw [Array.getD_eq_getD_getElem?,hc]; rfl
    simp only [numsD,List.getElem?_map,List.getElem?_range hi,Option.map_some,Option.some.injEq] at e
    rw [← e,ec]
   subst hd
   refine ⟨same_updJ hT,.tup upd_same (by show 2≤sizeLine; decide) rfl fun j v d h1 h2=>?_⟩
   match j with
   | 0=>simp at h1 h2; subst h1 h2; exact .int _
   | 1=>simp at h1 h2; subst h1 h2; exact .str _ (by show 1≤sizeLine; decide)
   | j + 2=>simp at h1
  ·cases e2
 ·cases e2
theorem ji_enum {ts:List Expr} {tk:Nat} {tpos:Pos} (hg:Gl X "enumerate") (hm:X.mg "enumerate" = none) (hs:starEach [a] X.env = [(false,eval a X.env)]) (h:JE X a m):JI X (.Tuple ts tk tpos) (.Call (.Name "enumerate" p) [a] [] pos) (enumI m):=pi_weak (pi_enum hg hm (pa_cons h pa_nil hs) hs) fun _ _ _ h=>tI_enum h
theorem js_asgLc (i:Nat) {y:Str} {py spos:Pos} {scope:Scope} {iter elt:Expr} {ifs:List Expr} {px:Pos} {mi:MI} {mt:MT} (nd:X.N.Nodup) (hiN:X.N[i]? = some y) (hy:X.env.scope.names.lookup y = some .local) (hok:lcOk [x] X.N scope X.env.scope = true) (hc:X.calm = true) (hx:scope.names.lookup x = some .local)
  (hs:∀ z,foldedSetIterable iter X.env z = pure z) (hsw:swapsWith (.ListComp elt [⟨.Name x px,iter,ifs,0⟩] scope pos) (some (.Name y py)) spos.line X.env = pure true) (hi:JI X (.Name x px) iter mi) (ht:JTc X [x] scope ifs mt) (he:JEc X [x] scope elt m) :
  JS X (.Assign [.Name y py] (.ListComp elt [⟨.Name x px,iter,ifs,0⟩] scope pos) spos) (asgS i (compM mi 0 mt m)):=by
 have hnx:x ∉ X.N:=fun hy=>by
  simp only [lcOk,Bool.and_eq_true,List.all_eq_true] at hok
  have:=hok.2 x (by simp)
  simp [hy] at this
 exact ps_weak (ps_setLc (un:=uOne) (te:=tE X.K m) nd hiN hy hc hok hi (fun C s H fp pins=>pgo_name rfl (List.nodup_cons.mpr ⟨hnx,nd⟩) (lookup_relabel_local hx)) ht (fun C s H fp pins=>he C s H fp pins) hs hsw) fun _ _ _ h=>tE_comp (tS_asg h)
end
end J
end
section
set_option Elab.async false
set_option linter.all false
set_option maxRecDepth 100000
set_option maxHeartbeats 1000000
namespace L2
open PySem PySem.Spec PyProof.Rows Sg
section
variable {X:Cx}
end
end L2
namespace J
open PySem PySem.Spec PyProof.Rows L2 Sg
section
variable {X:Cx} {a b c e:Expr} {es:List Expr} {m m1 m2 m3:ME} {ms:MA} {p pos pos' p2 apos cpos q npos:Pos} {x:Str}
variable {K:PySem.W.Frag} {N:Addr→Prop} {H:Hp} {σ:L2.St} {v:V} {L:List Addr}
end
end J
end
section
set_option Elab.async false
set_option linter.all false
set_option maxRecDepth 100000
set_option maxHeartbeats 1000000
namespace J
open PySem PySem.Spec PyProof.Rows L2
section
variable {K:PySem.W.Frag} {ρ ρ' ρ1 ρ2:Ro} {σ σ' σ1 σ2:L2.St} {H H' H1 H2:Hp} {O O' N:Addr→Prop} {fp fp' fp1 fp2:Nat→List Addr} {L L1:List Addr}
end
section
variable {X:Cx} {a b c e:Expr} {es:List Expr} {m m1 m2 m3:ME} {ms:MA} {p pos pos' p2 apos cpos q npos:Pos} {x:Str}
end
end J
end
section
set_option Elab.async false
set_option linter.all false
set_option maxRecDepth 100000
set_option maxHeartbeats 1000000
namespace L2
open PySem PySem.Spec PyProof.Rows
section
variable {P:Program} {w:World} {A:Around} {E:Value→Shared→Prop} {s:Shared}
end
end L2
namespace L2
open PySem PySem.Spec PyProof.Rows
section
variable {X:Cx}
end
end L2
namespace J
open PySem PySem.Spec PyProof.Rows L2
section
variable {X:Cx} {a b c e:Expr} {es:List Expr} {m m1 m2 m3:ME} {ms:MA} {p pos pos' p2 apos cpos q npos:Pos} {x:Str}
variable {K:PySem.W.Frag} {N:Addr→Prop} {H:Hp} {σ:L2.St} {v:V} {L:List Addr}
end
end J
end
section
set_option Elab.async false
set_option linter.all false
namespace Ug
open PySem Sg
section
variable {P:Program} {w:World} {A:Around} {E:Value→Shared→Prop} {s:Shared}
end
end Ug
end
section
set_option Elab.async false
set_option linter.all false
set_option maxRecDepth 100000
namespace Ug
open PySem Sg
section
variable {P:Program} {w:World} {A:Around} {E:Value→Shared→Prop}
end
end Ug
end
section
set_option Elab.async false
set_option linter.all false
set_option maxRecDepth 100000
namespace Ug
open PySem Sg
section
variable {P:Program} {w:World} {A:Around} {E:Value→Shared→Prop} {s:Shared}
end
end Ug
end
section
set_option Elab.async false
set_option linter.all false
set_option maxRecDepth 100000
namespace Ug
open PySem Sg
section
variable {P:Program} {w:World} {A:Around} {E:Value→Shared→Prop} {s:Shared}
end
end Ug
end
section
set_option Elab.async false
set_option linter.all false
set_option maxRecDepth 100000
set_option maxHeartbeats 3200000
namespace Ug
open PySem Sg
section
variable {P:Program} {w:World} {A:Around} {E:Value→Shared→Prop} {s:Shared}
end
end Ug
end
section
set_option Elab.async false
set_option linter.all false
set_option maxRecDepth 100000
namespace Ug
open PySem Sg PyProof.Rows
section
variable {P:Program} {w:World} {A:Around} {E:Value→Shared→Prop} {s:Shared}
end
end Ug
end
section
set_option Elab.async false
set_option linter.all false
set_option maxRecDepth 100000
set_option maxHeartbeats 1000000
namespace L2
open PySem PySem.Spec PyProof.Rows Sg
section
variable {X:Cx}
noncomputable def revS (z:Str):Str:=⟨z.cps.toList.reverse.toArray⟩
theorem rev_made (x:Str) (t tj:Tok):sliceMade x t none none (some (-1,tj)) = .str (revS x):=by
 have e0:slicePicked x none none (some (-1,tj)) = sliceRange ((x.length:Int) - 1) (-1) (-1):=rfl
 have e1:(((some ((-1:Int),tj)).map (·.1)).getD 1 == 1) = false:=rfl
 unfold sliceMade
 rw [e1,e0,Bool.false_and,if_neg Bool.false_ne_true,PySem.W.krv_sliceRange,PySem.W.krv_range,List.filterMap_reverse]
 have:=PySem.W.krv_all x.cps
 unfold revS
 rw [show x.length = x.cps.size from rfl,this]
noncomputable def tRev (te ts:TE):TE:=fun σ H Q=>te σ H fun x H1=>ts σ H1 fun y H2=>∃ z,x = .str z∧y = .int (-1)∧z.length≤sizeLine∧Q (.str (revS z)) H2
theorem pe_rev {e b:Expr} {te ts:TE} {p2 pos:Pos} (he:PE X e te) (hb:PE X b ts):PE X (.Subscript e (.Slice none none (some b) p2) pos) (tRev te ts):=by
 intro pins s σ H Q I h
 refine Subscript_ (thn (he pins s σ H _ I h) fun v s1 yy=>?_)
 obtain ⟨x,H1,I1,r1,q1⟩:=yy
 refine wpAny_Slice ?_
 rw [evalPart_none]
 refine wpAny_pure (wpAny_pure ?_)
 rw [evalPart_some]
 refine thn (hb pins s1 σ H1 _ I1 q1) fun u s3 yy=>?_
 obtain ⟨y,H3,I3,r3,z,rfl,rfl,hz,q⟩:=yy
 obtain ⟨t,rfl⟩:=r1
 obtain ⟨tj,rfl⟩:=r3
 have I4:Inv X pins σ H3 { s3 with heap:=s3.heap.push { cls:=.type "slice",data:=.fields #[.none,.none,.int (-1) tj] } }:=I3.kept (t':=s3.toks) fun b ob q=>Heap.get?_push_of_some _ q
 show wpAny (model X.prog X.w) X.A (subscriptTail e (.Slice none none (some b) p2) (.str z t) (.ref s3.heap.objs.size)) (EP X pins σ Q) X.xe { s3 with heap:=s3.heap.push { cls:=.type "slice",data:=.fields #[.none,.none,.int (-1) tj] } }
 refine tail_any (ops:=[.ref s3.heap.objs.size,.str z t]) (typeIs_str _ _ _) F.slot_str_getitem.lookup ?_ (by with_unfolding_all rfl)
 refine wpAny_getItem_str_slice (l:=none) (u:=none) (st:=some (-1,tj)) ⟨_,Heap.get?_push_size _ rfl,rfl,rfl⟩ rfl ?_
 rw [rev_made]
 have hl:(revS z).length = z.length:=by simp [revS,Str.length]
 exact ⟨by rw [hl]; exact hz,⟨.str _,H3,I4.tok _,⟨_,rfl⟩,q⟩⟩
theorem pe_sl2 {e b c:Expr} {te tb tc:TE} {p2 pos:Pos} (he:PE X e te) (hb:PE X b tb) (hc:PE X c tc):PE X (.Subscript e (.Slice (some b) (some c) none p2) pos) (fun σ H Q=>te σ H fun x H1=>tb σ H1 fun y H2=>tc σ H2 fun z H3=>∃ i j,y = .int i∧z = .int j∧rSlS x (some i) (some j) H3 Q):=by
 intro pins s σ H Q I h
 refine Subscript_ (thn (he pins s σ H _ I h) fun v s1 yy=>?_)
 obtain ⟨x,H1,I1,r1,q1⟩:=yy
 refine wpAny_Slice ?_
 rw [evalPart_some]
 refine thn (hb pins s1 σ H1 _ I1 q1) fun vl s2 yy=>?_
 obtain ⟨y,H2,I2,r2,q2⟩:=yy
 rw [evalPart_some]
 refine thn (hc pins s2 σ H2 _ I2 q2) fun vu s3 yy=>?_
 obtain ⟨z,H3,I3,r3,i,j,rfl,rfl,q3⟩:=yy
 obtain ⟨ti,rfl⟩:=r2
 obtain ⟨tj,rfl⟩:=r3
 rw [evalPart_none]
 refine wpAny_pure ?_
 have I4:Inv X pins σ H3 { s3 with heap:=s3.heap.push { cls:=.type "slice",data:=.fields #[.int i ti,.int j tj,.none] } }:=I3.kept (t':=s3.toks) fun b ob q=>Heap.get?_push_of_some _ q
 obtain ⟨T,id,hT,ht,hg⟩:=sl_str pins { s3 with heap:=s3.heap.push { cls:=.type "slice",data:=.fields #[.int i ti,.int j tj,.none] } } σ H3 x v (.int i ti) (.int j tj) (some i) (some j) s3.heap.objs.size Q I4 r1 (Heap.IsSliceOf.new ..) (.int i ti) (.int j tj) q3
 show wpAny (model X.prog X.w) X.A (subscriptTail e (.Slice (some b) (some c) none p2) v (.ref s3.heap.objs.size)) (EP X pins σ Q) X.xe { s3 with heap:=s3.heap.push { cls:=.type "slice",data:=.fields #[.int i ti,.int j tj,.none] } }
 exact tail_any (ops:=[.ref s3.heap.objs.size,v]) ht hT hg (by with_unfolding_all rfl)
end
end L2
namespace J
open PySem PySem.Spec PyProof.Rows L2 Sg
section
variable {X:Cx} {a b c e:Expr} {es:List Expr} {m m1 m2 m3:ME} {ms:MA} {p pos pos' p2 apos cpos q npos:Pos} {x:Str}
variable {K:PySem.W.Frag} {N:Addr→Prop} {H:Hp} {σ:L2.St} {v:V} {L:List Addr}
theorem three {f:List A→Option A} {r:V→V→V→Hp→VK→Prop} (ok:OpN K f (fun xs H Q=>∃ x y z,xs = [x,y,z]∧r x y z H Q)) {Q:VK} (h:tE K (opM f (consM m1 (consM m2 (consM m3 nilM)))) σ H Q) :
  tE K m1 σ H fun x H1=>tE K m2 σ H1 fun y H2=>tE K m3 σ H2 fun z H3=>r x y z H3 Q:=by
 have h1:=tA_cons (tE_op ok h)
 refine tE.mono h1 fun v H1 h2=>tE.mono (tA_cons h2) fun u H2 h3=>tE.mono (tA_cons h3) fun w H3 h4=>?_
 obtain ⟨x,y,z,e,q⟩:=tA_nil h4
 cases e
 exact q
theorem je_slLH (ha:JE X a m1) (hb:JE X b m2) (hc:JE X c m3):JE X (.Subscript a (.Slice (some b) (some c) none p2) pos) (opM slLoHi (consM m1 (consM m2 (consM m3 nilM)))):=by
 refine pe_weak (pe_sl2 ha hb hc) fun σ H Q h=>?_
 have ok:OpN X.K slLoHi (fun xs H Q=>∃ x y z,xs = [x,y,z]∧∃ i j,y = .int i∧z = .int j∧rSlS x (some i) (some j) H Q):=by
  intro N H xs as b Q hs e k
  unfold slLoHi at e
  split at e
  ·rename_i x i j
   obtain ⟨x,t,L1,rfl,h1,hs⟩:=cons_of hs
   obtain ⟨y,z,L2,L3,rfl,h2,h3⟩:=two_of hs
   cases repInt h2
   cases repInt h3
   exact ⟨_,_,_,rfl,i,j,rfl,rfl,slF_ok h1 e k⟩
  ·cases e
 exact three ok h
noncomputable def revA:List A→Option A
 | [.fz (.str z),.fz (.int i)]=>if i = -1 then some (.fz (.str (revS z))) else none
 | _=>none
theorem je_rev (ha:JE X a m1) (hb:JE X b m2):JE X (.Subscript a (.Slice none none (some b) p2) pos) (opM revA (m2L m1 m2)):=by
 refine pe_weak (pe_rev ha hb) fun σ H Q h=>?_
 have ok:OpN X.K revA (r2L fun x y H Q=>∃ z,x = .str z∧y = .int (-1)∧z.length≤sizeLine∧Q (.str (revS z)) H):=by
  intro N H xs as b Q hs e k
  unfold revA at e
  split at e
  ·rename_i z i
   split at e
   ·rename_i hi
    cases e
    subst hi
    obtain ⟨x,y,L1,L2,rfl,h1,h2⟩:=two_of hs
    cases repInt h2
    obtain ⟨rfl,hz⟩:=repStr h1
    have hl:(revS z).length = z.length:=by simp [revS,Str.length]
    exact ⟨_,_,rfl,z,rfl,rfl,hz,k _ _ (out_str (by rw [hl]; exact hz))⟩
   ·cases e
  ·cases e
 exact two ok h
noncomputable def rngI2 (m1 m2:ME):MI:=fun ρ=>(m2L m1 m2 ρ).bind fun p=>match p.1 with
 | [.val (.fz (.int i)),.val (.fz (.int j))]=>if -(2 ^ 62)≤i∧i < 2 ^ 62 ∧ -(2 ^ 62)≤j∧j < 2 ^ 62 then some (upto i (j - i).toNat,none,p.2) else none
 | _=>none
theorem tI_rng2 {R:It→Hp→Prop} (h:tI K (rngI2 m1 m2) σ H R):iRng2 (tA K (m2L m1 m2)) σ H R:=by
 obtain ⟨ρ,O,fp,rl,ds,n,ρ',e,k⟩:=h
 simp only [rngI2,Option.bind_eq_some_iff] at e
 obtain ⟨⟨rs,ρ1⟩,e1,e2⟩:=e
 dsimp only at e2
 split at e2
 ·rename_i i j
  split at e2
  ·rename_i hz
   cases e2
   refine ⟨ρ,O,fp,rl,_,_,e1,fun vs H1 yy=>?_⟩
   obtain ⟨L,fp1,p,q⟩:=yy
   have hs:=p.rel.peeks (rs:=[.val (.fz (.int i)),.val (.fz (.int j))]) (as:=[.fz (.int i),.fz (.int j)]) q rfl
   obtain ⟨v2,v3,_,_,rfl,h2,h3⟩:=two_of hs
   cases repInt h2
   cases repInt h3
   refine ⟨i,j,rfl,hz,k _ _ ⟨.val (.fz .non),.non,.fz .non,[],fp1,p.drop0,repFz (K:=K) .non,rfl,rfl,fun N H2 _=>?_⟩⟩
   have hl:(upto i (j - i).toNat).length = (j - i).toNat:=by simp [upto]
   refine ⟨fun k hk=>by show k < (j - i).toNat; lia,fun k hk=>by show (j - i).toNat≤k; lia,fun k v H' d y e=>?_⟩
   obtain ⟨rfl,rfl⟩:=y
   refine ⟨fun _ _ z=>z,?_⟩
   have hi:k < (j - i).toNat:=by have:=lt_of_get e; lia
   simp only [upto,List.getElem?_map,List.getElem?_range hi,Option.map_some,Option.some.injEq] at e
   subst e
   exact .int _
  ·cases e2
 ·cases e2
theorem ji_rng2 {tg:Expr} (hg:Gl X "range") (hm:X.mg "range" = none) (hs:starEach [a,b] X.env = [(false,eval a X.env),(false,eval b X.env)]) (hs2:starEach [b] X.env = [(false,eval b X.env)]) (h:JE X a m1) (h':JE X b m2):JI X tg (.Call (.Name "range" p) [a,b] [] pos) (rngI2 m1 m2):=
 pi_weak (pi_range2 hg hm (ja_cons (by rw [hs,hs2]) h (ja_cons hs2 h' ja_nil)) hs hs2) fun _ _ _ h=>tI_rng2 h
end
end J
end
section
set_option Elab.async false
set_option linter.all false
set_option maxRecDepth 100000
set_option maxHeartbeats 4000000
namespace Lm
open PySem PyProof.Rows
noncomputable def ltT (a b:Str):Prop:=a.cps.toList < b.cps.toList
noncomputable def Best (kf:Nat→Str) (n i:Nat):Prop:=∀ j,j < n→¬ ltT (kf j) (kf i)∧(j < i→ltT (kf i) (kf j))
theorem ltT_trans {a b c:Str} (h1:ltT a b) (h2:ltT b c):ltT a c:=List.lt_trans h1 h2
theorem ltT_irr (a:Str):¬ ltT a a:=List.lt_irrefl _
theorem ltT_mix {a b c:Str} (h1:ltT a b) (h2:¬ ltT c b):ltT a c:=by
 have:a.cps.toList < c.cps.toList:=Decidable.byContradiction fun h=>h2 (List.lt_of_le_of_lt (List.not_lt.mp h) h1)
 exact this
noncomputable abbrev Kp (h h':Heap):Prop:=∀ b o,h.get? b = some o→h'.get? b = some o
section
variable {prog:Program} {w:World} {A:Around} {E:Value→Shared→Prop} {s:Shared} {h₀:Heap} {l q I S:Addr} {vs:List Value} {R:Result→Shared→Prop} {Q:Value→Shared→Prop}
noncomputable def Turn (prog:Program) (w:World) (A:Around) (s:Shared) (h₀:Heap) (q:Addr) (vs:List Value) (kf:Nat→Str):Prop:=
 ∀ (i:Nat) (v:Value),vs[i]? = some v→∀ (h:Heap) (tk:Nat),Kp h₀ h→∀ Q':Value→Shared→Prop,(∀ h2 tk2 t2,Kp h h2→Q' (.str (kf i) t2) { s with heap:=h2,toks:=tk2 }) →
  wpAny (model prog w) A (call (.ref q) [v]) Q' (fun _ _=>False) { s with heap:=h,toks:=tk }
theorem best_step {kf:Nat→Str} {i j:Nat} (hb:Best kf (j + 1) i) (hij:i≤j):(ltT (kf (j + 1)) (kf i)→Best kf (j + 1 + 1) (j + 1))∧(¬ ltT (kf (j + 1)) (kf i)→Best kf (j + 1 + 1) i):=by
 constructor
 ·intro h j' hj'
  by_cases e:j' = j + 1
  ·subst e; exact ⟨ltT_irr _,fun z=>absurd z (Nat.lt_irrefl _)⟩
  ·have b:=hb j' (by omega)
   exact ⟨fun z=>b.1 (ltT_trans z h),fun _=>ltT_mix h b.1⟩
 ·intro h j' hj'
  by_cases e:j' = j + 1
  ·subst e; exact ⟨h,fun z=>by omega⟩
  ·exact hb j' (by omega)
theorem loop (kf:Nat→Str) (hh:A.handled = none) (hl:h₀.IsList l vs.toArray) (hlI:l≠I) (hSI:S≠I) (h0S:h₀.get? S = none) (h0I:h₀.get? I = none) (turn:Turn prog w A.in1 s h₀ q vs kf)
  (hR:∀ i v h' tk',vs[i]? = some v→Best kf vs.length i→Kp h₀ h'→R (.ok (.ret v)) { s with heap:=h',toks:=tk' }) :
  ∀ (r j i:Nat) (h:Heap) (tk:Nat) (vb:Value) (tb:Tok) (c:Nat),vs.length - (j + 1) = r→j + 1≤vs.length→Kp h₀ h →
   h.get? S = some (seqObj "list" #[vb,.str (kf i) tb] c)→h.IsListIter I l (j + 1)→vs[i]? = some vb→i≤j→Best kf (j + 1) i →
   codeAny (model prog w) A (.builtin "min.loop" ⟨[.ref I,.ref q,.ref S],[]⟩) R { s with heap:=h,toks:=tk }:=by
 have hname:(toString "min" ++ toString ".loop" : String) = "min.loop" := by decide
 have W:=Walks.list (prog:=prog) (w:=w) (A:=A.in1) hh I l hlI vs.toArray
 have hsz:vs.toArray.size = vs.length:=List.size_toArray ..
 have ne0:∀ {b o},h₀.get? b = some o→b≠S∧b≠I:=fun e=>⟨fun z=>(by rw [z,h0S] at e; cases e),fun z=>(by rw [z,h0I] at e; cases e)⟩
 have lst:∀ {h:Heap},Kp h₀ h→h.IsList l vs.toArray:=fun k=>let ⟨o,e,r⟩:=hl; ⟨o,k _ _ e,r⟩
 intro r
 induction r with
 | zero =>
  intro j i h tk vb tb c hr hj F nS hit hvb hij hbest
  have hin:j + 1 = vs.length:=by omega
  refine codeAny_builtin PySem.F.entry_min_loop ?_
  rw [Around.under_plainId PySem.F.plain_min_loop _]
  show wpAny _ A.in1 (seqItems? (.ref S) >>= _) _ _ _
  refine wpAny_bind (wpAny_seqItems nS rfl ?_)
  show wpAny _ A.in1 (tryCatch (pyNext (.ref I)) _ >>= _) _ _ _
  refine wpAny_bind (wpAny_tryCatch (W.done _ _ _ ⟨by rw [hsz,← hin]; exact hit,lst F⟩ fun h' tk' hk'=>?_))
  have hS':=hk' S _ (by simpa using hSI) nS
  have s1:=Heap.SameBut.update h' S (Obj.mapSeq fun _=>(#[]:Array Value))
  show wpAny _ A.in1 (updateSeq S (fun _=>#[]) >>= _) _ _ _
  refine wpAny_bind ?_
  refine wpAny_updateSeq hS' rfl (wpAny_bind (wpAny_letGo (wpAny_pure ?_)))
  refine hR i vb _ _ hvb (by rw [← hin]; exact hbest) fun b o e=>?_
  obtain ⟨n1,n2⟩:=ne0 e
  exact (s1.2 b n1).trans (hk' b o (by simpa using n2) (F b o e))
 | succ r ih =>
  intro j i h tk vb tb c hr hj F nS hit hvb hij hbest
  have hlt:j + 1 < vs.length:=by omega
  refine codeAny_builtin PySem.F.entry_min_loop ?_
  rw [Around.under_plainId PySem.F.plain_min_loop _]
  show wpAny _ A.in1 (seqItems? (.ref S) >>= _) _ _ _
  refine wpAny_bind (wpAny_seqItems nS rfl ?_)
  show wpAny _ A.in1 (tryCatch (pyNext (.ref I)) _ >>= _) _ _ _
  refine wpAny_bind (wpAny_tryCatch (W.item (j + 1) _ _ _ (by rw [hsz]; exact hlt) ⟨hit,lst F⟩ fun v h' tk' hP hst' hk'=>?_))
  have hv:vs[j + 1]? = some v:=by simpa using hP
  have F1:Kp h₀ h':=fun b o e=>hk' b o (by simpa using (ne0 e).2) (F b o e)
  have nS1:=hk' S _ (by simpa using hSI) nS
  show wpAny _ A.in1 (tryCatch (holding [v] (call (.ref q) [v])) _ >>= _) _ _ _
  refine wpAny_bind (wpAny_tryCatch (wpAny_holding (wpAny_mono (turn (j + 1) v hv h' tk' F1 (fun x s''=>∃ h2 tk2 t2,x = .str (kf (j + 1)) t2∧s'' = { s with heap:=h2,toks:=tk2 }∧Kp h' h2) fun h2 tk2 t2 k2=>⟨h2,tk2,t2,rfl,rfl,k2⟩) (fun x s'' he=>?_) fun _ _ hF=>hF.elim)))
  obtain ⟨h2,tk2,t2,rfl,rfl,k2⟩:=he
  have F2:Kp h₀ h2:=fun b o e=>k2 b o (F1 b o e)
  have nS2:=k2 _ _ nS1
  obtain ⟨oI,hoI,hoc,hod⟩:=id hst'.1
  have hit2:h2.IsListIter I l (j + 1 + 1):=⟨oI,k2 _ _ hoI,hoc,hod⟩
  show wpAny _ A.in1 (tryCatch (holding [v,.str (kf (j + 1)) t2] (richCompare .Lt (.str (kf (j + 1)) t2) (.str (kf i) tb) >>= _)) _ >>= _) _ _ _
  refine wpAny_bind (wpAny_tryCatch (wpAny_holding (wpAny_bind (PyProof.Rows.lt_str ?_))))
  refine wpAny_bind (wpAny_holding (wpAny_truthy_bool ?_))
  refine wpAny_bind (wpAny_letGo (wpAny_pure ?_))
  by_cases hb':(kf (j + 1)).cps.toList < (kf i).cps.toList
  ·have s1:=Heap.SameBut.update h2 S (Obj.mapSeq fun _=>#[v,.str (kf (j + 1)) t2])
   obtain ⟨c2,hc2⟩:∃ c2,(h2.update S (Obj.mapSeq fun _=>#[v,.str (kf (j + 1)) t2])).get? S = some (seqObj "list" #[v,.str (kf (j + 1)) t2] c2):=⟨_,get?_update_seq nS2 fun _=>#[v,.str (kf (j + 1)) t2]⟩
   simp only [hb',decide_true,if_true]
   refine wpAny_bind ?_
   refine wpAny_updateSeq nS2 rfl (wpAny_bind (wpAny_letGo ?_))
   rw [hname]
   exact wpAny_pure ⟨plainId_quiet PySem.F.plain_min_loop _,ih (j + 1) (j + 1) _ _ v t2 c2 (by omega) hlt (fun b o e=>(s1.2 b (ne0 e).1).trans (F2 b o e)) hc2 ⟨oI,(s1.2 I hSI.symm).trans (k2 _ _ hoI),hoc,hod⟩ hv (Nat.le_refl _) ((best_step hbest hij).1 hb')⟩
  ·simp only [hb',decide_false,Bool.false_eq_true,if_false]
   refine wpAny_bind (wpAny_letGo ?_)
   rw [hname]
   exact wpAny_pure ⟨plainId_quiet PySem.F.plain_min_loop _,ih (j + 1) i _ _ vb tb c (by omega) hlt F2 nS2 hit2 hvb (by omega) ((best_step hbest hij).2 hb')⟩
theorem min_key (kf:Nat→Str) (hh:A.handled = none) (hl:s.heap.IsList l vs.toArray) (hne:0 < vs.length) (turn:Turn prog w A.in1 s s.heap q vs kf)
  (hQ:∀ i v h' tk',vs[i]? = some v→Best kf vs.length i→Kp s.heap h'→Q v { s with heap:=h',toks:=tk' }) :
  wpAny (model prog w) A (call (.builtin "min") [.ref l] [(Str.ofString "key",.ref q)]) Q E s:=by
 have hname:(toString "min" ++ toString ".loop" : String) = "min.loop" := by decide
 obtain ⟨ol,hol,_⟩:=id hl
 have hll:l < s.heap.objs.size:=Heap.lt_size hol
 refine kmk_tree PySem.F.kind_min PySem.F.plain_min PySem.F.entry_min (kmk_min_key _ _) ?_
 show wpAny _ A.in1 (Builtin.Builtins.bindParams "min" ["key","default"] 0 ⟨[],[(Str.ofString "key",.ref q)]⟩ >>= _) _ _ s
 refine wpAny_bind (wpAny_of_eq (show Builtin.Builtins.bindParams "min" ["key","default"] 0 ⟨[],[(Str.ofString "key",.ref q)]⟩ = pure [some (.ref q),none] from rfl) ?_)
 refine wpAny_bind (wpAny_pure ?_)
 refine wpAny_bind (wpAny_pyIter_list hl ?_)
 refine wpAny_bind (wpAny_newList ?_ (Nat.zero_le _))
 rw [hname]
 generalize hH:(s.heap.push { cls:=.type "list_iterator",data:=.fields #[.ref l,.int 0 0] }) = H1
 have z1:H1.objs.size = s.heap.objs.size + 1:=by rw [← hH]; exact size_push' ..
 have k1:Kp s.heap H1:=by rw [← hH]; exact fun b o e=>Heap.get?_push_of_some _ e
 have gI0:H1.get? s.heap.objs.size = some { cls:=.type "list_iterator",data:=.fields #[.ref l,.int 0 0] }:=by rw [← hH]; exact Heap.get?_push_size _ rfl
 have hlI:l≠s.heap.objs.size:=Nat.ne_of_lt hll
 have hSI:H1.objs.size≠s.heap.objs.size:=by rw [z1]; exact Nat.ne_of_gt (Nat.lt_succ_self _)
 have h0I:s.heap.get? s.heap.objs.size = none:=Heap.get?_none_of_le (Nat.le_refl _)
 have h0S:s.heap.get? H1.objs.size = none:=Heap.get?_none_of_le (by rw [z1]; exact Nat.le_succ _)
 have gS:(H1.push (seqObj "list" #[] 0)).get? H1.objs.size = some (seqObj "list" #[] 0):=Heap.get?_push_size _ rfl
 have k2:Kp s.heap (H1.push (seqObj "list" #[] 0)):=fun b o e=>Heap.get?_push_of_some _ (k1 b o e)
 have gI:(H1.push (seqObj "list" #[] 0)).get? s.heap.objs.size = some { cls:=.type "list_iterator",data:=.fields #[.ref l,.int 0 0] }:=Heap.get?_push_of_some _ gI0
 refine wpAny_pure ⟨plainId_quiet PySem.F.plain_min_loop _,?_⟩
 have W:=Walks.list (prog:=prog) (w:=w) (A:=A.in1) hh s.heap.objs.size l hlI vs.toArray
 have hsz:vs.toArray.size = vs.length:=List.size_toArray ..
 refine codeAny_builtin PySem.F.entry_min_loop ?_
 rw [Around.under_plainId PySem.F.plain_min_loop _]
 show wpAny _ A.in1 (seqItems? (.ref _) >>= _) _ _ _
 refine wpAny_bind (wpAny_seqItems gS rfl ?_)
 show wpAny _ A.in1 (tryCatch (pyNext (.ref s.heap.objs.size)) _ >>= _) _ _ _
 refine wpAny_bind (wpAny_tryCatch (W.item 0 _ _ _ (by rw [hsz]; exact hne) ⟨⟨_,gI,rfl,rfl⟩,(let ⟨o,e,r⟩:=hl; ⟨o,k2 _ _ e,r⟩)⟩ fun v h' tk' hP hst' hk'=>?_))
 have hv:vs[0]? = some v:=by simpa using hP
 have F1:Kp s.heap h':=fun b o e=>hk' b o (by simpa using Nat.ne_of_lt (Heap.lt_size e)) (k2 b o e)
 have nS1:=hk' _ _ (by simpa using hSI) gS
 obtain ⟨oI',hoI',hoc,hod⟩:=id hst'.1
 show wpAny _ A.in1 (tryCatch (holding [v] (call (.ref q) [v])) _ >>= _) _ _ _
 refine wpAny_bind (wpAny_tryCatch (wpAny_holding (wpAny_mono (turn 0 v hv h' tk' F1 (fun x s''=>∃ h2 tk2 t2,x = .str (kf 0) t2∧s'' = { s with heap:=h2,toks:=tk2 }∧Kp h' h2) fun h2 tk2 t2 k2=>⟨h2,tk2,t2,rfl,rfl,k2⟩) (fun x s'' he=>?_) fun _ _ hF=>hF.elim)))
 obtain ⟨h2,tk2,t2,rfl,rfl,k3⟩:=he
 have nS2:=k3 _ _ nS1
 have s1:=Heap.SameBut.update h2 H1.objs.size (Obj.mapSeq fun _=>#[v,.str (kf 0) t2])
 obtain ⟨c2,hc2⟩:∃ c2,(h2.update H1.objs.size (Obj.mapSeq fun _=>#[v,.str (kf 0) t2])).get? H1.objs.size = some (seqObj "list" #[v,.str (kf 0) t2] c2):=⟨_,get?_update_seq nS2 fun _=>#[v,.str (kf 0) t2]⟩
 show wpAny _ A.in1 (updateSeq H1.objs.size (fun _=>#[v,.str (kf 0) t2]) >>= _) _ _ _
 refine wpAny_bind (wpAny_updateSeq nS2 rfl ?_)
 rw [hname]
 refine wpAny_pure ⟨plainId_quiet PySem.F.plain_min_loop _,?_⟩
 refine loop (s:=s) (h₀:=s.heap) (l:=l) (vs:=vs) kf hh hl hlI hSI h0S h0I turn hQ (vs.length - 1) 0 0 _ _ v t2 c2 rfl hne (fun b o e=>(s1.2 b (fun z=>?_)).trans (k3 b o (F1 b o e))) hc2 ⟨oI',(s1.2 _ hSI.symm).trans (k3 _ _ hoI'),hoc,hod⟩ hv (Nat.le_refl _) fun j hj=>?_
 ·rw [z,h0S] at e; cases e
 ·have:j = 0:=by omega
  subst this
  exact ⟨ltT_irr _,fun z=>absurd z (Nat.lt_irrefl _)⟩
end
end Lm
end
section
set_option Elab.async false
set_option linter.all false
set_option maxRecDepth 100000
set_option maxHeartbeats 4000000
namespace L2
open PySem PySem.Spec PyProof.Rows PySem.W
section
variable {X:Cx} {pins:List (Addr × Obj)} {σ:St} {H:Hp} {s:Shared} {h':Heap}
theorem Inv.tabled {t':Nat} {P c':Addr} {ps:Array Value} (I:Inv X pins σ H s) (eP:H P = some (.tbl ps)) (hx:∀ b o,b≠P→s.heap.get? b = some o→h'.get? b = some o) (hP:∃ o,h'.get? P = some o) (hc:s.heap.objs.size≤c')
  (hok:HOk X.prog X.w (upd H c' (.own P)) h'):Inv X pins σ (upd H c' (.own P)) { s with heap:=h',toks:=t' }:=by
 have hn:H c' = none:=I.hok.fresh hc
 have neP:∀ b,H b = none→b≠P:=fun b e z=>by rw [z,eP] at e; cases e
 have neC:∀ b u,H b = some u→b≠c':=fun b u e z=>by rw [z,hn] at e; cases e
 refine I.step (g':=s.gens) (d':=s.drawn) (ch:=[]) (fun b hb=>by simp at hb) (fun b o _ _ _ e n=>hx b o (neP b n) e) (fun b o _ _ _ e n=>⟨o.slots,hx b o (neP b n) e⟩) (fun b o _ e n=>?_)
  (fun b o _ e=>?_) (fun b xs e=>by rw [upd_ne (neC b _ e)]; exact e) (fun b o u e=>by rw [upd_ne (neC b _ e)]; exact e) (fun b qs e=>⟨#[],by rw [upd_ne (neC b _ e),e]; simp⟩) (fun m hm=>?_) hok I.bare
 ·rw [upd_ne (Nat.ne_of_lt (Nat.lt_of_lt_of_le (Heap.lt_size e) hc))]; exact n
 ·by_cases hb:b = P
  ·rw [hb]; exact hP
  ·exact ⟨o,hx b o hb e⟩
 ·obtain ⟨o,es,ep,ho,r⟩:=hm
  exact ⟨o,es,ep,hx _ o (neP _ I.free) ho,r⟩
theorem among_snoc {pos pos':Pos} {v c:Value} (l:List Value) (h:TriplesOk l) (e:codeAmong pos (l ++ [rawInt pos'.line,rawInt pos'.col,v]) = some c):codeAmong pos l = some c∨c = v:=by
 fun_induction TriplesOk l with
 | case1 =>
  simp only [List.nil_append,codeAmong,rawInt] at e
  split at e
  ·exact .inr (Option.some.inj e).symm
  ·cases e
 | case2 a t b u x rest ih =>
  simp only [List.cons_append,codeAmong] at e ⊢
  split at e
  ·rename_i q
   rw [if_pos q]; exact .inl e
  ·rename_i q
   rw [if_neg q]; exact ih h e
 | case3=>exact h.elim
theorem hok_tabled {P:Program} {w:World} {h h':Heap} {b c':Addr} {ps qs:Array Value} {pos:Pos} {q:Str} (hok:HOk P w H h) (eP:H b = some (.tbl ps)) (gP:h.get? b = some { cls:=.none,data:=.fields qs }) (tr:TriplesOk qs.toList)
  (hx:∀ a o,a≠b→h.get? a = some o→h'.get? a = some o) (hP:h'.get? b = some { cls:=.none,data:=.fields (qs ++ #[rawInt pos.line,rawInt pos.col,.ref c']) }) (hc:h.objs.size≤c') (hr:h'.CodeRec (.ref c') q) (hq:ps[0]? = some (.str q 0)) :
  HOk P w (upd H c' (.own b)) h':=fun a u e=>by
 have hn:H c' = none:=hok.fresh hc
 have neC:∀ a u,H a = some u→a≠c':=fun a u e z=>by rw [z,hn] at e; cases e
 obtain ⟨c2,oc,vs,t,e2,g1,g2,g3⟩:=hr
 cases e2
 by_cases ha:a = c'
 ·subst ha; rw [upd_same] at e; cases e; exact ⟨oc,g1⟩
 ·rw [upd_ne ha] at e
  by_cases hb:a = b
  ·subst hb
   rw [eP] at e; cases e
   obtain ⟨qs',gP',_,f⟩:=hok a _ eP
   rw [gP] at gP'; cases gP'
   refine ⟨_,hP,by rw [Array.toList_append]; exact TriplesOk_snoc _ _ _ _ tr,fun pos' c hcc=>?_⟩
   rw [Array.toList_append] at hcc
   rcases among_snoc _ tr hcc with z | z
   ·obtain ⟨c3,oc3,vs3,t3,q3,f1,f2,f3,f4⟩:=f pos' c z
    have nb:c3≠a:=fun z=>by rw [z,eP] at f2; cases f2
    exact ⟨c3,oc3,vs3,t3,q3,f1,by rw [upd_ne (neC _ _ f2)]; exact f2,hx _ _ nb f3,f4⟩
   ·exact ⟨c',oc,vs,t,q,z,upd_same,g1,g2,g3,hq⟩
  ·refine (hok a u e).stay (fun d v hd q=>hx d v (fun z=>?_) q) (fun d q=>by rw [upd_ne (neC d _ q)]; exact q) fun d xs q=>by rw [upd_ne (neC d _ q)]; exact q
   rcases hd with hd | hd
   ·exact hb (hd ▸ z)
   ·rw [z,eP] at hd; cases hd
noncomputable abbrev lamO (params:Arguments) (body:Expr) (scope:Scope) (cl:List (Str × Addr)) (pm:Value) (c':Addr) (ctv:Value):Obj:=kla_obj "<lambda>" lamQual params body scope cl pm c' ctv
theorem lam_make {params:Arguments} {body:Expr} {scope:Scope} {pos:Pos} {c P:Addr} {cl:List (Str × Addr)} {Q:Value→Shared→Prop} (I:Inv X pins σ H s) (hcode:X.env.code = .ref c) (ht:tabIn X.K lamDef = some (c,P)) (hh:codeHdIn X.K c P = true)
  (hq:X.env.qual ++ "<lambda>" = lamQual) (hdef:defaultsOf params X.env = ([],[])) (hcl:closureFor scope X.env = pure cl)
  (h:∀ f c' pm ctv h' tk H2,Inv X pins σ H2 { s with heap:=h',toks:=tk }→Same H H2→h'.get? f = some (lamO params body scope cl pm c' ctv)→h'.CodeRec (.ref c') lamQual→Q (.ref f) { s with heap:=h',toks:=tk }) :
  wpAny (model X.prog X.w) X.A (eval (.Lambda params body scope pos) X.env) Q X.xe s:=by
 obtain ⟨ps,eP,e0⟩:=I.tabs c P ht
 obtain ⟨qs,gP,tr,fc⟩:=I.hok P _ eP
 have C:CodeHd s.heap c P:=codeHd_of_K I.kIn hh
 obtain ⟨bm,ob,b1,b2,b3,b4,b5,b6⟩:=I.mod.bmain
 have g3:=I.bk _ _ b3
 have hgs:s.heap.Ns mainGlobals X.mg:=I.mod.glob.keeps I.bk
 have hgP:mainGlobals≠P:=fun q=>by
  obtain ⟨o,es,ep,e,hd,_⟩:=hgs
  rw [q,gP] at e; cases e; cases hd
 have hbP:bm≠P:=fun q=>by rw [q,gP] at g3; cases g3; cases b4
 have hbG:bm≠mainGlobals:=fun q=>by
  obtain ⟨o,es,ep,e,hd,_⟩:=hgs
  rw [q,e] at g3; cases g3; rw [hd] at b6; cases b6
 have hba:s.heap.BuiltinsAt X.mg P:=⟨bm,ob,b1,b2,hbG,hbP,g3,b4,b5,b6⟩
 refine kla_eval hdef ?_
 rw [hq]
 cases hnf:codeAmong pos qs.toList with
 | none =>
  refine kla_makeFunction hcl I.ok.glob hgs hcode C gP tr hnf hgP hba fun c' ctv h1 tk hx hge hlt hrec htb=>?_
  have ok2:=hok_tabled (q:=lamQual) I.hok eP gP tr hx htb hge hrec e0
  have I2:=I.tabled (t':=tk) eP hx ⟨_,htb⟩ hge ok2
  have I3:Inv X pins σ (upd H c' (.own P)) { s with heap:=h1.push (lamO params body scope cl ((X.mg "__name__").getD .none) c' ctv),toks:=tk }:=I2.kept (t':=tk) fun b o e=>Heap.get?_push_of_some _ e
  refine h _ c' _ ctv _ tk _ I3 (J.same_updJ (I.hok.fresh hge)) (Heap.get?_push_size _ rfl) ?_
  obtain ⟨c2,oc,vs,t,e1,e2,e3⟩:=hrec
  exact ⟨c2,oc,vs,t,e1,Heap.get?_push_of_some _ e2,e3⟩
 | some cv =>
  obtain ⟨c',oc,vs,t,q,rfl,f2,f3,f4,f5,f6⟩:=fc pos cv hnf
  rw [e0] at f6
  have hqq:q = lamQual:=by
   have:=Option.some.inj f6
   cases this; rfl
  subst hqq
  refine kla_makeFunctionHit hcl I.ok.glob hgs hcode C gP tr hnf hba fun ctv h1 tk hk hsz=>?_
  have I3:Inv X pins σ H { s with heap:=h1.push (lamO params body scope cl ((X.mg "__name__").getD .none) c' ctv),toks:=tk }:=I.kept (t':=tk) fun b o e=>Heap.get?_push_of_some _ (hk b o e)
  exact h _ c' _ ctv _ tk _ I3 (fun _ _ e=>e) (Heap.get?_push_size _ rfl) ⟨c',oc,vs,t,rfl,Heap.get?_push_of_some _ (hk _ _ f3),f4,f5⟩
end
theorem lam_call {prog:Program} {w:World} {A:Around} {E:Value→Shared→Prop} {s:Shared} {Q:Value→Shared→Prop} {f c' cr:Addr} {x y:Str} {p1 p2 p3:Pos} {params:Arguments} {scope:Scope} {pm ctv:Value} {z:Str} {t ti:Tok} {i:Int} {c:Nat}
  (hroom:A.depth < recursionLimit) (hnl:s.heap.NoLimit) (ho:s.heap.get? f = some (lamO params (.Subscript (.Name x p1) (.Name y p2) p3) scope [(x,cr)] pm c' ctv)) (hcd:s.heap.CodeRec (.ref c') lamQual) (hcell:s.heap.IsCell cr (some (.str z t)))
  (hbind:∀ v,bindArgs (kla_fn "<lambda>" lamQual params (.Subscript (.Name x p1) (.Name y p2) p3) scope [(x,cr)] pm (.ref c') ctv) ⟨[v],[]⟩ = pure [(y,v)]) (hk:scope.kind = .function) (hco:scope.isCoroutine = false) (hgen:scope.isGenerator = false)
  (hcl:∀ n∈scope.names,n.2 ≠ .cell) (hx:scope.names.lookup x = some .free) (hy:scope.names.lookup y = some .local) (dx:(x == ("__debug__" : Str)) = false) (dy:(y == ("__debug__" : Str)) = false) (dc:(x == ("__classdict__" : Str)) = false)
  (hz:z.length≤sizeLine) (hi:atI z.cps.toList i = some c) (hQ:∀ h' tk t',Lm.Kp s.heap h'→Q (.str ⟨#[c]⟩ t') { s with heap:=h',toks:=tk }) :
  wpAny (model prog w) A (call (.ref f) [.int i ti]) Q E s:=by
 refine wpAny_call (kla_callFunE hroom ho rfl hco hgen rfl hcd ?_)
 rw [hbind]
 refine wpAny_pure (wpAny_newFunctionEnv hcl (fun b hb=>by simp at hb; rw [hb]; exact hy) (fun h1 hns hsb=>⟨?_,?_⟩) hk)
 ·exact hnl.fresh _ hsb
 have k1:Lm.Kp s.heap h1:=fun b o e=>hsb.extBut b o (Nat.ne_of_lt (Heap.lt_size e)) (Heap.get?_push_of_some _ e)
 refine kla_codeExpr ?_
 refine Subscript_ (wpAny_Name (wpAny_loadName_free hk hx (show List.lookup x [(x,cr)] = some cr by simp) (let ⟨o,e,d⟩:=hcell; ⟨o,k1 _ _ e,d⟩) ?_ dc) dx)
 refine wpAny_Name (wpAny_loadName_local (v:=.int i ti) hk hy hns (by simp) ?_) dy
 obtain ⟨j,h1',h2,h3,h4,h5⟩:=atI_get hi
 have hl:z.cps.toList.length = z.length:=by simp [Str.length]
 rw [hl] at h1' h4 h5
 have hn:=line63
 exact tail_any (typeIs_str _ z t) slot_str_getitem.lookup (getItem_str (c:=c) (by
  have e1:decide (i < -(2 ^ 63:Int)) = false:=decide_eq_false (by lia)
  have e2:decide (i ≥ 2 ^ 63) = false:=decide_eq_false (by lia)
  rw [e1,e2,Bool.or_false]) (by rw [h1']; simpa using h2) (hQ _ _ _ k1)) rfl
end L2
namespace L2
open PySem PySem.Spec PyProof.Rows PySem.W
noncomputable def cAt (z:Str) (n:Int):Nat:=(atI z.cps.toList n).getD 0
noncomputable def rMin (K:PySem.W.Frag):R2:=fun x y H Q=>∃ a ns z,x = .ref a∧y = .str z∧SqL K H a (ns.map V.int)∧ns≠[]∧z.length≤sizeLine∧(∀ n∈ns,∃ c,atI z.cps.toList n = some c) ∧
 ∀ H2 (j:Nat) n,Same H H2→ns[j]? = some n→Lm.Best (fun j=>⟨#[cAt z (ns.getD j 0)]⟩) ns.length j→Q (.int n) H2
noncomputable def tMin (K:PySem.W.Frag) (te:TE) (i:Nat):TE:=fun σ H Q=>te σ H fun x H1=>∃ y,σ[i]? = some (some y)∧rMin K x y H1 Q
theorem SqL.same {K:PySem.W.Frag} {H H2:Hp} {a:Addr} {xs:List V} (h:SqL K H a xs) (sm:Same H H2):SqL K H2 a xs:=by
 rcases h with (h | ⟨o,h⟩) | h
 ·exact .inl (.inl (sm _ _ h))
 ·exact .inl (.inr ⟨o,sm _ _ h⟩)
 ·exact .inr h
noncomputable def oneQ (Q:VK):List V→Hp→Prop
 | [v],H=>Q v H
 | _,_=>False
theorem oneQ_of {Q:VK} {vs:List V} {H:Hp} (h:oneQ Q vs H):∃ v,vs = [v]∧Q v H:=by
 match vs,h with
 | [v],h=>exact ⟨v,rfl,h⟩
theorem pe_minL {X:Cx} {e:Expr} {te:TE} {i k:Nat} {x y:Str} {p p1 p2 p3 lp kp pos:Pos} {params:Arguments} {scope:Scope} {c P cr:Addr} (hc:X.calm = true) (hr:Room k X.A) (hcode:X.env.code = .ref c) (ht:tabIn X.K lamDef = some (c,P)) (hh:codeHdIn X.K c P = true)
  (hg:Gl X "min") (hm:X.mg "min" = none) (hN:X.N[i]? = some x) (hkx:X.env.kindOf x = some .cell) (hcl:closureFor scope X.env = pure [(x,cr)]) (hcr:X.env.cells.lookup x = some cr) (hq:X.env.qual ++ "<lambda>" = lamQual) (hdef:defaultsOf params X.env = ([],[]))
  (hbind:∀ pm c' ctv v,bindArgs (kla_fn "<lambda>" lamQual params (.Subscript (.Name x p1) (.Name y p2) p3) scope [(x,cr)] pm (.ref c') ctv) ⟨[v],[]⟩ = pure [(y,v)]) (hk:scope.kind = .function) (hco:scope.isCoroutine = false) (hgen:scope.isGenerator = false)
  (hnc:∀ n∈scope.names,n.2 ≠ .cell) (hx:scope.names.lookup x = some .free) (hy:scope.names.lookup y = some .local) (dx:(x == ("__debug__" : Str)) = false) (dy:(y == ("__debug__" : Str)) = false) (dc:(x == ("__classdict__" : Str)) = false)
  (hs:starEach [e] X.env = [(false,eval e X.env)]) (he:PE X e te) :
  PE X (.Call (.Name "min" p) [e] [⟨some "key",.Lambda params (.Subscript (.Name x p1) (.Name y p2) p3) scope lp,kp⟩] pos) (tMin X.K te i):=by
 intro pins s σ H Q I h
 refine wpAny_Call_Name_kw (ld_blt I hg hm PyProof.Rows.Boot.«min» ?_ (by decide) (by decide))
 refine callWith_kw ?_ (by rw [hs]; rfl) (by rw [hs]; rfl) rfl rfl
 refine thn (pa_cons he pa_nil hs pos pins s σ H (oneQ fun v H1=>∃ y,σ[i]? = some (some y)∧rMin X.K v y H1 Q) I h) fun us s1 yy=>?_
 obtain ⟨vs,H1,I1,r1,q1⟩:=yy
 obtain ⟨v,e1,q1⟩:=oneQ_of q1
 subst e1
 obtain ⟨w,e2,a,ns,z,rfl,rfl,hq1,hne,hz,hin,fin⟩:=q1
 obtain ⟨u,rfl,ru⟩:=r1.one
 cases ru
 refine kws_cons (lam_make I1 hcode ht hh hq hdef hcl fun f c' pm ctv h2 tk H2 I2 sm ho hcd=>kws_nil ?_)
 show wpAny _ X.A (call (.builtin "min") [.ref a] [(Str.ofString "key",.ref f)]) _ _ _
 obtain ⟨its,rv,pl,hzl⟩:=I2.list (hq1.same sm)
 have hlen:=rv.length
 rw [List.length_map] at hlen
 obtain ⟨m,hn,hl⟩:=I2.loc
 obtain ⟨uz,rz,lk⟩:=hl i x (.str z) hN e2 (.inr (.inl hkx))
 obtain ⟨tz,rfl⟩:=rz
 have hcell:h2.IsCell cr (some (.str z tz)):=by
  rcases lk with ⟨z1,_⟩ | ⟨_,c2,e3,e4⟩
  ·rw [hkx] at z1; cases z1
  ·rw [hcr] at e3; cases e3; exact e4
 refine Lm.min_key (fun j=>⟨#[cAt z (ns.getD j 0)]⟩) (I2.ok.hd hc) pl.isList (by rw [← hlen]; exact List.length_pos_iff.mpr hne) (fun j v hj h3 tk3 k3 Q' hQ'=>?_) fun j v h3 tk3 hj hb k3=>?_
 ·obtain ⟨n,hn1,hn2⟩:∃ n,ns[j]? = some n∧∃ t,v = .int n t:=by
   have hjl:j < ns.length:=by rw [hlen]; exact (List.getElem?_eq_some_iff.mp hj).1
   have e5:(ns.map V.int)[j]? = some (.int ns[j]):=by rw [List.getElem?_map,List.getElem?_eq_getElem hjl]; rfl
   obtain ⟨u,hu,ru⟩:=rv.get e5
   rw [hj] at hu; cases hu
   obtain ⟨t,rfl⟩:=ru
   exact ⟨_,List.getElem?_eq_getElem hjl,t,rfl⟩
  obtain ⟨t,rfl⟩:=hn2
  obtain ⟨ch,hch⟩:=hin n (List.mem_of_getElem? hn1)
  have ek:(⟨#[cAt z (ns.getD j 0)]⟩:Str) = ⟨#[ch]⟩:=by
   simp only [cAt,List.getD_eq_getElem?_getD,hn1,Option.getD_some,hch]
  dsimp only at hQ'
  rw [ek] at hQ'
  obtain ⟨o1,o2,o3⟩:=hcell
  obtain ⟨d1,d2,d3,d4,d5,d6,d7⟩:=hcd
  exact lam_call (s:={ s1 with heap:=h3,toks:=tk3 }) (by have:=hr.dp; show X.A.in1.depth < _; simp; lia) (I2.nolimit.keeps k3) (k3 _ _ ho) ⟨d1,d2,d3,d4,d5,k3 _ _ d6,d7⟩ ⟨o1,k3 _ _ o2,o3⟩ (hbind pm c' ctv) hk hco hgen hnc hx hy dx dy dc hz hch fun h4 tk4 t4 k4=>hQ' h4 tk4 t4 k4
 ·have hjl:j < ns.length:=by rw [hlen]; exact (List.getElem?_eq_some_iff.mp hj).1
  have e5:(ns.map V.int)[j]? = some (.int ns[j]):=by rw [List.getElem?_map,List.getElem?_eq_getElem hjl]; rfl
  obtain ⟨u,hu,ru⟩:=rv.get e5
  rw [hj] at hu; cases hu
  rw [← hlen] at hb
  exact ⟨.int ns[j],H2,I2.kept (t':=tk3) k3,ru,fin H2 j _ sm (List.getElem?_eq_getElem hjl) hb⟩
end L2
end
section
set_option Elab.async false
set_option linter.all false
set_option maxRecDepth 100000
set_option maxHeartbeats 1000000
namespace J
open PySem PySem.Spec PyProof.Rows L2 PySem.W
noncomputable def cmin (z:Str):Int→List Int→Int
 | b,[]=>b
 | b,n :: ns=>if cAt z n < cAt z b then cmin z n ns else cmin z b ns
theorem lt_ch (a b:Nat):Lm.ltT ⟨#[a]⟩ ⟨#[b]⟩↔a < b:=by
 show ([a] < [b])↔a < b
 rw [List.cons_lt_cons_iff]
 constructor
 ·rintro (h | ⟨_,h⟩)
  ·exact h
  ·exact absurd h (List.not_lt_nil _)
 ·intro h; exact .inl h
theorem best_uniq {kf:Nat→Str} {n i j:Nat} (hi:Lm.Best kf n i) (hj:Lm.Best kf n j) (h1:i < n) (h2:j < n):i = j:=by
 rcases Nat.lt_trichotomy i j with h | h | h
 ·exact absurd ((hj i h1).2 h) (hi j h2).1
 ·exact h
 ·exact absurd ((hi j h2).2 h) (hj i h1).1
theorem cmin_best (z:Str) (l:List Int):∀ (ns:List Int) (m i:Nat),l.drop (m + 1) = ns→m + 1≤l.length→i≤m→Lm.Best (fun j=>⟨#[cAt z (l.getD j 0)]⟩) (m + 1) i→∃ j,j < l.length∧l.getD j 0 = cmin z (l.getD i 0) ns∧Lm.Best (fun j=>⟨#[cAt z (l.getD j 0)]⟩) l.length j:=by
 intro ns
 induction ns with
 | nil =>
  intro m i hd hm hi hb
  have:l.length≤m + 1:=List.drop_eq_nil_iff.mp hd
  have e:m + 1 = l.length:=by lia
  exact ⟨i,by lia,rfl,by rw [← e]; exact hb⟩
 | cons n ns ih =>
  intro m i hd hm hi hb
  have hl:m + 1 < l.length:=by
   by_cases q:m + 1 < l.length
   ·exact q
   ·rw [List.drop_eq_nil_iff.mpr (by lia)] at hd; cases hd
  rw [List.drop_eq_getElem_cons hl] at hd
  have e1:=(List.cons.inj hd).1
  have e2:=(List.cons.inj hd).2
  have eg:l.getD (m + 1) 0 = n:=by rw [List.getD_eq_getElem?_getD,List.getElem?_eq_getElem hl]; exact e1
  have bs:=Lm.best_step hb hi
  simp only [lt_ch,eg] at bs
  by_cases hc:cAt z n < cAt z (l.getD i 0)
  ·obtain ⟨j,j1,j2,j3⟩:=ih (m + 1) (m + 1) e2 hl (Nat.le_refl _) (bs.1 hc)
   exact ⟨j,j1,by rw [j2,eg,cmin,if_pos hc],j3⟩
  ·obtain ⟨j,j1,j2,j3⟩:=ih (m + 1) i e2 hl (by lia) (bs.2 hc)
   exact ⟨j,j1,by rw [j2,cmin,if_neg hc],j3⟩
theorem cmin_eq {z:Str} {b:Int} {ns:List Int} {j:Nat} {n:Int} (h:(b :: ns)[j]? = some n) (hb:Lm.Best (fun j=>⟨#[cAt z ((b :: ns).getD j 0)]⟩) (b :: ns).length j):n = cmin z b ns:=by
 obtain ⟨i,i1,i2,i3⟩:=cmin_best z (b :: ns) ns 0 0 rfl (by simp) (Nat.le_refl _) (fun k hk=>by
  have:k = 0:=by lia
  subst this
  exact ⟨Lm.ltT_irr _,fun q=>absurd q (Nat.lt_irrefl _)⟩)
 have hj:j < (b :: ns).length:=(List.getElem?_eq_some_iff.mp h).1
 have e:=best_uniq hb i3 hj i1
 subst e
 rw [List.getD_eq_getElem?_getD,h] at i2
 exact i2
section
variable {X:Cx} {a b c e:Expr} {es:List Expr} {m m1 m2 m3:ME} {ms:MA} {p pos pos' p1 p2 p3 lp kp:Pos} {x y:Str}
variable {K:PySem.W.Frag} {N:Addr→Prop} {H:Hp} {σ:L2.St} {v:V} {L:List Addr}
noncomputable def minKA:List A→Option A
 | [a,b]=>(strU b).bind fun z=>(lstA a).bind fun ds=>(intsD ds).bind fun ns=>if (ns.all fun n=>decide (0≤n) && decide (n < z.length)) && !ns.isEmpty then some (.fz (.int (cmin z (ns.headD 0) ns.tail))) else none
 | _=>none
theorem at_nat {α:Type} (l:List α) (k:Nat) (h:k < l.length):atI l (k:Int) = some l[k]:=by simp [atI,ixN,h]
theorem at_in {z:Str} {n:Int} (h0:0≤n) (h1:n < z.length):∃ c,atI z.cps.toList n = some c:=by
 have hl:z.cps.toList.length = z.length:=by simp [Str.length]
 obtain ⟨k,rfl⟩:∃ k:Nat,n = k:=⟨n.toNat,by lia⟩
 exact ⟨_,at_nat _ k (by lia)⟩
theorem ok_minK:OpN K minKA (r2L (rMin K)):=by
 intro N H xs as b Q hs e k
 unfold minKA at e
 split at e
 ·rename_i a b'
  simp only [Option.bind_eq_some_iff] at e
  obtain ⟨z,ez,ds,e1,ns,e2,e3⟩:=e
  split at e3
  ·rename_i hl
   cases e3
   rw [Bool.and_eq_true,List.all_eq_true] at hl
   obtain ⟨x,y,L1,L2,rfl,h1,h2⟩:=two_of hs
   obtain ⟨p,vs,rfl,hp,hz',q⟩:=lst_of h1 e1
   cases ints_ok q e2
   have eb:=strU_eq ez
   subst eb
   obtain ⟨rfl,hz⟩:=repStr h2
   cases ns with
   | nil=>simp at hl
   | cons n0 r =>
    refine ⟨_,_,rfl,p,n0 :: r,z,rfl,rfl,.inl (.inl hp),by simp,hz,fun n hn=>?_,fun H2 j n sm hj hb=>?_⟩
    ·have:=hl.1 n hn
     rw [Bool.and_eq_true,decide_eq_true_iff,decide_eq_true_iff] at this
     exact at_in this.1 this.2
    ·have en:=cmin_eq hj hb
     subst en
     exact k _ _ ⟨sm,[],by rw [RepH]; exact ⟨rfl,.int _⟩,List.nodup_nil,fun _ h=>by simp at h⟩
  ·cases e3
 ·cases e
theorem je_minL (i:Nat) {params:Arguments} {scope:Scope} {c P cr:Addr} {k:Nat} (hc:X.calm = true) (hr:Room k X.A) (ht:tabIn X.K lamDef = some (c,P)) (hh:codeHdIn X.K c P = true) (hm:X.mg "min" = none) (hcode:X.env.code = .ref c)
  (hg:Gl X "min") (hN:X.N[i]? = some x) (hkx:X.env.kindOf x = some .cell) (hcl:closureFor scope X.env = pure [(x,cr)]) (hcr:X.env.cells.lookup x = some cr) (hq:X.env.qual ++ "<lambda>" = lamQual) (hdef:defaultsOf params X.env = ([],[]))
  (hbind:∀ pm c' ctv v,bindArgs (kla_fn "<lambda>" lamQual params (.Subscript (.Name x p1) (.Name y p2) p3) scope [(x,cr)] pm (.ref c') ctv) ⟨[v],[]⟩ = pure [(y,v)]) (hk:scope.kind = .function) (hco:scope.isCoroutine = false) (hgen:scope.isGenerator = false)
  (hnc:∀ n∈scope.names,n.2 ≠ .cell) (hx:scope.names.lookup x = some .free) (hy:scope.names.lookup y = some .local) (dx:(x == ("__debug__" : Str)) = false) (dy:(y == ("__debug__" : Str)) = false) (dc:(x == ("__classdict__" : Str)) = false)
  (hs:starEach [e] X.env = [(false,eval e X.env)]) (he:JE X e m) :
  JE X (.Call (.Name "min" p) [e] [⟨some "key",.Lambda params (.Subscript (.Name x p1) (.Name y p2) p3) scope lp,kp⟩] pos) (opM minKA (m2L m (varM i))):=
 pe_weak (pe_minL hc hr hcode ht hh hg hm hN hkx hcl hcr hq hdef hbind hk hco hgen hnc hx hy dx dy dc hs he) fun σ H Q h=>tE.mono (two ok_minK h) fun x H1 h1=>tE_var h1
end
section
variable {X:Cx} {K:PySem.W.Frag}
end
section
variable {P:Program} {w:World} {K:PySem.W.Frag} {mg:Str→Option Value} {base:Heap}
theorem code_of {f c b:Addr} {oc:Value} {od:Option Addr} {fd:FuncData} {osl:Array (Option Value)} (n:nsIn K mainGlobals lamDef = some (some (.ref f))) (lk:K.lookup f = some ⟨oc,od,.func fd,osl⟩) (t:tabIn K lamDef = some (c,b)):fd.code = .ref c:=by
 unfold tabIn at t
 rw [n] at t
 dsimp only at t
 rw [lk] at t
 dsimp only at t
 split at t
 ·rename_i c' hc
  split at t
  ·split at t
   ·cases t; exact hc
   ·cases t
  ·cases t
 ·cases t
theorem fn_okL {st:Stmt} {f c b:Addr} {fd:FuncData} {N ps:List Str} {k:Nat} {m:MS} (F:Fun K lamDef lamDef st f fd) (hn:nsIn K mainGlobals lamDef = some (some (.ref f))) (ht:tabIn K lamDef = some (c,b)) (S:FnScope N ps (defScope st))
  (hb:∀ (A:Around) (outer:List Env) (s:Shared) (H:Hp) (E:XK),Room k (A.deeper (envOfC lamDef (defScope st) s.heap.objs.size f (.ref c)))→JSs (cxOf CX0 P w K mg base N lamDef (defScope st) f (.ref c) A outer s H E).nox (defBody st) m) :
  FnOk P w K mg base CX0 (k + 1) f fd ps (spJ K (fnM ps.length N.length m) ps.length):=by
 obtain ⟨oc,od,kV,doc,pm,an,cdv,ct,osl,rfl,lk,hcd⟩:=F.ex
 have ec:cdv = .ref c:=code_of hn lk ht
 subst ec
 refine fn_of lk hcd S (fun vs H Q E h=>?_) fun A outer s H vs Q E hr h=>?_
 ·obtain ⟨_,_,_,h,_⟩:=h
  exact h
 ·have hl:vs.length = ps.length:=by
   obtain ⟨_,_,_,h,_⟩:=h
   exact h
  have:=body_ok h
  refine ⟨_,PSs.nox (hb A outer s H E hr),?_⟩
  unfold L2.start
  rw [hl]
  exact this
end
end J
end
section
set_option Elab.async false
set_option linter.all false
set_option maxRecDepth 100000
set_option maxHeartbeats 1000000
namespace L2
open PySem PySem.Spec PyProof.Rows
section
variable {X:Cx} {a e:Expr} {ta te:TE} {apos cpos:Pos}
noncomputable def rFind:V→List V→Hp→VK→Prop:=fun x xs H Q=>∃ z y,x = .str z∧xs = [.str y]∧Q (.int (Txt.find z y)) H
noncomputable def rCount:V→List V→Hp→VK→Prop:=fun x xs H Q=>∃ z y,x = .str z∧xs = [.str y]∧Q (.int (Txt.count z y)) H
theorem mt_find:MtR X "str.find" rFind:=by
 intro pins s σ H x xs v us Q I rx rv h
 obtain ⟨z,y,rfl,rfl,q⟩:=h
 obtain ⟨t,rfl⟩:=rx
 obtain ⟨u,rfl,ru⟩:=rv.one
 obtain ⟨t',rfl⟩:=ru
 exact SC.find ⟨.int _,H,I.tok _,⟨_,rfl⟩,q⟩
theorem mt_count:MtR X "str.count" rCount:=by
 intro pins s σ H x xs v us Q I rx rv h
 obtain ⟨z,y,rfl,rfl,q⟩:=h
 obtain ⟨t,rfl⟩:=rx
 obtain ⟨u,rfl,ru⟩:=rv.one
 obtain ⟨t',rfl⟩:=ru
 exact SC.count ⟨.int _,H,I.tok _,⟨_,rfl⟩,q⟩
theorem pe_find {K:PySem.W.Frag} (hK:X.K = K) (hbase:attributeBase a "find" X.env (eval a X.env) = eval a X.env) (hline:(apos.endLine == cpos.line) = true) (hs:starEach [e] X.env = [(false,eval e X.env)]) (ha:PE X a ta) (he:PE X e te) :
  PE X (.Call (.Attribute a "find" apos) [e] [] cpos) (tBM K "str" rFind ta (tCons te tNil)):=by
 subst hK
 exact pe_bm F.plainAttrs_str F.slot_str_find F.type_str_find mt_find ha (pa_cons he pa_nil hs) hbase (by rw [hs]; rfl) hline hs rfl
theorem pe_count {K:PySem.W.Frag} (hK:X.K = K) (hbase:attributeBase a "count" X.env (eval a X.env) = eval a X.env) (hline:(apos.endLine == cpos.line) = true) (hs:starEach [e] X.env = [(false,eval e X.env)]) (ha:PE X a ta) (he:PE X e te) :
  PE X (.Call (.Attribute a "count" apos) [e] [] cpos) (tBM K "str" rCount ta (tCons te tNil)):=by
 subst hK
 exact pe_bm F.plainAttrs_str F.slot_str_count F.type_str_count mt_count ha (pa_cons he pa_nil hs) hbase (by rw [hs]; rfl) hline hs rfl
noncomputable def IsRng (o:Obj) (i j:Int):Prop:=∃ t t' t'':Tok,o = { cls:=.type "range",data:=.fields #[.int i t,.int j t',.int (-1) t''] }
noncomputable def rRngD:List V→Hp→VK→Prop:=fun xs H Q=>∃ i j:Int,xs = [.int i,.int j,.int (-1)]∧∀ (r:Addr) (o:Obj),H r = none→IsRng o i j→Q (.ref r) (upd H r (.frz o (.own r)))
theorem call_rngD:CallR X (.type "range") rRngD:=by
 intro pins s σ H xs us Q I r h
 obtain ⟨i,j,rfl,q⟩:=h
 cases r with
 | cons r rr =>
  cases rr with
  | cons r' rr =>
   cases rr with
   | cons r'' rr =>
    cases rr
    obtain ⟨t,rfl⟩:=r
    obtain ⟨t',rfl⟩:=r'
    obtain ⟨t'',rfl⟩:=r''
    refine call_range_3 (by decide) ?_ (Or.inl (PyProof.noPylong_small (by decide)))
    have hg:(s.heap.push { cls:=.type "range",data:=.fields #[.int i t,.int j t',.int (-1) t''] }).get? s.heap.objs.size = some { cls:=.type "range",data:=.fields #[.int i t,.int j t',.int (-1) t''] }:=Heap.get?_push_size _ rfl
    exact ⟨.ref s.heap.objs.size,_,I.laid (t':=s.toks) (o:=.frz _ (.own s.heap.objs.size)) (fun b o e=>Heap.get?_push_of_some _ e) (Nat.le_refl _) ⟨hg,_,hg⟩,rfl,q _ _ (I.hok.fresh (Nat.le_refl _)) ⟨t,t',t'',rfl⟩⟩
noncomputable def downV (i:Int) (n:Nat):List V:=(List.range n).map fun (k:Nat)=>V.int (i - (k:Int))
noncomputable def rListR:List V→Hp→VK→Prop:=fun xs H Q=>∃ (r:Addr) (o:Obj) (u:HO) (i j:Int),xs = [.ref r]∧H r = some (.frz o u)∧IsRng o i j∧(-(2 ^ 62)≤i∧i < 2 ^ 62 ∧ -(2 ^ 62)≤j∧j < 2 ^ 62)∧(i - j).toNat≤16777216∧∀ l,H l = none→Q (.ref l) (upd H l (.lst (downV i (i - j).toNat)))
theorem paired_get {α β:Type} {R:α → β → Prop}:∀ {l:List α} {l':List β},l.length = l'.length→(∀ (k:Nat) a b,l[k]? = some a→l'[k]? = some b→R a b)→Paired R l l':=by
 intro l
 induction l with
 | nil =>
  intro l' h _
  cases l' with
  | nil=>exact .nil
  | cons b l'=>cases h
 | cons a l ih =>
  intro l' h q
  cases l' with
  | nil=>cases h
  | cons b l'=>exact .cons (q 0 a b rfl rfl) (ih (by simpa using h) fun k x y e1 e2=>q (k + 1) x y e1 e2)
theorem vals_down {i:Int} {n:Nat} {acc:Array Value} (h:ItemsOf (fun k v=>∃ t,v = Value.int (i + k * -1) t) acc n):Vals (downV i n) acc.toList:=by
 obtain ⟨h1,h2⟩:=h
 refine paired_get (by simp [downV,h1]) fun k v u e1 e2=>?_
 simp only [downV,List.getElem?_map,Option.map_eq_some_iff] at e1
 obtain ⟨k',hk,rfl⟩:=e1
 have:=List.getElem?_eq_some_iff.mp hk
 obtain ⟨hk1,hk2⟩:=this
 simp at hk2
 subst hk2
 obtain ⟨t,rfl⟩:=h2 k u (by simpa using e2)
 exact ⟨t,by rw [show i + (k:Int) * -1 = i - (k:Int) by lia]⟩
theorem call_listR (hc:X.calm = true):CallR X (.type "list") rListR:=by
 intro pins s σ H xs us Q I r h
 obtain ⟨p,o,u,i,j,rfl,ha,⟨t,t',t'',rfl⟩,⟨q1,q2,q3,q4⟩,hl,q⟩:=h
 obtain ⟨u',rfl,ru⟩:=r.one
 cases ru
 have ho:=(I.hok p _ ha).1
 refine call_list_range (n:=(i - j).toNat) (I.ok.hd hc) ho (PySem.W.small_down q1 q2 q3 q4) (by rw [rangeSize_dn]; split <;> lia) (by lia) fun h' tk acc c' kk hg hi=>?_
 refine ⟨.ref s.heap.objs.size,_,I.laid (t':=tk) (o:=.lst (downV i (i - j).toNat)) kk (Nat.le_refl _) ⟨?_,acc.toList,c',vals_down hi,?_⟩,rfl,q _ (I.hok.fresh (Nat.le_refl _))⟩
 ·have:16777216≤sizeLine:=by decide
  simp only [downV,List.length_map,List.length_range]; lia
 ·rw [hg]
end
end L2
namespace J
open PySem PySem.Spec PyProof.Rows L2
section
variable {X:Cx} {a b c e:Expr} {es:List Expr} {m m1 m2 m3:ME} {ms:MA} {p pos pos' p2 apos cpos q npos:Pos} {x:Str}
variable {K:PySem.W.Frag} {N:Addr→Prop} {H:Hp} {σ:L2.St} {v:V} {L:List Addr}
noncomputable def findF (z:Str):List A→Option A
 | [.fz (.str y)]=>some (.fz (.int (Txt.find z y)))
 | _=>none
noncomputable def countF (z:Str):List A→Option A
 | [.fz (.str y)]=>some (.fz (.int (Txt.count z y)))
 | _=>none
theorem ok_find (z:Str) (hz:z.length≤sizeLine):OpN K (findF z) fun xs H Q=>rFind (.str z) xs H Q:=by
 intro N H xs as b Q hs e k
 unfold findF at e
 split at e
 ·rename_i y
  cases e
  obtain ⟨x,L1,rfl,h1⟩:=one_of hs
  obtain ⟨rfl,_⟩:=repStr h1
  exact ⟨z,y,rfl,rfl,k _ _ out_int⟩
 ·cases e
theorem ok_count (z:Str) (hz:z.length≤sizeLine):OpN K (countF z) fun xs H Q=>rCount (.str z) xs H Q:=by
 intro N H xs as b Q hs e k
 unfold countF at e
 split at e
 ·rename_i y
  cases e
  obtain ⟨x,L1,rfl,h1⟩:=one_of hs
  obtain ⟨rfl,_⟩:=repStr h1
  exact ⟨z,y,rfl,rfl,k _ _ out_int⟩
 ·cases e
theorem je_find (hbase:attributeBase a "find" X.env (eval a X.env) = eval a X.env) (hline:(apos.endLine == cpos.line) = true) (hs:starEach [e] X.env = [(false,eval e X.env)]) (ha:JE X a m1) (he:JE X e m2) :
  JE X (.Call (.Attribute a "find" apos) [e] [] cpos) (smeM findF m1 (m1L m2)):=by
 refine pe_weak (pe_find rfl hbase hline hs ha he) fun σ H Q h=>?_
 exact tE.mono (tE_sme ok_find h) fun x H1 ⟨ty,q⟩=>⟨ty,tA_cons q |> fun q=>tE.mono q fun y H2 q=>tA_nil q⟩
theorem je_count (hbase:attributeBase a "count" X.env (eval a X.env) = eval a X.env) (hline:(apos.endLine == cpos.line) = true) (hs:starEach [e] X.env = [(false,eval e X.env)]) (ha:JE X a m1) (he:JE X e m2) :
  JE X (.Call (.Attribute a "count" apos) [e] [] cpos) (smeM countF m1 (m1L m2)):=by
 refine pe_weak (pe_count rfl hbase hline hs ha he) fun σ H Q h=>?_
 exact tE.mono (tE_sme ok_count h) fun x H1 ⟨ty,q⟩=>⟨ty,tA_cons q |> fun q=>tE.mono q fun y H2 q=>tA_nil q⟩
noncomputable def lrngA:List A→Option A
 | [.fz (.int i),.fz (.int j),.fz (.int k)]=>if k = -1∧(-(2 ^ 62)≤i∧i < 2 ^ 62 ∧ -(2 ^ 62)≤j∧j < 2 ^ 62)∧(i - j).toNat≤16777216 then some (.lst ((down i (i - j).toNat).map A.fz)) else none
 | _=>none
noncomputable def rLR:List V→Hp→VK→Prop:=fun xs H Q=>rRngD xs H fun v H1=>rListR [v] H1 Q
theorem rep_down (i:Int) (n:Nat):RepDs N H (downV i n) (down i n):=by
 unfold downV down
 induction List.range n with
 | nil=>trivial
 | cons k l ih=>exact ⟨.int _,ih⟩
theorem ok_lrng:OpN K lrngA rLR:=by
 intro N H xs as b Q hs e k
 unfold lrngA at e
 split at e
 ·rename_i i j kk
  split at e
  ·rename_i hl
   obtain ⟨rfl,hb,hn⟩:=hl
   cases e
   obtain ⟨v1,t0,L1,rfl,h1,hs⟩:=cons_of hs
   obtain ⟨v2,v3,L2,L3,rfl,h2,h3⟩:=two_of hs
   cases repInt h1
   cases repInt h2
   cases repInt h3
   refine ⟨i,j,rfl,fun r o hr io=>⟨r,o,_,i,j,rfl,upd_same,io,hb,hn,fun l hl2=>k _ _ ?_⟩⟩
   have sm:=same_updJ (o:=.frz o (.own r)) hr
   obtain ⟨s2,L,r2,nd,fr⟩:=out_lst (K:=K) (N:=N) (p:=l) (vs:=downV i (i - j).toNat) (ds:=down i (i - j).toNat) hl2 (by
    have:16777216≤sizeLine:=by decide
    simp only [downV,List.length_map,List.length_range]; lia) (rep_down _ _)
   refine ⟨fun b u z=>s2 b u (sm b u z),L,r2,nd,fun b hb=>?_⟩
   have:=fr b hb
   cases hH:H b with
   | none=>rfl
   | some u=>rw [sm b u hH] at this; cases this
  ·cases e
 ·cases e
theorem je_lrng (hcm:X.calm = true) (m1':X.mg "list" = none) (m2':X.mg "range" = none) (g1:Gl X "list") (g2:Gl X "range")
  (he1:starEach [.Call (.Name "range" p2) [a,b,c] [] pos'] X.env = (false,eval (.Call (.Name "range" p2) [a,b,c] [] pos') X.env) :: starEach [] X.env) (hp1:(backTo pos (starEach [] X.env)).any (·.1) = false)
  (he2:starEach [a,b,c] X.env = (false,eval a X.env) :: starEach [b,c] X.env) (hp2:(backTo pos' (starEach [b,c] X.env)).any (·.1) = false) (hs2:starEach [b,c] X.env = (false,eval b X.env) :: starEach [c] X.env) (hs3:starEach [c] X.env = (false,eval c X.env) :: starEach [] X.env) (ha:JE X a m1) (hb:JE X b m2) (hc:JE X c m3) :
  JE X (.Call (.Name "list" p) [.Call (.Name "range" p2) [a,b,c] [] pos'] [] pos) (opM lrngA (consM m1 (consM m2 (consM m3 nilM)))):=
 pe_weak (pe_callTx (call_listR hcm) m1' PyProof.Rows.Boot.«list» (by decide) (by decide) g1 he1 hp1 (pa_consx he1 (pe_callTx call_rngD m2' boot_range (by decide) (by decide) g2 he2 hp2 (ja_cons he2 ha (ja_cons hs2 hb (ja_cons hs3 hc ja_nil)))) pa_nil))
  fun σ H Q h=>(show (tA X.K (consM m1 (consM m2 (consM m3 nilM)))) σ H (fun vs H1=>rLR vs H1 Q) from tE_op ok_lrng h)
noncomputable def cutD (ds:List D) (lo hi:Option Int):List D:=(ds.drop (HT.sIx ds.length 0 lo)).take (HT.sIx ds.length ds.length hi - HT.sIx ds.length 0 lo)
noncomputable def lslHi:List A→Option A
 | [x,.fz (.int j)]=>(lstA x).map fun ds=>.lst ((cutD ds none (some j)).map A.fz)
 | _=>none
theorem reps_len:∀ {vs:List V} {ds:List D},RepDs N H vs ds→vs.length = ds.length:=by
 intro vs
 induction vs with
 | nil=>intro ds q; cases ds with | nil=>rfl | cons d ds=>simp only [RepDs] at q
 | cons v vs ih=>intro ds q; cases ds with | nil=>simp only [RepDs] at q | cons d ds=>simp [ih q.2]
theorem rep_drop:∀ {vs:List V} {ds:List D} (n:Nat),RepDs N H vs ds→RepDs N H (vs.drop n) (ds.drop n):=by
 intro vs
 induction vs with
 | nil=>intro ds n q; cases ds with | nil=>cases n <;> exact q | cons d ds=>simp only [RepDs] at q
 | cons v vs ih=>intro ds n q; cases ds with | nil=>simp only [RepDs] at q | cons d ds=>cases n with | zero=>exact q | succ n=>exact ih n q.2
theorem rep_take:∀ {vs:List V} {ds:List D} (n:Nat),RepDs N H vs ds→RepDs N H (vs.take n) (ds.take n):=by
 intro vs
 induction vs with
 | nil=>intro ds n q; cases ds with | nil=>cases n <;> exact q | cons d ds=>simp only [RepDs] at q
 | cons v vs ih=>intro ds n q; cases ds with | nil=>simp only [RepDs] at q | cons d ds=>cases n with | zero=>simp only [List.take_zero]; exact trivial | succ n=>exact ⟨q.1,ih n q.2⟩
theorem rep_cut {vs:List V} {ds:List D} {lo hi:Option Int} (q:RepDs N H vs ds):RepDs N H (cutV vs lo hi) (cutD ds lo hi):=by
 unfold cutV cutD
 rw [reps_len q]
 exact rep_take _ (rep_drop _ q)
theorem je_lslHi (ha:JE X a m1) (hb:JE X b m2):JE X (.Subscript a (.Slice none (some b) none p2) pos) (opM lslHi (m2L m1 m2)):=by
 refine pe_weak (pe_slice sl_list ha po_none (po_some hb)) fun σ H Q h=>?_
 have ok:OpN X.K lslHi (r2L fun x y H Q=>∃ j,y = .int j∧rSlL X.K x none (some j) H Q):=by
  intro N H xs as b Q hs e k
  unfold lslHi at e
  split at e
  ·rename_i x j
   simp only [Option.map_eq_some_iff] at e
   obtain ⟨ds,e1,rfl⟩:=e
   obtain ⟨x,y,L1,L2,rfl,h1,h2⟩:=two_of hs
   cases repInt h2
   obtain ⟨p,vs,rfl,hp,hz,q⟩:=lst_of h1 e1
   refine ⟨_,_,rfl,j,rfl,p,vs,rfl,.inl (.inl hp),fun l hl=>k _ _ (out_lst hl ?_ (rep_cut q))⟩
   exact Nat.le_trans (cutV_length _ _ _) hz
  ·cases e
 exact tE.mono (two ok h) fun x H1 h1=>tE.mono h1 fun y H2 ⟨j,e,q⟩=>⟨j,e,q⟩
noncomputable def dnewM:ME:=opM (fun _=>some (.dic [])) nilM
theorem je_dnew:JE X (.Dict [] [] pos) dnewM:=by
 refine pe_weak pe_dnewK fun σ H Q h=>?_
 have ok:OpN X.K (fun _=>some (.dic [])) (fun _ H Q=>∀ p,H p = none→Q (.ref p) (upd H p (.dK []))):=by
  intro N H xs as b Q hs e k
  cases e
  intro p hp
  refine k _ _ ⟨same_updJ hp,[p],?_,by simp,fun b hb=>by simp at hb; rw [hb]; exact hp⟩
  rw [RepH]
  exact ⟨p,[],rfl,rfl,upd_same,Nat.zero_le _,.nil⟩
 exact tA_nil (tE_op ok h)
noncomputable def heldD (ρ:Ro) (i:Nat):Option (Own × List (Key × D)):=match ρ[i]? with
 | some (some (.ro,_))=>none
 | some (some (st,.dic kvs))=>some (st,kvs)
 | _=>none
noncomputable def putD (kvs:List (Key × D)) (k:Key) (d:D):List (Key × D):=if kvs.any fun kv=>decide (kv.1 = k) then kvs.map fun kv=>if kv.1 = k then (kv.1,d) else kv else kvs ++ [(k,d)]
end
section
variable {K:PySem.W.Frag} {ρ ρ' ρ1 ρ2:Ro} {σ σ' σ1 σ2:L2.St} {H H' H1 H2:Hp} {O O' N:Addr→Prop} {fp fp' fp1 fp2:Nat→List Addr} {L L1:List Addr}
theorem upd_keptD {p:Addr} {o:HO} {ys:List (Key × V)} (hy:H p = some (.dK ys)):Kept (fun q=>q = p) H (upd H p o):=fun b u e c=>by
 by_cases hb:b = p
 ·subst hb
  rcases c with c | c
  ·exact absurd rfl c
  ·rw [hy] at e; cases e; cases c
 ·rw [upd_ne hb]; exact e
theorem Post.mutD {i:Nat} {st:Own} {a a':A} {v:V} {p:Addr} {o:HO} {vs:List (Key × V)} {L':List Addr} (x:Post K O fp H ρ ρ1 σ σ L fp1 H1) (hi : ρ1[i]? = some (some (st,a))) (hst:st ≠ .ro) (hv : σ[i]? = some (some v)) (hp:p∈fp1 i) (hy:H1 p = some (.dK vs))
  (hL:∀ q∈L',q∈fp1 i∨q∈L) (nd:L'.Nodup) (hr:RepH K (NN fp1 (ad O L)) (upd H1 p o) v a' L'):Post K O fp H ρ (ρ1.set i (some (st,a'))) σ σ [] (pt fp1 i L') (upd H1 p o):=by
 have alp:∀ q,H1 q≠none→upd H1 p o q≠none:=fun q z=>by
  by_cases e:q = p
  ·subst e; rw [upd_same]; simp
  ·rw [upd_ne e]; exact z
 have k:=upd_keptD (o:=o) hy
 -- first the heap,then the slot
 have nn:∀ q,NN (pt fp1 i L') (ad O []) q→NN fp1 (ad O L) q:=fun q z=>by
  rcases z with ⟨j,z⟩ | z | z
  ·rcases mem_pt z with ⟨_,z⟩ | ⟨_,z⟩
   ·rcases hL q z with z | z
    ·exact .inl ⟨i,z⟩
    ·exact .inr (.inr z)
   ·exact .inl ⟨j,z⟩
  ·exact .inr (.inl z)
  ·simp at z
 have dis:∀ q∈L',∀ j,j≠i→q ∉ fp1 j:=fun q hq j hj z=>by
  rcases hL q hq with w | w
  ·exact hj (x.rel.inj j i q z w)
  ·exact x.rel.off j q z (.inr w)
 refine ⟨⟨by rw [List.length_set]; exact x.rel.len,fun j st' b e=>?_,fun j h=>?_,fun j=>?_,fun j1 j2 q h1 h2=>?_,fun j q h z=>?_,fun q z=>alp q (x.rel.al q (nn q z))⟩,List.nodup_nil,fun q h=>by simp at h,fun q h=>?_,fun b u e c=>?_,rfl,fun j st' b e h=>?_⟩
 ·by_cases hj:j = i
  ·subst hj
   rw [List.getElem?_set_self (lt_of_get hi)] at e
   cases e
   exact ⟨v,hv,by rw [pt_same]; exact weakH nn hr⟩
  ·rw [List.getElem?_set_ne (Ne.symm hj)] at e
   obtain ⟨w,e1,q⟩:=x.rel.slot j _ _ e
   refine ⟨w,e1,?_⟩
   rw [pt_ne hj]
   exact q.tr (M:=fun q=>q = p) (fun b z=>by rw [z]; exact .inl ⟨i,hp⟩) k (fun b z=>.inl (nn b z)) fun b hb z=>hj (x.rel.inj j i p (z ▸ hb) hp)
 ·by_cases hj:j = i
  ·subst hj
   exact absurd (List.getElem?_set_self (lt_of_get hi)) (h st a')
  ·rw [pt_ne hj]
   exact x.rel.out j fun st' b e=>h st' b (by rw [List.getElem?_set_ne (Ne.symm hj)]; exact e)
 ·by_cases hj:j = i
  ·subst hj; rw [pt_same]; exact nd
  ·rw [pt_ne hj]; exact x.rel.nd j
 ·rcases mem_pt h1 with ⟨e1,z1⟩ | ⟨e1,z1⟩
  ·rcases mem_pt h2 with ⟨e2,z2⟩ | ⟨e2,z2⟩
   ·rw [e1,e2]
   ·exact absurd z2 (dis q z1 j2 e2)
  ·rcases mem_pt h2 with ⟨e2,z2⟩ | ⟨e2,z2⟩
   ·exact absurd z1 (dis q z2 j1 e1)
   ·exact x.rel.inj j1 j2 q z1 z2
 ·have z':=ad_nil.mp z
  rcases mem_pt h with ⟨_,z1⟩ | ⟨_,z1⟩
  ·rcases hL q z1 with w | w
   ·exact x.rel.off i q w (.inl z')
   ·exact x.lo q w z'
  ·exact x.rel.off j q z1 (.inl z')
 ·rcases h with h | ⟨j,h⟩
  ·simp at h
  ·rcases mem_pt h with ⟨_,z1⟩ | ⟨_,z1⟩
   ·rcases hL q z1 with w | w
    ·exact x.new q (.inr ⟨i,w⟩)
    ·exact x.new q (.inl w)
   ·exact x.new q (.inr ⟨j,z1⟩)
 ·have e1:=x.kept b u e c
  by_cases hb:b = p
  ·subst hb
   rw [hy] at e1
   cases e1
   rcases c with c | c
   ·rcases x.new b (.inr ⟨i,hp⟩) with z | z
    ·exact absurd z c
    ·rw [e] at z; cases z
   ·cases c
  ·rw [upd_ne hb]; exact e1
 ·obtain ⟨b',e1,_,f⟩:=x.stab j st' b e h
  by_cases hj:j = i
  ·subst hj
   rw [hi] at e1
   cases e1
   exact ⟨a',List.getElem?_set_self (lt_of_get hi),rfl,fun z=>absurd z hst⟩
  ·exact ⟨b',by rw [List.getElem?_set_ne (Ne.symm hj)]; exact e1,rfl,f⟩
theorem heldD_ok {i:Nat} {st:Own} {kvs:List (Key × D)} (h:heldD ρ i = some (st,kvs)) : ρ[i]? = some (some (st,.dic kvs))∧st ≠ .ro:=by
 unfold heldD at h
 split at h
 ·cases h
 ·rename_i st' as' hn e
  cases h
  exact ⟨e,fun z=>hn z⟩
 ·cases h
noncomputable def dputS (i:Nat) (mk me:ME):MS:=fun ρ=>(me ρ).bind fun p=>(share p.2 p.1).bind fun s=>(heldD s.2 i).bind fun _=>(mk s.2).bind fun t=>match t.1 with
 | .val (.fz kd)=>(heldD t.2 i).bind fun h=>(keyD kd).bind fun k=>if h.2.length < LIM then some (.next (t.2.set i (some (h.1,.dic (putD h.2 k s.1))))) else none
 | _=>none
theorem put_ok {k:Key} {y:V} {d:D} {us:List (Key × V)} {kvs:List (Key × D)} (hp:Paired (fun (u:Key × V) (k:Key × D)=>u.1 = k.1∧RepA N H u.2 k.2) us kvs) (r:RepA N H y d):Paired (fun (u:Key × V) (k:Key × D)=>u.1 = k.1∧RepA N H u.2 k.2) (putK us k y) (putD kvs k d):=by
 have ha:(us.any fun kv=>decide (kv.1 = k)) = kvs.any fun kv=>decide (kv.1 = k):=by
  induction hp with
  | nil=>rfl
  | cons q t ih=>rw [List.any_cons,List.any_cons,ih,q.1]
 unfold putK putD
 rw [ha]
 cases (kvs.any fun kv=>decide (kv.1 = k)) with
 | true =>
  simp only [if_true]
  clear ha
  induction hp with
  | nil=>exact .nil
  | @cons u kd us kvs q t ih =>
   refine .cons ?_ ih
   dsimp only
   by_cases h:kd.1 = k
   ·rw [if_pos h,if_pos (q.1.trans h)]; exact ⟨q.1,r⟩
   ·rw [if_neg h,if_neg fun z=>h (q.1.symm.trans z)]; exact q
 | false =>
  simp only [Bool.false_eq_true,if_false]
  clear ha
  induction hp with
  | nil=>exact .cons ⟨rfl,r⟩ .nil
  | cons q t ih=>exact .cons q ih
theorem tS_dput {i:Nat} {mk me:ME} {D:Ends} (h:tS K (dputS i mk me) D σ H):sDPut (tVar i) (tE K mk) (tE K me) D σ H:=by
 obtain ⟨ρ,O,fp,rl,fl,e,w⟩:=h
 simp only [dputS,Option.bind_eq_some_iff] at e
 obtain ⟨⟨r,ρ1⟩,e1,⟨d,ρ2⟩,e2,⟨st0,as0⟩,e0,⟨r3,ρ3⟩,e3,e4⟩:=e
 dsimp only at e4
 split at e4
 ·rename_i kd
  simp only [Option.bind_eq_some_iff] at e4
  obtain ⟨⟨st,kvs⟩,e5,ky,e6,e7⟩:=e4
  split at e7
  ·rename_i hlen
   cases e7
   refine ⟨ρ,O,fp,rl,r,ρ1,e1,fun y H1 yy=>?_⟩
   obtain ⟨L,fp1,p,q⟩:=yy
   obtain ⟨fp2,p2,q2⟩:=share_post p q e2
   obtain ⟨g0,_⟩:=heldD_ok e0
   obtain ⟨v,hv,q0⟩:=p2.rel.slot i _ _ g0
   rw [RepH] at q0
   obtain ⟨p0,us0,rfl,_,hp0,_,_⟩:=q0
   refine ⟨_,hv,ρ2,O,fp2,p2.rel0,_,ρ3,e3,fun y2 H2 yy=>?_⟩
   obtain ⟨L3,fp3,p3,q3⟩:=yy
   obtain ⟨_,q3⟩:=(repH_fz (K:=K)).mp q3
   cases key_ok q3 e6
   have p4:=(p2.next p3).drop0
   obtain ⟨g,gst⟩:=heldD_ok e5
   obtain ⟨v',hv',qi⟩:=p4.rel.slot i _ _ g
   rw [hv] at hv'; cases hv'
   rw [RepH] at qi
   obtain ⟨pa,us,e8,e9,hp,hz',hs⟩:=qi
   cases e8
   have hlu:=Paired.length hs
   have qy:RepA (NN fp3 (ad O [])) H2 y d:=(weakA (fun b z=>nn_nil.mpr z) q2).tr (M:=Fp fp2) (fun b z=>.inl z) p3.kept fun b z=>by
    rcases z with z | z | z
    ·exact (p3.new b (.inr z)).imp (fun y=>.inl y) id
    ·exact .inl (.inr z)
    ·simp at z
   have k:=upd_keptD (o:=.dK (putK us ky y)) hp
   have pn:NN fp3 (ad O []) p0:=.inl ⟨i,by rw [e9]; simp⟩
   have h1:Paired (fun (u:Key × V) (k:Key × L2.D)=>u.1 = k.1∧RepA (NN fp3 (ad O [])) (upd H2 p0 (.dK (putK us ky y))) u.2 k.2) us kvs:=Paired.mapQ hs fun u kd r=>⟨r.1,r.2.tr (M:=fun b=>b = p0) (fun b z=>z ▸ pn) k fun b z=>.inl z⟩
   have h2:RepA (NN fp3 (ad O [])) (upd H2 p0 (.dK (putK us ky y))) y d:=qy.tr (M:=fun b=>b = p0) (fun b z=>z ▸ pn) k fun b z=>.inl z
   have hlz:LIM≤sizeLine:=by decide
   have hl3:us.length < sizeLine:=by have:kvs.length < LIM:=hlen; lia
   refine ⟨p0,upd H2 p0 (.dK (putK us ky y)),rfl,.inl ⟨us,ky,hp,rfl,hl3,rfl⟩,w _ _ _ (p4.mutD (a':=.dic (putD kvs ky d)) (L':=[p0]) g gst hv (by rw [e9]; simp) hp (fun b hb=>?_) (by simp) ?_)⟩
   ·simp at hb; subst hb; exact .inl (by rw [e9]; simp)
   ·rw [RepH]
    have:=length_putK us ky y
    exact ⟨p0,putK us ky y,rfl,rfl,upd_same,by lia,put_ok h1 h2⟩
  ·cases e7
 ·cases e4
noncomputable def dgetM (i:Nat) (mk me:ME):ME:=fun ρ=>(heldD ρ i).bind fun _=>(mk ρ).bind fun t=>match t.1 with
 | .val (.fz kd)=>(me t.2).bind fun u=>match u.1 with
  | .val (.fz d)=>(heldD u.2 i).bind fun h=>(keyD kd).map fun k=>(.val (.fz ((valD h.2 k).getD d)),u.2)
  | _=>none
 | _=>none
theorem val_ok2 {k:Key} {us:List (Key × V)} {kvs:List (Key × D)} (hp:Paired (fun (u:Key × V) (k:Key × D)=>u.1 = k.1∧RepA N H u.2 k.2) us kvs) {y:V} {d:D} (r:RepA N H y d):RepA N H ((valV us k).getD y) ((valD kvs k).getD d):=by
 induction hp with
 | nil=>exact r
 | @cons u kd us kvs q t ih =>
  simp only [valD,valV,List.find?_cons] at ih ⊢
  by_cases h:kd.1 = k
  ·have h':u.1 = k:=q.1.trans h
   simp only [h,h',decide_true,Option.map_some,Option.getD_some]
   exact q.2
  ·have h':¬ u.1 = k:=fun z=>h (q.1.symm.trans z)
   simp only [h,h',decide_false]
   exact ih
theorem tE_dget {i:Nat} {mk me:ME} {Q:VK} (h:tE K (dgetM i mk me) σ H Q):tDGet2 (tVar i) (tE K mk) (tE K me) σ H Q:=by
 obtain ⟨ρ,O,fp,rl,x,ρ',e,k⟩:=h
 simp only [dgetM,Option.bind_eq_some_iff] at e
 obtain ⟨⟨st0,as0⟩,e0,⟨r1,ρ1⟩,e1,e⟩:=e
 dsimp only at e
 split at e
 ·rename_i kd
  simp only [Option.bind_eq_some_iff] at e
  obtain ⟨⟨r2,ρ2⟩,e2,e⟩:=e
  dsimp only at e
  split at e
  ·rename_i d
   simp only [Option.bind_eq_some_iff,Option.map_eq_some_iff] at e
   obtain ⟨⟨st,kvs⟩,e5,ky,e6,e7⟩:=e
   cases e7
   obtain ⟨g0,_⟩:=heldD_ok e0
   obtain ⟨v,hv,q0⟩:=rl.slot i _ _ g0
   rw [RepH] at q0
   obtain ⟨p0,us0,rfl,_,hp0,_,_⟩:=q0
   refine ⟨_,hv,p0,rfl,.inl ⟨us0,.inl hp0⟩,ρ,O,fp,rl,_,ρ1,e1,fun y H1 yy=>?_⟩
   obtain ⟨L,fp1,p1,q1⟩:=yy
   obtain ⟨rfl,q1⟩:=(repH_fz (K:=K)).mp q1
   refine ⟨ρ1,O,fp1,p1.rel0,_,_,e2,fun z H2 yy=>?_⟩
   obtain ⟨L2,fp2,p2,q2⟩:=yy
   obtain ⟨rfl,q2⟩:=(repH_fz (K:=K)).mp q2
   have p4:=p1.next p2
   obtain ⟨g,_⟩:=heldD_ok e5
   obtain ⟨v',hv',qi⟩:=p4.rel.slot i _ _ g
   rw [hv] at hv'; cases hv'
   rw [RepH] at qi
   obtain ⟨pa,us,e8,e9,hp,hz',hs⟩:=qi
   cases e8
   cases key_ok q1 e6
   refine ⟨_,DGet.k hp,k _ _ (p4.out (out_fz ?_))⟩
   exact val_ok2 hs q2
  ·cases e
 ·cases e
end
section
variable {X:Cx} {a b c e:Expr} {es:List Expr} {m m1 m2 m3:ME} {ms:MA} {p pos pos' p2 apos cpos q npos:Pos} {x:Str}
theorem js_dput {k:Nat} (i:Nat) (hr:Room k X.A) (hN:X.N[i]? = some x) (hv:Vis X.env.scope x) (hd:(x == ("__debug__" : Str)) = false) (hcd:(x == ("__classdict__" : Str)) = false) (hs:swapsWith e (some (.Subscript (.Name x npos) b pos')) pos.line X.env = pure false)
  (hk:JE X b m1) (he:JE X e m2):JS X (.Assign [.Subscript (.Name x npos) b pos'] e pos) (dputS i m1 m2):=
 ps_weak (L2.ps_dput (hu_of hr) (pe_var hN hv hd hcd) hk he hs) fun _ _ _ h=>tS_dput h
theorem je_dget {k:Nat} (i:Nat) (hr:Room k X.A) (hN:X.N[i]? = some x) (hv:Vis X.env.scope x) (hd:(x == ("__debug__" : Str)) = false) (hcd:(x == ("__classdict__" : Str)) = false) (hm:M2 X (.Name x npos) "get" apos b e cpos) (hk:JE X b m1) (he:JE X e m2) :
  JE X (.Call (.Attribute (.Name x npos) "get" apos) [b,e] [] cpos) (dgetM i m1 m2):=
 pe_weak (pe_dget2 (hu_of hr) (pe_var hN hv hd hcd) hk he hm) fun _ _ _ h=>tE_dget h
end
end J
end
section
set_option Elab.async false
set_option linter.all false
namespace St
noncomputable def hit (f:Nat→List Int) (bs:List Int) (c:Nat):Bool:=(f c).any fun x=>decide (x∈bs)
noncomputable def fs (f:Nat→List Int):List Int→List Nat→List Nat
 | _,[]=>[]
 | bs,c :: w=>if hit f bs c then fs f (bs ++ f c) w else c :: fs f (bs ++ f c) w
noncomputable def rs (f:Nat→List Int):List Int→List Nat→List Nat
 | _,[]=>[]
 | bs,c :: w=>if hit f bs c then c :: rs f (bs ++ f c) w else rs f (bs ++ f c) w
noncomputable def srt (cs:List Nat):List Nat:=cs.mergeSort fun a b=>decide (a≤b)
variable {f:Nat→List Int}
theorem hit_iff {bs:List Int} {c:Nat}:hit f bs c = true↔∃ x∈f c,x∈bs:=by simp [hit]
theorem hit_congr {bs bs':List Int} (h:∀ x,x∈bs↔x∈bs') (c:Nat):hit f bs c = hit f bs' c:=by
 rw [Bool.eq_iff_iff,hit_iff,hit_iff]; simp [h]
theorem fs_congr:∀ (w:List Nat) {bs bs':List Int},(∀ x,x∈bs↔x∈bs')→fs f bs w = fs f bs' w∧rs f bs w = rs f bs' w:=by
 intro w
 induction w with
 | nil=>intro bs bs' h; exact ⟨rfl,rfl⟩
 | cons c w ih =>
  intro bs bs' h
  have h2:=ih (bs:=bs ++ f c) (bs':=bs' ++ f c) fun x=>by simp [h]
  simp only [fs,rs,hit_congr h c,h2.1,h2.2]
  exact ⟨trivial,trivial⟩
theorem srt_perm (cs:List Nat):(srt cs).Perm cs:=List.mergeSort_perm cs _
theorem srt_le (cs:List Nat):(srt cs).Pairwise (· ≤ ·):=by
 have:=List.pairwise_mergeSort (le:=fun a b:Nat=>decide (a≤b)) (fun a b c h1 h2=>by simp at h1 h2 ⊢; lia) (fun a b=>by simp; lia) cs
 exact this.imp fun h=>by simpa using h
theorem srt_eq {xs ys:List Nat} (p:xs.Perm ys):srt xs = srt ys:=
 ((srt_perm xs).trans (p.trans (srt_perm ys).symm)).eq_of_pairwise (fun a b _ _ h1 h2=>Nat.le_antisymm h1 h2) (srt_le xs) (srt_le ys)
theorem fs_first {c:Nat} {w:List Nat}:fs f [] (c :: w) = c :: fs f (f c) w∧rs f [] (c :: w) = rs f (f c) w:=by
 have:hit f [] c = false:=by simp [hit]
 simp [fs,rs,this]
noncomputable def Cm (f:Nat→List Int) (a b:Nat):Prop:=∃ x∈f a,x∈f b
theorem Cm.symm {a b:Nat} (h:Cm f a b):Cm f b a:=let ⟨x,h1,h2⟩:=h; ⟨x,h2,h1⟩
theorem fs_sub:∀ (w:List Nat) (bs:List Int),∀ c∈fs f bs w,c∈w:=by
 intro w
 induction w with
 | nil=>intro bs c h; simp [fs] at h
 | cons d w ih =>
  intro bs c h
  simp only [fs] at h
  split at h
  ·exact List.mem_cons_of_mem _ (ih _ c h)
  ·rcases List.mem_cons.mp h with rfl | h
   ·exact List.mem_cons_self
   ·exact List.mem_cons_of_mem _ (ih _ c h)
inductive Sw (f:Nat→List Int):List Nat→List Nat→Prop where
 | refl (w:List Nat):Sw f w w
 | swap (a b:Nat) (v:List Nat) (h:¬ Cm f a b):Sw f (a :: b :: v) (b :: a :: v)
 | cons (c:Nat) {w w':List Nat} (h:Sw f w w'):Sw f (c :: w) (c :: w')
theorem hit_app {bs:List Int} {a b:Nat} (h:¬ Cm f a b):hit f (bs ++ f b) a = hit f bs a:=by
 rw [Bool.eq_iff_iff,hit_iff,hit_iff]
 constructor
 ·rintro ⟨x,h1,h2⟩
  rcases List.mem_append.mp h2 with h2 | h2
  ·exact ⟨x,h1,h2⟩
  ·exact absurd ⟨x,h1,h2⟩ h
 ·rintro ⟨x,h1,h2⟩
  exact ⟨x,h1,List.mem_append_left _ h2⟩
theorem sw_cut {w w':List Nat} (h:Sw f w w'):∀ bs:List Int,(fs f bs w).Perm (fs f bs w')∧Sw f (rs f bs w) (rs f bs w'):=by
 induction h with
 | refl w=>exact fun bs=>⟨.refl _,.refl _⟩
 | swap a b v h =>
  intro bs
  have h1:=hit_app (bs:=bs) h
  have h2:=hit_app (bs:=bs) (fun z=>h (Cm.symm z))
  have h3:=fs_congr (f:=f) v (bs:=bs ++ f a ++ f b) (bs':=bs ++ f b ++ f a) fun x=>by simp only [List.mem_append]; exact or_right_comm
  simp only [fs,rs,h1,h2,h3.1,h3.2]
  cases hit f bs a <;> cases hit f bs b <;> simp only [Bool.false_eq_true,if_true,if_false]
  ·exact ⟨.swap _ _ _,.refl _⟩
  ·exact ⟨.refl _,.refl _⟩
  ·exact ⟨.refl _,.refl _⟩
  ·exact ⟨.refl _,.swap _ _ _ h⟩
 | cons c h ih =>
  intro bs
  obtain ⟨p,q⟩:=ih (bs ++ f c)
  simp only [fs,rs]
  split
  ·exact ⟨p,.cons _ q⟩
  ·exact ⟨p.cons _,q⟩
theorem sw_empty {w w':List Nat} (h:Sw f w w'):w.isEmpty = w'.isEmpty:=by cases h <;> rfl
noncomputable def pl (f:Nat→List Int):List Int→Nat→List Nat→List Nat
 | _,_,[]=>[]
 | bs,k,c :: w=>if hit f bs c then pl f (bs ++ f c) (k + 1) w else k :: pl f (bs ++ f c) (k + 1) w
theorem pl_ge:∀ (w:List Nat) (bs:List Int) (k:Nat),∀ i∈pl f bs k w,k≤i:=by
 intro w
 induction w with
 | nil=>intro bs k i h; simp [pl] at h
 | cons c w ih =>
  intro bs k i h
  simp only [pl] at h
  split at h
  ·have:=ih _ _ i h; lia
  ·rcases List.mem_cons.mp h with rfl | h
   ·exact Nat.le_refl _
   ·have:=ih _ _ i h; lia
theorem pl_cut:∀ (w:List Nat) (bs:List Int) (k:Nat),((List.range' k w.length).filter fun i=>decide (i∈pl f bs k w)) = pl f bs k w∧(pl f bs k w).map (fun i=>w.getD (i - k) 0) = fs f bs w∧(((List.range' k w.length).filter fun i=>!decide (i∈pl f bs k w)).map fun i=>w.getD (i - k) 0) = rs f bs w:=by
 intro w
 induction w with
 | nil=>intro bs k; simp [pl,fs,rs]
 | cons c w ih =>
  intro bs k
  obtain ⟨h1,h2,h3⟩:=ih (bs ++ f c) (k + 1)
  have ge:=pl_ge (f:=f) w (bs ++ f c) (k + 1)
  have nk:k ∉ pl f (bs ++ f c) (k + 1) w:=fun z=>by have:=ge k z; lia
  have r1:∀ i∈List.range' (k + 1) w.length,k + 1≤i:=fun i hi=>by rw [List.mem_range'] at hi; obtain ⟨j,_,rfl⟩:=hi; lia
  have sub:∀ l:List Nat,(∀ i∈l,k + 1≤i)→l.map (fun i=>(c :: w).getD (i - k) 0) = l.map fun i=>w.getD (i - (k + 1)) 0:=fun l hl=>List.map_congr_left fun i hi=>by
   have:=hl i hi
   rw [show i - k = (i - (k + 1)) + 1 by lia,List.getD_cons_succ]
  simp only [pl,fs,rs,List.length_cons,List.range'_succ]
  by_cases hh:hit f bs c = true
  ·simp only [if_pos hh]
   rw [List.filter_cons_of_neg (by simpa using nk),List.filter_cons_of_pos (by simpa using nk),h1]
   refine ⟨rfl,?_,?_⟩
   ·rw [sub _ ge]; exact h2
   ·rw [List.map_cons,sub _ (fun i hi=>r1 i (List.mem_filter.mp hi).1),h3]; simp
  ·simp only [if_neg hh]
   have e1:((List.range' (k + 1) w.length).filter fun i=>decide (i∈k :: pl f (bs ++ f c) (k + 1) w)) = (List.range' (k + 1) w.length).filter fun i=>decide (i∈pl f (bs ++ f c) (k + 1) w):=List.filter_congr fun i hi=>by
    have:=r1 i hi
    have hik:i≠k:=by lia
    simp [hik]
   have e2:((List.range' (k + 1) w.length).filter fun i=>!decide (i∈k :: pl f (bs ++ f c) (k + 1) w)) = (List.range' (k + 1) w.length).filter fun i=>!decide (i∈pl f (bs ++ f c) (k + 1) w):=List.filter_congr fun i hi=>by
    have:=r1 i hi
    have hik:i≠k:=by lia
    simp [hik]
   rw [List.filter_cons_of_pos (by simp),List.filter_cons_of_neg (by simp),e1,e2,h1]
   refine ⟨rfl,?_,?_⟩
   ·rw [List.map_cons,sub _ ge,h2]; simp
   ·rw [sub _ (fun i hi=>r1 i (List.mem_filter.mp hi).1),h3]
end St
end
section
set_option Elab.async false
set_option linter.all false
namespace St
variable {f:Nat→List Int}
noncomputable def lst (cs:List Nat):Nat:=(srt cs).headD 0
noncomputable def lr (f:Nat→List Int):Nat→List Nat→List Nat
 | 0,_=>[]
 | n + 1,w=>if w.isEmpty then [] else lst (fs f [] w) :: lr f n (w.erase (lst (fs f [] w)))
theorem lst_perm {xs ys:List Nat} (p:xs.Perm ys):lst xs = lst ys:=by rw [lst,lst,srt_eq p]
theorem lst_mem {xs:List Nat} (h:xs≠[]):lst xs∈xs∧∀ y∈xs,lst xs≤y:=by
 have p:=srt_perm xs
 have hs:=srt_le xs
 unfold lst
 cases e:srt xs with
 | nil=>rw [e] at p; exact absurd p.symm.eq_nil h
 | cons a r =>
  rw [e] at p hs
  refine ⟨p.mem_iff.mp List.mem_cons_self,fun y hy=>?_⟩
  rcases List.mem_cons.mp (p.mem_iff.mpr hy) with rfl | hr
  ·exact Nat.le_refl _
  ·exact (List.pairwise_cons.mp hs).1 y hr
theorem lst_eq {xs:List Nat} {a:Nat} (h1:a∈xs) (h2:∀ y∈xs,a≤y):lst xs = a:=by
 obtain ⟨h3,h4⟩:=lst_mem (List.ne_nil_of_mem h1)
 exact Nat.le_antisymm (h4 a h1) (h2 _ h3)
theorem sw_erase {w w':List Nat} (h:Sw f w w') (a:Nat):Sw f (w.erase a) (w'.erase a):=by
 induction h with
 | refl w=>exact .refl _
 | swap x y v h =>
  by_cases hx:x = a
  ·by_cases hy:y = a
   ·subst hx; subst hy; exact .refl _
   ·subst hx
    rw [List.erase_cons_head,List.erase_cons_tail (by simpa using hy),List.erase_cons_head]
    exact .refl _
  ·by_cases hy:y = a
   ·subst hy
    rw [List.erase_cons_tail (by simpa using hx),List.erase_cons_head,List.erase_cons_head]
    exact .refl _
   ·rw [List.erase_cons_tail (by simpa using hx),List.erase_cons_tail (by simpa using hy),List.erase_cons_tail (by simpa using hy),List.erase_cons_tail (by simpa using hx)]
    exact .swap _ _ _ h
 | cons c h ih =>
  by_cases hc:c = a
  ·subst hc; rw [List.erase_cons_head,List.erase_cons_head]; exact h
  ·rw [List.erase_cons_tail (by simpa using hc),List.erase_cons_tail (by simpa using hc)]; exact .cons _ ih
theorem sw_lr:∀ (n:Nat) {w w':List Nat},Sw f w w'→lr f n w = lr f n w':=by
 intro n
 induction n with
 | zero=>intro w w' h; rfl
 | succ n ih =>
  intro w w' h
  have e:=lst_perm (sw_cut h []).1
  simp only [lr,sw_empty h,e,ih (sw_erase h _)]
inductive Swc (f:Nat→List Int):List Nat→List Nat→Prop where
 | refl (w:List Nat):Swc f w w
 | step {u v w:List Nat} (h:Sw f u v) (t:Swc f v w):Swc f u w
theorem Swc.trans {u v w:List Nat} (h:Swc f u v) (t:Swc f v w):Swc f u w:=by
 induction h with
 | refl u=>exact t
 | step h _ ih=>exact .step h (ih t)
theorem Swc.cons (c:Nat) {u v:List Nat} (h:Swc f u v):Swc f (c :: u) (c :: v):=by
 induction h with
 | refl u=>exact .refl _
 | step h _ ih=>exact .step (.cons c h) ih
theorem swc_lr {u v:List Nat} (n:Nat) (h:Swc f u v):lr f n u = lr f n v:=by
 induction h with
 | refl u=>rfl
 | step h _ ih=>rw [sw_lr n h,ih]
theorem swc_front (a:Nat) (v:List Nat):∀ (u:List Nat),(∀ d∈u,¬ Cm f d a)→Swc f (u ++ a :: v) (a :: (u ++ v)):=by
 intro u
 induction u with
 | nil=>intro _; exact .refl _
 | cons d u ih =>
  intro h
  have h2:=ih fun e he=>h e (List.mem_cons_of_mem _ he)
  exact (Swc.cons d h2).trans (.step (.swap d a _ (h d List.mem_cons_self)) (.refl _))
theorem fs_split:∀ (w:List Nat) (bs:List Int),∀ c∈fs f bs w,∃ u v,w = u ++ c :: v∧(∀ d∈u,¬ Cm f d c)∧hit f bs c = false:=by
 intro w
 induction w with
 | nil=>intro bs c h; simp [fs] at h
 | cons d w ih =>
  intro bs c h
  have key:c∈fs f (bs ++ f d) w→∃ u v,d :: w = u ++ c :: v∧(∀ d∈u,¬ Cm f d c)∧hit f bs c = false:=fun h=>by
   obtain ⟨u,v,e,h1,h2⟩:=ih _ c h
   have nh:∀ x∈f c,x ∉ bs∧x ∉ f d:=fun x hx=>by
    constructor
    ·intro z
     have:hit f (bs ++ f d) c = true:=hit_iff.mpr ⟨x,hx,List.mem_append_left _ z⟩
     rw [h2] at this; cases this
    ·intro z
     have:hit f (bs ++ f d) c = true:=hit_iff.mpr ⟨x,hx,List.mem_append_right _ z⟩
     rw [h2] at this; cases this
   refine ⟨d :: u,v,by rw [e]; rfl,fun g hg=>?_,?_⟩
   ·rcases List.mem_cons.mp hg with rfl | hg
    ·rintro ⟨x,hx,hx2⟩; exact (nh x hx2).2 hx
    ·exact h1 g hg
   ·rw [Bool.eq_false_iff,Ne,hit_iff]
    rintro ⟨x,hx,hx2⟩; exact (nh x hx).1 hx2
  simp only [fs] at h
  split at h
  ·exact key h
  ·rename_i hn
   rcases List.mem_cons.mp h with rfl | h
   ·exact ⟨[],w,rfl,fun _ h=>by simp at h,by simpa using hn⟩
   ·exact key h
theorem fs_mem:∀ (u:List Nat) (c:Nat) (v:List Nat) (bs:List Int),(∀ d∈u,¬ Cm f d c)→hit f bs c = false→c∈fs f bs (u ++ c :: v):=by
 intro u
 induction u with
 | nil=>intro c v bs _ h; simp [fs,h]
 | cons d u ih =>
  intro c v bs h1 h2
  have h3:hit f (bs ++ f d) c = false:=by
   rw [Bool.eq_false_iff,Ne,hit_iff]
   rintro ⟨x,hx,hx2⟩
   rcases List.mem_append.mp hx2 with z | z
   ·have:hit f bs c = true:=hit_iff.mpr ⟨x,hx,z⟩
    rw [h2] at this; cases this
   ·exact h1 d List.mem_cons_self ⟨x,z,hx⟩
  have:=ih c v (bs ++ f d) (fun e he=>h1 e (List.mem_cons_of_mem _ he)) h3
  simp only [List.cons_append,fs]
  split
  ·exact this
  ·exact List.mem_cons_of_mem _ this
theorem erase_split {u v:List Nat} {c:Nat} (h:c ∉ u):(u ++ c :: v).erase c = u ++ v:=by
 rw [List.erase_append_right _ h,List.erase_cons_head]
theorem fs_ne {c:Nat} {w:List Nat}:fs f [] (c :: w)≠[]:=by rw [fs_first.1]; simp
theorem front_out {w:List Nat} {c:Nat} (hw:∀ d∈w,f d≠[]) (h:c∈fs f [] w):∃ u v,w = u ++ c :: v∧(∀ d∈u,¬ Cm f d c)∧c ∉ u:=by
 obtain ⟨u,v,e,h1,_⟩:=fs_split w [] c h
 refine ⟨u,v,e,h1,fun z=>?_⟩
 obtain ⟨x,r,hx⟩:=List.exists_cons_of_ne_nil (hw c (by rw [e]; simp))
 exact h1 c z ⟨x,by rw [hx]; simp,by rw [hx]; simp⟩
theorem swc_self:∀ (n:Nat) (w:List Nat),w.length≤n→(∀ d∈w,f d≠[])→Swc f w (lr f n w):=by
 intro n
 induction n with
 | zero =>
  intro w h _
  have:w = []:=List.length_eq_zero_iff.mp (by lia)
  subst this; exact .refl _
 | succ n ih =>
  intro w h hw
  cases w with
  | nil=>exact .refl _
  | cons c w =>
   obtain ⟨hm,_⟩:=lst_mem (fs_ne (f:=f) (c:=c) (w:=w))
   obtain ⟨u,v,e,h1,h2⟩:=front_out hw hm
   have ee:(c :: w).erase (lst (fs f [] (c :: w))) = u ++ v:=(congrArg (fun z=>List.erase z (lst (fs f [] (c :: w)))) e).trans (erase_split h2)
   have es:lr f (n + 1) (c :: w) = lst (fs f [] (c :: w)) :: lr f n (u ++ v):=by simp only [lr,List.isEmpty_cons,Bool.false_eq_true,if_false,ee]
   rw [es]
   generalize lst (fs f [] (c :: w)) = a at e h1
   have hl:(u ++ v).length≤n:=by
    have:=congrArg List.length e
    simp at this h ⊢
    lia
   have t:=ih (u ++ v) hl fun d hd=>hw d (by rw [e]; rcases List.mem_append.mp hd with z | z <;> simp [z])
   rw [e]
   exact (swc_front a v u h1).trans (.cons a t)
theorem pl_first:∀ (w:List Nat) (bs:List Int) (k:Nat),∀ i∈pl f bs k w,∃ u v c,w = u ++ c :: v∧u.length = i - k∧k≤i∧(∀ d∈u,¬ Cm f d c)∧hit f bs c = false:=by
 intro w
 induction w with
 | nil=>intro bs k i h; simp [pl] at h
 | cons d w ih =>
  intro bs k i h
  have key:i∈pl f (bs ++ f d) (k + 1) w→∃ u v c,d :: w = u ++ c :: v∧u.length = i - k∧k≤i∧(∀ d∈u,¬ Cm f d c)∧hit f bs c = false:=fun h=>by
   obtain ⟨u,v,c,e,h1,h2,h3,h4⟩:=ih _ _ i h
   have nh:∀ x∈f c,x ∉ bs∧x ∉ f d:=fun x hx=>by
    constructor
    ·intro z
     have:hit f (bs ++ f d) c = true:=hit_iff.mpr ⟨x,hx,List.mem_append_left _ z⟩
     rw [h4] at this; cases this
    ·intro z
     have:hit f (bs ++ f d) c = true:=hit_iff.mpr ⟨x,hx,List.mem_append_right _ z⟩
     rw [h4] at this; cases this
   refine ⟨d :: u,v,c,by rw [e]; rfl,by simp; lia,by lia,fun g hg=>?_,?_⟩
   ·rcases List.mem_cons.mp hg with rfl | hg
    ·rintro ⟨x,hx,hx2⟩; exact (nh x hx2).2 hx
    ·exact h3 g hg
   ·rw [Bool.eq_false_iff,Ne,hit_iff]
    rintro ⟨x,hx,hx2⟩; exact (nh x hx).1 hx2
  simp only [pl] at h
  split at h
  ·exact key h
  ·rename_i hn
   rcases List.mem_cons.mp h with rfl | h
   ·exact ⟨[],w,d,rfl,by simp,Nat.le_refl _,fun _ h=>by simp at h,by simpa using hn⟩
   ·exact key h
theorem pl_erase {w:List Nat} (hw:∀ d∈w,f d≠[]) {i:Nat} (h:i∈pl f [] 0 w):i < w.length∧w.take i ++ w.drop (i + 1) = w.erase (w.getD i 0):=by
 obtain ⟨u,v,c,e,h1,_,h3,_⟩:=pl_first w [] 0 i h
 have hu:u.length = i:=by lia
 have hc:c ∉ u:=fun z=>by
  obtain ⟨x,r,hx⟩:=List.exists_cons_of_ne_nil (hw c (by rw [e]; simp))
  exact h3 c z ⟨x,by rw [hx]; simp,by rw [hx]; simp⟩
 subst hu
 have eg:w.getD u.length 0 = c:=by rw [e]; simp
 rw [eg]
 refine ⟨by rw [e]; simp,?_⟩
 rw [e,erase_split hc]
 simp
end St
end
section
set_option Elab.async false
set_option linter.all false
namespace St
variable {f:Nat→List Int}
theorem lr_succ (t:Nat) {w:List Nat} (h:w≠[]):lr f (t + 1) w = lst (fs f [] w) :: lr f t (w.erase (lst (fs f [] w))):=by
 cases w with
 | nil=>exact absurd rfl h
 | cons c w=>simp [lr]
theorem fs_ne0 {w:List Nat} (h:w≠[]):fs f [] w≠[]:=by
 obtain ⟨c,r,rfl⟩:=List.exists_cons_of_ne_nil h
 exact fs_ne
theorem pick {w:List Nat} (h0:w≠[]) (hw:∀ d∈w,f d≠[]):∃ u v,w = u ++ lst (fs f [] w) :: v∧(∀ d∈u,¬ Cm f d (lst (fs f [] w)))∧lst (fs f [] w) ∉ u:=
 front_out hw (lst_mem (fs_ne0 h0)).1
noncomputable def fpl (f:Nat→List Int) (w:List Nat):Nat:=w.idxOf (lst (fs f [] w))
theorem idx_mid {u v:List Nat} {c:Nat} (h:c ∉ u):(u ++ c :: v).idxOf c = u.length:=by
 rw [List.idxOf_append,if_neg h]; simp
noncomputable def dn (d k:Nat):List Nat:=(List.range k).map fun i=>d + k - 1 - i
noncomputable def exs (f:Nat→List Int):Nat→Nat→List Nat→List Nat
 | 0,_,_=>[]
 | t + 1,d,w=>if w.isEmpty then [] else dn d (fpl f w) ++ exs f t (d + 1) (w.erase (lst (fs f [] w)))
theorem exs_succ (t d:Nat) {w:List Nat} (h:w≠[]):exs f (t + 1) d w = dn d (fpl f w) ++ exs f t (d + 1) (w.erase (lst (fs f [] w))):=by
 cases w with
 | nil=>exact absurd rfl h
 | cons c w=>simp [exs]
theorem exs_nil (t d:Nat):exs f t d [] = []:=by cases t <;> simp [exs]
noncomputable def swp (p:Nat) (w:List Nat):List Nat:=w.take p ++ ((w.drop p).take 2).reverse ++ w.drop (p + 2)
noncomputable def okP (f:Nat→List Int) (p:Nat) (w:List Nat):Prop:=p + 1 < w.length∧¬ Cm f (w.getD p 0) (w.getD (p + 1) 0)
inductive Walks (f:Nat→List Int):List Nat→List Nat→List Nat→Prop
 | nil (w:List Nat):Walks f w [] w
 | cons {w:List Nat} {p:Nat} {ps w':List Nat}:okP f p w→Walks f (swp p w) ps w'→Walks f w (p :: ps) w'
theorem Walks.app {u v w ps qs:List Nat} (h:Walks f u ps v) (t:Walks f v qs w):Walks f u (ps ++ qs) w:=by
 induction h with
 | nil _=>exact t
 | cons o _ ih=>exact .cons o (ih t)
theorem swp_mid (a:List Nat) (x c:Nat) (v:List Nat):swp a.length (a ++ x :: c :: v) = a ++ c :: x :: v:=by
 unfold swp
 rw [List.take_left,List.drop_left,show a.length + 2 = (a ++ [x,c]).length by simp,show a ++ x :: c :: v = (a ++ [x,c]) ++ v by simp,List.drop_left]
 simp
theorem dn_succ (d k:Nat):dn d (k + 1) = (d + k) :: dn d k:=by
 unfold dn
 rw [List.range_succ_eq_map,List.map_cons,List.map_map]
 refine List.cons_eq_cons.mpr ⟨by simp,List.map_congr_left fun i _=>?_⟩
 simp only [Function.comp_apply]
 lia
theorem walk_front (made:List Nat) (c:Nat):∀ (n:Nat) (u v:List Nat),u.length = n→(∀ d∈u,¬ Cm f d c)→Walks f (made ++ (u ++ c :: v)) (dn made.length n) (made ++ (c :: (u ++ v))):=by
 intro n
 induction n with
 | zero =>
  intro u v h _
  have:u = []:=List.length_eq_zero_iff.mp h
  subst this
  exact .nil _
 | succ n ih =>
  intro u v h hu
  obtain ⟨u',x,rfl⟩:∃ u' x,u = u' ++ [x]:=by
   rcases List.eq_nil_or_concat u with e | ⟨u',x,e⟩
   ·rw [e] at h; cases h
   ·exact ⟨u',x,by simpa using e⟩
  have hl:u'.length = n:=by simpa using h
  have e1:made ++ (u' ++ [x] ++ c :: v) = (made ++ u') ++ x :: c :: v:=by simp
  have e2:(made ++ u').length = made.length + n:=by simp [hl]
  rw [dn_succ,e1,← e2]
  refine .cons ⟨by simp only [List.length_append,List.length_cons]; lia,?_⟩ ?_
  ·have gm:∀ (a:List Nat) (y:Nat) (z:List Nat),(a ++ y :: z).getD a.length 0 = y:=fun a y z=>by simp [List.getD_eq_getElem?_getD]
   have g1:((made ++ u') ++ x :: c :: v).getD (made ++ u').length 0 = x:=gm _ _ _
   have g2:((made ++ u') ++ x :: c :: v).getD ((made ++ u').length + 1) 0 = c:=by
    rw [show (made ++ u') ++ x :: c :: v = (made ++ u' ++ [x]) ++ c :: v by simp,show (made ++ u').length + 1 = (made ++ u' ++ [x]).length by simp [Nat.add_assoc]]
    exact gm _ _ _
   rw [g1,g2]
   exact hu x (by simp)
  ·rw [swp_mid]
   have:=ih u' (x :: v) hl fun d hd=>hu d (by simp [hd])
   simpa using this
theorem exs_walk:∀ (t:Nat) (w made:List Nat),w.length≤t→(∀ d∈w,f d≠[])→Walks f (made ++ w) (exs f t made.length w) (made ++ lr f t w):=by
 intro t
 induction t with
 | zero =>
  intro w made h _
  have:w = []:=List.length_eq_zero_iff.mp (by lia)
  subst this
  exact .nil _
 | succ t ih =>
  intro w made h hw
  by_cases h0:w = []
  ·subst h0
   rw [exs_nil]
   exact .nil _
  ·obtain ⟨u,v,e,hu,hc⟩:=pick (f:=f) h0 hw
   rw [exs_succ t _ h0,lr_succ t h0]
   have ek:fpl f w = u.length:=by
    unfold fpl
    generalize lst (fs f [] w) = c at e hc
    rw [e]; exact idx_mid hc
   have ee:w.erase (lst (fs f [] w)) = u ++ v:=by
    generalize lst (fs f [] w) = c at e hc
    rw [e]; exact erase_split hc
   rw [ek,ee]
   generalize lst (fs f [] w) = c at e hc hu
   subst e
   refine (walk_front made c u.length u v rfl hu).app ?_
   have:=ih (u ++ v) (made ++ [c]) (by simp at h ⊢; lia) fun d hd=>hw d (by rcases List.mem_append.mp hd with z | z <;> simp [z])
   simpa using this
theorem exs_low:∀ (t:Nat) (l:List Nat) (d:Nat),l.length≤t→lr f t l = l→exs f t d l = []:=by
 intro t
 induction t with
 | zero=>intro l d _ _; rfl
 | succ t ih =>
  intro l d h e
  cases l with
  | nil=>exact exs_nil _ _
  | cons c l =>
   rw [lr_succ t (by simp),List.cons_eq_cons] at e
   obtain ⟨e1,e2⟩:=e
   rw [exs_succ t d (by simp)]
   unfold fpl
   rw [e1] at e2 ⊢
   rw [List.erase_cons_head] at e2 ⊢
   rw [ih l (d + 1) (by simpa using h) e2]
   simp [dn]
theorem lr_perm:∀ (t:Nat) (w:List Nat),w.length≤t→(lr f t w).Perm w:=by
 intro t
 induction t with
 | zero =>
  intro w h
  have:w = []:=List.length_eq_zero_iff.mp (by lia)
  subst this; exact .nil
 | succ t ih =>
  intro w h
  by_cases h0:w = []
  ·subst h0; exact .nil
  ·rw [lr_succ t h0]
   have hm:=fs_sub w [] _ (lst_mem (fs_ne0 (f:=f) h0)).1
   have hl:=List.length_erase_of_mem hm
   exact ((ih _ (by lia)).cons _).trans (List.perm_cons_erase hm).symm
noncomputable def occ:Nat→List Nat→Nat→List Nat
 | _,[],_=>[]
 | k,a :: l,c=>if a = c then k :: occ (k + 1) l c else occ (k + 1) l c
theorem occ_snoc (a c:Nat):∀ (l:List Nat) (k:Nat),occ k (l ++ [a]) c = occ k l c ++ if a = c then [k + l.length] else []:=by
 intro l
 induction l with
 | nil=>intro k; simp [occ]
 | cons b l ih =>
  intro k
  simp only [List.cons_append,occ,ih,List.length_cons]
  have e:k + 1 + l.length = k + (l.length + 1):=by lia
  rw [e]
  split <;> simp
theorem occ_shift (c:Nat):∀ (l:List Nat) (k:Nat),occ (k + 1) l c = (occ k l c).map (· + 1):=by
 intro l
 induction l with
 | nil=>intro k; rfl
 | cons b l ih=>intro k; simp only [occ,ih]; split <;> simp
theorem occ_len (c:Nat):∀ (l:List Nat) (k:Nat),(occ k l c).length = l.count c:=by
 intro l
 induction l with
 | nil=>intro k; rfl
 | cons b l ih=>intro k; simp only [occ,List.count_cons]; split <;> simp_all
noncomputable def sp (low:List Nat):List Nat→List Nat→List Nat
 | _,[]=>[]
 | pre,d :: w=>(occ 0 low d).getD (pre.count d) 0 :: sp low (pre ++ [d]) w
theorem sp_app (low:List Nat):∀ (u pre v:List Nat),sp low pre (u ++ v) = sp low pre u ++ sp low (pre ++ u) v:=by
 intro u
 induction u with
 | nil=>intro pre v; simp [sp]
 | cons d u ih=>intro pre v; simp [sp,ih]
theorem sp_len (low:List Nat):∀ (u pre:List Nat),(sp low pre u).length = u.length:=by
 intro u
 induction u with
 | nil=>intro pre; rfl
 | cons d u ih=>intro pre; simp [sp,ih]
theorem getD_map1 {l:List Nat} {i:Nat} (h:i < l.length):(l.map (· + 1)).getD i 0 = l.getD i 0 + 1:=by
 simp [List.getD_eq_getElem?_getD,h]
theorem sp_cons (c:Nat) (l:List Nat):∀ (w pre pre':List Nat),(∀ d∈w,pre'.count d = pre.count d + if d = c then 1 else 0)→(∀ d,(pre ++ w).count d≤l.count d)→sp (c :: l) pre' w = (sp l pre w).map (· + 1):=by
 intro w
 induction w with
 | nil=>intro pre pre' _ _; rfl
 | cons d w ih =>
  intro pre pre' h1 h2
  have hi:pre.count d < (occ 0 l d).length:=by
   have:=h2 d
   rw [occ_len]
   simp at this
   lia
  have hd:=h1 d (by simp)
  simp only [sp,List.map_cons]
  refine List.cons_eq_cons.mpr ⟨?_,ih (pre ++ [d]) (pre' ++ [d]) (fun e he=>?_) fun e=>?_⟩
  ·rw [← getD_map1 hi,← occ_shift,hd]
   by_cases e:c = d
   ·subst e
    simp [occ]
   ·simp [occ,e,Ne.symm e]
  ·rw [List.count_append,List.count_append,h1 e (by simp [he])]
   lia
  ·have:=h2 e
   simpa using this
noncomputable def inv:List Nat→Nat
 | []=>0
 | x :: l=>l.countP (fun y=>decide (y < x)) + inv l
theorem inv_snoc (x:Nat):∀ l:List Nat,inv (l ++ [x]) = inv l + l.countP (fun y=>decide (x < y)):=by
 intro l
 induction l with
 | nil=>rfl
 | cons a l ih =>
  simp only [List.cons_append,inv,ih,List.countP_append,List.countP_cons,List.countP_nil]
  lia
theorem inv_mid (B:List Nat):∀ A:List Nat,inv (A.map (· + 1) ++ 0 :: B.map (· + 1)) = A.length + inv (A ++ B):=by
 have hB:∀ B:List Nat,inv (B.map (· + 1)) = inv B:=by
  intro B
  induction B with
  | nil=>rfl
  | cons b B ih=>simp only [List.map_cons,inv,ih,List.countP_map]; congr 1; exact List.countP_congr fun y _=>by simp
 intro A
 induction A with
 | nil =>
  simp only [List.map_nil,List.nil_append,inv,hB,List.countP_map,List.length_nil]
  congr 1
  rw [List.countP_eq_zero]
  intro y _
  simp
 | cons a A ih =>
  simp only [List.map_cons,List.cons_append,inv,ih,List.length_cons,List.countP_append,List.countP_cons,List.countP_map,Function.comp_def,Nat.add_lt_add_iff_right]
  simp
  lia
theorem exs_len:∀ (t:Nat) (w:List Nat) (d:Nat),w.length≤t→(∀ d∈w,f d≠[])→(exs f t d w).length = inv (sp (lr f t w) [] w):=by
 intro t
 induction t with
 | zero =>
  intro w d h _
  have:w = []:=List.length_eq_zero_iff.mp (by lia)
  subst this; rfl
 | succ t ih =>
  intro w d h hw
  by_cases h0:w = []
  ·subst h0; rw [exs_nil]; rfl
  ·obtain ⟨u,v,e,hu,hc⟩:=pick (f:=f) h0 hw
   rw [exs_succ t _ h0,lr_succ t h0]
   have ek:fpl f w = u.length:=by
    unfold fpl
    generalize lst (fs f [] w) = c at e hc
    rw [e]; exact idx_mid hc
   have ee:w.erase (lst (fs f [] w)) = u ++ v:=by
    generalize lst (fs f [] w) = c at e hc
    rw [e]; exact erase_split hc
   rw [ek,ee]
   generalize lst (fs f [] w) = c at e hc hu
   subst e
   have hl:(u ++ v).length≤t:=by simp at h ⊢; lia
   have cnt:∀ d,(u ++ v).count d≤(lr f t (u ++ v)).count d:=fun d=>Nat.le_of_eq ((lr_perm t (u ++ v) hl).count_eq d).symm
   have i1:=ih (u ++ v) (d + 1) hl fun d hd=>hw d (by rcases List.mem_append.mp hd with z | z <;> simp [z])
   generalize lr f t (u ++ v) = l at cnt i1 ⊢
   have s1:sp (c :: l) [] u = (sp l [] u).map (· + 1):=sp_cons c l u [] [] (fun d hd=>by
    have:d≠c:=fun e=>hc (e ▸ hd)
    simp [this]) fun d=>by
     have:=cnt d
     simp at this ⊢; lia
   have s2:sp (c :: l) (u ++ [c]) v = (sp l u v).map (· + 1):=sp_cons c l v u (u ++ [c]) (fun d _=>by
    rw [List.count_append,List.count_singleton]
    by_cases e:d = c
    ·simp [e]
    ·have:¬ (c == d) = true:=by simpa using fun z=>e z.symm
     rw [if_neg this,if_neg e]) cnt
   rw [sp_app,sp,List.nil_append,s1,s2,List.count_eq_zero.mpr hc]
   have o:(occ 0 (c :: l) c).getD 0 0 = 0:=by simp [occ]
   rw [o,inv_mid,← List.nil_append u,List.nil_append u,sp_len,List.length_append,i1,sp_app,List.nil_append]
   simp [dn]
theorem fs_good {w:List Nat} (hw:∀ d∈w,f d≠[]) {c:Nat}:c∈fs f [] w↔c∈w∧∀ d∈w.take (w.idxOf c),¬ Cm f d c:=by
 constructor
 ·intro h
  obtain ⟨u,v,e,hu,hc⟩:=front_out hw h
  refine ⟨fs_sub w [] c h,?_⟩
  rw [e,idx_mid hc,List.take_left]
  exact hu
 ·rintro ⟨h1,h2⟩
  have hi:=List.idxOf_lt_length_of_mem h1
  have e:w = w.take (w.idxOf c) ++ c :: w.drop (w.idxOf c + 1):=by
   have g:=List.getElem_idxOf hi
   conv=>lhs; rw [← List.take_append_drop (w.idxOf c) w,List.drop_eq_getElem_cons hi,g]
  rw [e]
  exact fs_mem _ c _ [] h2 (by simp [hit])
theorem cut_idx {w:List Nat} {c:Nat} (h:c∈w):w.take (w.idxOf c) ++ w.drop (w.idxOf c + 1) = w.erase c:=by
 have hi:=List.idxOf_lt_length_of_mem h
 have g:=List.getElem_idxOf hi
 have hn:c ∉ w.take (w.idxOf c):=fun z=>by
  obtain ⟨i,hi2,e⟩:=List.mem_iff_getElem.mp z
  have h3:i < w.idxOf c:=by simp at hi2; lia
  have:=List.not_of_lt_findIdx (p:=fun x=>x == c) (xs:=w) (i:=i) h3
  simp at e this
  exact this e
 have e:w = w.take (w.idxOf c) ++ c :: w.drop (w.idxOf c + 1):=by
  conv=>lhs; rw [← List.take_append_drop (w.idxOf c) w,List.drop_eq_getElem_cons hi,g]
 conv=>rhs; rw [e]
 exact (erase_split hn).symm
end St
end
section
set_option Elab.async false
set_option linter.all false
set_option maxRecDepth 100000
set_option maxHeartbeats 4000000
namespace Gk13
open PySem PySem.Spec PyProof.Rows L2 J
noncomputable def top (i:Nat):Stmt:=PySem.Challenge.pw_handsapart_k13_exchanges.main.body.getD i (.Pass ⟨0,0,0,0⟩)
noncomputable def den__law_take:MS:=seqS (ifS (tstM (opM eqA (m2L (opM ixA (m2L (varM 0) (litM (.int 1)))) (litM (.int 0))))) (seqS (asgS 2 (opM modA (m2L (opM ixA (m2L (varM 0) (litM (.int 0)))) (varM 1)))) (seqS (putS 0 (litM (.int 0)) (opM fdivA (m2L (opM ixA (m2L (varM 0) (litM (.int 0)))) (varM 1)))) (retS (varM 2)))) (skipS)) (seqS (putS 0 (litM (.int 0)) (opM modA (m2L (opM addA (m2L (opM addA (m2L (opM mulA (m2L (opM ixA (m2L (varM 0) (litM (.int 0)))) (litM (.int 48271)))) (opM mulA (m2L (opM mulA (m2L (litM (.int 7919)) (opM ixA (m2L (varM 0) (litM (.int 1)))))) (opM ixA (m2L (varM 0) (litM (.int 1)))))))) (litM (.int 17)))) (litM (.int 2147483647))))) (seqS (putS 0 (litM (.int 1)) (opM addA (m2L (opM ixA (m2L (varM 0) (litM (.int 1)))) (litM (.int 1))))) (retS (opM modA (m2L (opM fdivA (m2L (opM modA (m2L (opM mulA (m2L (opM ixA (m2L (varM 0) (litM (.int 0)))) (litM (.int 69621)))) (litM (.int 2147483629)))) (litM (.int 5)))) (varM 1))))))
noncomputable def fn__law_take:Fn:=fnM 2 3 den__law_take
noncomputable def den__law_house:MS:=seqS (asgS 1 (opM addA (m2L (litM (.int 2)) (callM fn__law_take (consM (varM 0) (consM (litM (.int 3)) (nilM))))))) (seqS (asgS 2 (opM addA (m2L (litM (.int 1)) (callM fn__law_take (consM (varM 0) (consM (litM (.int 6)) (nilM))))))) (seqS (asgS 3 (callM fn__law_take (consM (varM 0) (consM (litM (.int 2)) (nilM))))) (seqS (asgS 4 (lstM (nilM))) (seqS (asgS 5 (litM (.int 0))) (seqS (forS [6] true (rngI1 (varM 2)) (seqS (asgS 5 (opM addA (m2L (varM 5) (callM fn__law_take (consM (varM 0) (consM (opM subA (m2L (opM addA (m2L (opM subA (m2L (litM (.int 27)) (varM 2))) (varM 6))) (varM 5))) (nilM))))))) (seqS (asgS 7 (opM addA (m2L (litM (.int 1)) (callM fn__law_take (consM (varM 0) (consM (opM subA (m2L (opM shlA (m2L (litM (.int 1)) (varM 1))) (litM (.int 1)))) (nilM))))))) (seqS (ifS (tstM (opM eqA (m2L (varM 3) (litM (.int 1))))) (asgS 7 (opM borA (m2L (opM shlA (m2L (litM (.int 1)) (callM fn__law_take (consM (varM 0) (consM (varM 1) (nilM)))))) (opM shlA (m2L (litM (.int 1)) (callM fn__law_take (consM (varM 0) (consM (varM 1) (nilM))))))))) (skipS)) (seqS (appS 4 (tupV (consM (plainM (opM ixA (m2L (litM (.str (Str.ofString "abcdefghijklmnopqrstuvwxyz"))) (varM 5)))) (consM (plainM (compM (rngI1 (varM 1)) 0 (tstM (opM eqA (m2L (opM bandA (m2L (opM shrA (m2L (varM 8) (varM 0))) (litM (.int 1)))) (litM (.int 1))))) (varM 0))) (nilM))))) (asgS 5 (opM addA (m2L (varM 5) (litM (.int 1)))))))))) (retS (tupV (consM (plainM (varM 1)) (consM (plainM (varM 4)) (nilM))))))))))
noncomputable def fn__law_house:Fn:=fnM 1 8 den__law_house
noncomputable def den__law_house_copy:MS:=retS (tupV (consM (plainM (opM ixA (m2L (varM 0) (litM (.int 0))))) (consM (plainM (compM (seqI (opM ixA (m2L (varM 0) (litM (.int 1))))) 2 (yesT) (tupV (consM (plainM (varM 0)) (consM (plainM (opM listA (consM (varM 1) (nilM)))) (nilM)))))) (nilM))))
noncomputable def fn__law_house_copy:Fn:=fnM 1 1 den__law_house_copy
noncomputable def den__law_bag:MS:=seqS (ifS (tstM (opM geA (m2L (opM absA (consM (varM 0) (nilM))) (opM powA (m2L (litM (.int 10)) (litM (.int 18))))))) (retS (lstM (consM (plainM (opM absA (consM (varM 0) (nilM)))) (consM (plainM (litM (.int 0))) (nilM))))) (skipS)) (retS (lstM (consM (plainM (opM modA (m2L (varM 0) (litM (.int 2147483647))))) (consM (plainM (litM (.int 1))) (nilM)))))
noncomputable def fn__law_bag:Fn:=fnM 1 1 den__law_bag
noncomputable def den__law_row:MS:=seqS (asgS 3 (callM fn__law_take (consM (varM 0) (consM (opM addA (m2L (varM 2) (litM (.int 1)))) (nilM))))) (seqS (ifS (tstM (opM eqA (m2L (callM fn__law_take (consM (varM 0) (consM (litM (.int 8)) (nilM)))) (litM (.int 1))))) (asgS 3 (callM fn__law_take (consM (varM 0) (consM (litM (.int 41)) (nilM))))) (skipS)) (seqS (asgS 4 (litM (.str (Str.ofString "")))) (seqS (forS [5] true (rngI1 (varM 3)) (asgS 4 (opM addA (m2L (varM 4) (opM ixA (m2L (opM ixA (m2L (opM ixA (m2L (varM 1) (litM (.int 1)))) (callM fn__law_take (consM (varM 0) (consM (opM lenA (consM (opM ixA (m2L (varM 1) (litM (.int 1)))) (nilM))) (nilM)))))) (litM (.int 0)))))))) (retS (varM 4)))))
noncomputable def fn__law_row:Fn:=fnM 3 6 den__law_row
noncomputable def den__law_are_free:MS:=seqS (asgS 3 (opM dictA (consM (opM ixA (m2L (varM 0) (litM (.int 1)))) (nilM)))) (seqS (ifS (tstM (opM eqA (m2L (varM 1) (varM 2)))) (retS (litM (.bl false))) (skipS)) (retS (opM eqA (m2L (compM (seqI (opM dixA (m2L (varM 3) (varM 1)))) 0 (tstM (opM (inA false) (m2L (varM 0) (opM dixA (m2L (varM 4) (varM 3)))))) (varM 0)) (lstM (nilM))))))
noncomputable def fn__law_are_free:Fn:=fnM 3 4 den__law_are_free
noncomputable def den__law_lowest:MS:=seqS (asgS 2 (litM (.str (Str.ofString "")))) (seqS (whileS 41 (tstM (opM neA (m2L (varM 1) (litM (.str (Str.ofString "")))))) (forS [3,4] false (seqI (opM ixA (m2L (varM 0) (litM (.int 1))))) (seqS (asgS 5 (smeM findF (varM 1) (m1L (varM 3)))) (seqS (asgS 6 (compM (strI (opM slHi (m2L (varM 1) (varM 5)))) 0 (yesT) (callM fn__law_are_free (consM (varM 1) (consM (varM 4) (consM (varM 0) (nilM))))))) (ifS (andT (tstM (opM geA (m2L (varM 5) (litM (.int 0))))) (tstM (opM allA (consM (varM 6) (nilM))))) (seqS (asgS 2 (opM addA (m2L (varM 2) (varM 3)))) (seqS (asgS 1 (opM addA (m2L (opM slHi (m2L (varM 1) (varM 5))) (opM slLo (m2L (varM 1) (opM addA (m2L (varM 5) (litM (.int 1))))))))) (brkS))) (skipS)))))) (retS (varM 2)))
noncomputable def fn__law_lowest:Fn:=fnM 2 7 den__law_lowest
noncomputable def den__law_places:MS:=seqS (asgS 2 (dnewM)) (seqS (forS [3,4] false (enumI (varM 1)) (dputS 2 (varM 4) (opM addA (m2L (dgetM 2 (varM 4) (plainM (lstM (nilM)))) (lstM (consM (plainM (varM 3)) (nilM))))))) (seqS (asgS 5 (lstM (nilM))) (seqS (forS [3,4] false (enumI (varM 0)) (appS 5 (opM ixA (m2L (opM dixA (m2L (varM 2) (varM 4))) (smeM countF (opM slHi (m2L (varM 0) (varM 3))) (m1L (varM 4))))))) (retS (varM 5)))))
noncomputable def fn__law_places:Fn:=fnM 2 6 den__law_places
noncomputable def den_is_pair:MS:=retS (andM (opM (isiA isTup) (m1L (varM 0))) (opM eqA (m2L (opM lenA (consM (varM 0) (nilM))) (litM (.int 2)))))
noncomputable def fn_is_pair:Fn:=fnM 1 1 den_is_pair
noncomputable def den_is_whole:MS:=retS (andM (opM (isiA isInt) (m1L (varM 0))) (notM (opM (isiA isBool) (m1L (varM 0)))))
noncomputable def fn_is_whole:Fn:=fnM 1 1 den_is_whole
noncomputable def den_is_count_of_hands:MS:=retS (andM (callM fn_is_whole (consM (varM 0) (nilM))) (chnM leA leA (litM (.int 2)) (varM 0) (litM (.int 4))))
noncomputable def fn_is_count_of_hands:Fn:=fnM 1 1 den_is_count_of_hands
noncomputable def den_is_number_below:MS:=retS (andM (callM fn_is_whole (consM (varM 0) (nilM))) (chnM leA ltA (litM (.int 0)) (varM 0) (varM 1)))
noncomputable def fn_is_number_below:Fn:=fnM 2 2 den_is_number_below
noncomputable def den_are_numbers_below:MS:=retS (opM allA (consM (compM (seqI (varM 0)) 0 (yesT) (callM fn_is_number_below (consM (varM 0) (consM (varM 2) (nilM))))) (nilM)))
noncomputable def fn_are_numbers_below:Fn:=fnM 2 2 den_are_numbers_below
noncomputable def den_is_list_of_numbers_below:MS:=retS (andM (opM (isiA isLst) (m1L (varM 0))) (callM fn_are_numbers_below (consM (varM 0) (consM (varM 1) (nilM)))))
noncomputable def fn_is_list_of_numbers_below:Fn:=fnM 2 2 den_is_list_of_numbers_below
noncomputable def den_is_rising_list_below:MS:=seqS (ifS (notT (tstM (callM fn_is_list_of_numbers_below (consM (varM 0) (consM (varM 1) (nilM)))))) (retS (litM (.bl false))) (skipS)) (retS (opM allA (consM (compM (rngI1 (opM subA (m2L (opM lenA (consM (varM 0) (nilM))) (litM (.int 1))))) 0 (yesT) (opM ltA (m2L (opM ixA (m2L (varM 1) (varM 0))) (opM ixA (m2L (varM 1) (opM addA (m2L (varM 0) (litM (.int 1))))))))) (nilM))))
noncomputable def fn_is_rising_list_below:Fn:=fnM 2 2 den_is_rising_list_below
noncomputable def den_is_small_letter:MS:=retS (andM (opM (isiA isStr) (m1L (varM 0))) (andM (opM eqA (m2L (opM lenA (consM (varM 0) (nilM))) (litM (.int 1)))) (chnM leA leA (litM (.str (Str.ofString "a"))) (varM 0) (litM (.str (Str.ofString "z"))))))
noncomputable def fn_is_small_letter:Fn:=fnM 1 1 den_is_small_letter
noncomputable def den_is_entry:MS:=seqS (ifS (orT (notT (tstM (callM fn_is_pair (consM (varM 1) (nilM))))) (notT (tstM (callM fn_is_small_letter (consM (opM ixA (m2L (varM 1) (litM (.int 0)))) (nilM)))))) (retS (litM (.bl false))) (skipS)) (retS (andM (callM fn_is_rising_list_below (consM (opM ixA (m2L (varM 1) (litM (.int 1)))) (consM (varM 0) (nilM)))) (opM gtA (m2L (opM lenA (consM (opM ixA (m2L (varM 1) (litM (.int 1)))) (nilM))) (litM (.int 0))))))
noncomputable def fn_is_entry:Fn:=fnM 2 2 den_is_entry
noncomputable def den_are_entries:MS:=seqS (ifS (orT (notT (tstM (opM (isiA isLst) (m1L (varM 1))))) (notT (tstM (chnM leA leA (litM (.int 1)) (opM lenA (consM (varM 1) (nilM))) (litM (.int 6)))))) (retS (litM (.bl false))) (skipS)) (seqS (ifS (notT (tstM (opM allA (consM (compM (seqI (varM 1)) 0 (yesT) (callM fn_is_entry (consM (varM 1) (consM (varM 0) (nilM))))) (nilM))))) (retS (litM (.bl false))) (skipS)) (retS (opM allA (consM (compM (rngI1 (opM subA (m2L (opM lenA (consM (varM 1) (nilM))) (litM (.int 1))))) 0 (yesT) (opM ltA (m2L (opM ixA (m2L (opM ixA (m2L (varM 2) (varM 0))) (litM (.int 0)))) (opM ixA (m2L (opM ixA (m2L (varM 2) (opM addA (m2L (varM 0) (litM (.int 1)))))) (litM (.int 0))))))) (nilM)))))
noncomputable def fn_are_entries:Fn:=fnM 2 2 den_are_entries
noncomputable def den_is_house:MS:=seqS (ifS (notT (tstM (callM fn_is_pair (consM (varM 0) (nilM))))) (retS (litM (.bl false))) (skipS)) (retS (andM (callM fn_is_count_of_hands (consM (opM ixA (m2L (varM 0) (litM (.int 0)))) (nilM))) (callM fn_are_entries (consM (opM ixA (m2L (varM 0) (litM (.int 0)))) (consM (opM ixA (m2L (varM 0) (litM (.int 1)))) (nilM))))))
noncomputable def fn_is_house:Fn:=fnM 1 1 den_is_house
noncomputable def den_need_house:MS:=ifS (notT (tstM (callM fn_is_house (consM (varM 0) (nilM))))) (stuckS) (skipS)
noncomputable def fn_need_house:Fn:=fnM 1 1 den_need_house
noncomputable def den_letters_of:MS:=retS (smeM joinF (litM (.str (Str.ofString ""))) (m1L (compM (seqI (opM ixA (m2L (varM 0) (litM (.int 1))))) 0 (yesT) (opM ixA (m2L (varM 0) (litM (.int 0)))))))
noncomputable def fn_letters_of:Fn:=fnM 1 1 den_letters_of
noncomputable def den_is_row:MS:=seqS (expS (callM fn_need_house (consM (varM 0) (nilM)))) (seqS (ifS (notT (tstM (opM (isiA isStr) (m1L (varM 1))))) (retS (litM (.bl false))) (skipS)) (seqS (asgS 2 (callM fn_letters_of (consM (varM 0) (nilM)))) (retS (opM allA (consM (compM (strI (varM 1)) 0 (yesT) (opM (inA false) (m2L (varM 0) (varM 3)))) (nilM))))))
noncomputable def fn_is_row:Fn:=fnM 2 3 den_is_row
noncomputable def den_need_row:MS:=ifS (notT (tstM (callM fn_is_row (consM (varM 0) (consM (varM 1) (nilM)))))) (stuckS) (skipS)
noncomputable def fn_need_row:Fn:=fnM 2 2 den_need_row
noncomputable def den_hands_of:MS:=retS (opM ixA (m2L (opM ixA (m2L (opM ixA (m2L (varM 0) (litM (.int 1)))) (smeM indexF (callM fn_letters_of (consM (varM 0) (nilM))) (m1L (varM 1))))) (litM (.int 1))))
noncomputable def fn_hands_of:Fn:=fnM 2 2 den_hands_of
noncomputable def den_is_hand_in_both:MS:=retS (opM anyA (consM (compM (seqI (varM 0)) 0 (yesT) (opM (inA false) (m2L (varM 0) (varM 2)))) (nilM)))
noncomputable def fn_is_hand_in_both:Fn:=fnM 2 2 den_is_hand_in_both
noncomputable def den_front_places:MS:=seqS (asgS 2 (lstM (nilM))) (seqS (asgS 3 (lstM (nilM))) (seqS (forS [4,5] false (enumI (varM 1)) (seqS (asgS 6 (callM fn_hands_of (consM (varM 0) (consM (varM 5) (nilM))))) (seqS (ifS (notT (tstM (callM fn_is_hand_in_both (consM (varM 6) (consM (varM 3) (nilM)))))) (appS 2 (varM 4)) (skipS)) (extS 3 (varM 6))))) (retS (varM 2))))
noncomputable def fn_front_places:Fn:=fnM 2 7 den_front_places
noncomputable def den_place_of_first:MS:=retS (opM minKA (m2L (callM fn_front_places (consM (varM 0) (consM (varM 1) (nilM)))) (varM 1)))
noncomputable def fn_place_of_first:Fn:=fnM 2 2 den_place_of_first
noncomputable def den_exchanges:MS:=seqS (expS (callM fn_need_row (consM (varM 0) (consM (varM 1) (nilM))))) (seqS (asgS 2 (lstM (nilM))) (seqS (forS [3] true (rngI1 (opM lenA (consM (varM 1) (nilM)))) (seqS (asgS 4 (opM addA (m2L (varM 3) (callM fn_place_of_first (consM (varM 0) (consM (opM slLo (m2L (varM 1) (varM 3))) (nilM))))))) (seqS (extS 2 (opM lrngA (consM (opM subA (m2L (varM 4) (litM (.int 1)))) (consM (opM subA (m2L (varM 3) (litM (.int 1)))) (consM (opM negA (m1L (litM (.int 1)))) nilM))))) (asgS 1 (opM addA (m2L (opM addA (m2L (opM addA (m2L (opM slHi (m2L (varM 1) (varM 3))) (opM ixA (m2L (varM 1) (varM 4))))) (opM slLoHi (consM (varM 1) (consM (varM 3) (consM (varM 4) nilM)))))) (opM slLo (m2L (varM 1) (opM addA (m2L (varM 4) (litM (.int 1)))))))))))) (retS (varM 2))))
noncomputable def fn_exchanges:Fn:=fnM 2 5 den_exchanges
noncomputable def den__law_cell:MS:=seqS (ifS (tstM (opM ltA (m2L (varM 1) (opM lenA (consM (varM 0) (nilM)))))) (retS (opM ixA (m2L (varM 0) (varM 1)))) (skipS)) (retS (litM (.int 0)))
noncomputable def fn__law_cell:Fn:=fnM 2 2 den__law_cell
noncomputable def den__law_whole:MS:=retS (andM (opM (isiA isInt) (m1L (varM 0))) (notM (opM (isiA isBool) (m1L (varM 0)))))
noncomputable def fn__law_whole:Fn:=fnM 1 1 den__law_whole
noncomputable def den__law_walked:MS:=seqS (forS [3] true (seqI (varM 2)) (seqS (ifS (orT (notT (tstM (callM fn__law_whole (consM (varM 3) (nilM))))) (notT (tstM (chnM leA ltA (litM (.int 0)) (varM 3) (opM subA (m2L (opM lenA (consM (varM 1) (nilM))) (litM (.int 1)))))))) (retS (litM .non)) (skipS)) (seqS (ifS (notT (tstM (callM fn__law_are_free (consM (varM 0) (consM (opM ixA (m2L (varM 1) (varM 3))) (consM (opM ixA (m2L (varM 1) (opM addA (m2L (varM 3) (litM (.int 1)))))) (nilM))))))) (retS (litM .non)) (skipS)) (seqS (asgS 4 (opM slLoHi (consM (varM 1) (consM (varM 3) (consM (opM addA (m2L (varM 3) (litM (.int 2)))) nilM))))) (asgS 1 (opM addA (m2L (opM addA (m2L (opM slHi (m2L (varM 1) (varM 3))) (opM revA (m2L (varM 4) (opM negA (m1L (litM (.int 1)))))))) (opM slLo (m2L (varM 1) (opM addA (m2L (varM 3) (litM (.int 2))))))))))))) (retS (varM 1))
noncomputable def fn__law_walked:Fn:=fnM 3 5 den__law_walked
noncomputable def den_law:MS:=seqS (asgS 1 (callM fn__law_house (consM (callM fn__law_bag (consM (callM fn__law_cell (consM (varM 0) (consM (litM (.int 0)) (nilM)))) (nilM))) (nilM)))) (seqS (asgS 2 (callM fn__law_house_copy (consM (varM 1) (nilM)))) (seqS (forS [3] true (rngI2 (litM (.int 1)) (opM maxA (consM (litM (.int 4)) (consM (opM minA (consM (opM lenA (consM (varM 0) (nilM))) (consM (litM (.int 9)) (nilM)))) (nilM))))) (seqS (asgS 4 (callM fn__law_row (consM (callM fn__law_bag (consM (opM addA (m2L (callM fn__law_cell (consM (varM 0) (consM (varM 3) (nilM)))) (varM 3))) (nilM))) (consM (varM 1) (consM (litM (.int 12)) (nilM)))))) (seqS (asgS 5 (callM fn__law_lowest (consM (varM 1) (consM (varM 4) (nilM))))) (seqS (asgS 6 (callM fn__law_places (consM (varM 4) (consM (varM 5) (nilM))))) (seqS (asgS 7 (litM (.int 0))) (seqS (forS [8] true (rngI1 (opM lenA (consM (varM 6) (nilM)))) (asgS 7 (opM addA (m2L (varM 7) (opM lenA (consM (compM (seqI (opM lslHi (m2L (varM 6) (varM 8)))) 0 (tstM (opM gtA (m2L (varM 0) (opM ixA (m2L (varM 7) (varM 9)))))) (varM 0)) (nilM))))))) (seqS (asgS 9 (callM fn_exchanges (consM (varM 2) (consM (varM 4) (nilM))))) (seqS (ifS (orT (notT (tstM (opM (isiA isLst) (m1L (varM 9))))) (orT (tstM (opM neA (m2L (opM lenA (consM (varM 9) (nilM))) (varM 7)))) (tstM (opM neA (m2L (callM fn__law_walked (consM (varM 1) (consM (varM 4) (consM (varM 9) (nilM))))) (varM 5)))))) (retS (litM (.bl false))) (skipS)) (seqS (appS 9 (opM negA (m1L (litM (.int 1))))) (seqS (asgS 10 (callM fn_exchanges (consM (varM 2) (consM (varM 4) (nilM))))) (seqS (ifS (orT (notT (tstM (opM (isiA isLst) (m1L (varM 10))))) (orT (tstM (opM neA (m2L (opM lenA (consM (varM 10) (nilM))) (varM 7)))) (tstM (opM neA (m2L (callM fn__law_walked (consM (varM 1) (consM (varM 4) (consM (varM 10) (nilM))))) (varM 5)))))) (retS (litM (.bl false))) (skipS)) (ifS (tstM (opM neA (m2L (callM fn_exchanges (consM (varM 2) (consM (varM 5) (nilM)))) (lstM (nilM))))) (retS (litM (.bl false))) (skipS))))))))))))) (retS (opM eqA (m2L (varM 2) (varM 1))))))
noncomputable def fn_law:Fn:=fnM 1 11 den_law
local macro_rules | `(tactic| walk_at $s:str)=>do
 let n:=s.getString
 if n.startsWith "v" && n.length < 4 && n != "vis" then `(tactic| exact je_var $(Lean.quote (n.drop 1).toNat!) rfl (by walk_at "vis") (by decide +kernel) (by decide +kernel)) else Lean.Macro.throwUnsupported
local macro_rules | `(tactic| walk_at "vis")=>`(tactic| first | exact .inl rfl | exact .inr (.inl rfl) | exact .inr (.inr rfl))
local macro_rules | `(tactic| walk_at "loc")=>`(tactic| first | exact .inl rfl | exact .inr rfl)
structure Blt2 (mg:Str→Option Value):Prop where
 sorted:mg "sorted" = none
 set:mg "set" = none
 enumerate:mg "enumerate" = none
section
variable {P:Program} {w:World} {K:PySem.W.Frag} {mg:Str→Option Value} {base:Heap}
theorem ok__law_take {f:Addr} {fd:FuncData} (F:Fun K "_law_take" "_law_take" (top 33) f fd) (B:Blt mg K) (B2:Blt2 mg) :
  FnOk P w K mg base CX0 1 f fd ["_law_bag_here","_law_many"] (spJ K fn__law_take 2):=by
 refine fn_ok (N:=["_law_bag_here","_law_many","_law_digit"]) F ⟨rfl,rfl,rfl,by decide +kernel,rfl,by decide +kernel,by decide +kernel⟩ fun cdv A outer s H E hr=>?_
 have nd3:List.Nodup (["_law_bag_here","_law_many","_law_digit"]:List Str):=by decide +kernel
 refine jss_cons ?_ ?_
 refine js_if ?_ ?_ ?_
 refine jt_cmp ok_eq (op_eqD hr) (nomark _) ?_ ?_
 refine je_ix ok_ix ix_seq (fun _ _=>rfl) ?_ ?_
 walk_at "v0"
 exact je_int
 exact je_int
 refine jss_cons ?_ ?_
 refine js_asg 2 nd3 rfl (by walk_at "loc") rfl rfl ?_
 refine je_bin ok_mod op_mod ?_ ?_
 refine je_ix ok_ix ix_seq (fun _ _=>rfl) ?_ ?_
 walk_at "v0"
 exact je_int
 walk_at "v1"
 refine jss_cons ?_ ?_
 refine js_put 0 rfl (by walk_at "vis") (by decide +kernel) (by decide +kernel) (fun _=>rfl) rfl rfl rfl ?_ ?_
 exact je_int
 refine je_bin ok_fdiv op_fdiv ?_ ?_
 refine je_ix ok_ix ix_seq (fun _ _=>rfl) ?_ ?_
 walk_at "v0"
 exact je_int
 walk_at "v1"
 refine jss_one ?_
 refine js_ret ?_
 walk_at "v2"
 exact jss_nil
 refine jss_cons ?_ ?_
 refine js_put 0 rfl (by walk_at "vis") (by decide +kernel) (by decide +kernel) (fun _=>rfl) rfl rfl rfl ?_ ?_
 exact je_int
 refine je_bin ok_mod op_mod ?_ ?_
 refine je_bin ok_add op_addJ ?_ ?_
 refine je_bin ok_add op_addJ ?_ ?_
 refine je_bin ok_mul op_mul ?_ ?_
 refine je_ix ok_ix ix_seq (fun _ _=>rfl) ?_ ?_
 walk_at "v0"
 exact je_int
 exact je_int
 refine je_bin ok_mul op_mul ?_ ?_
 refine je_bin ok_mul op_mul ?_ ?_
 exact je_int
 refine je_ix ok_ix ix_seq (fun _ _=>rfl) ?_ ?_
 walk_at "v0"
 exact je_int
 refine je_ix ok_ix ix_seq (fun _ _=>rfl) ?_ ?_
 walk_at "v0"
 exact je_int
 exact je_int
 exact je_int
 refine jss_cons ?_ ?_
 refine js_put 0 rfl (by walk_at "vis") (by decide +kernel) (by decide +kernel) (fun _=>rfl) rfl rfl rfl ?_ ?_
 exact je_int
 refine je_bin ok_add op_addJ ?_ ?_
 refine je_ix ok_ix ix_seq (fun _ _=>rfl) ?_ ?_
 walk_at "v0"
 exact je_int
 exact je_int
 refine jss_one ?_
 refine js_ret ?_
 refine je_bin ok_mod op_mod ?_ ?_
 refine je_bin ok_fdiv op_fdiv ?_ ?_
 refine je_bin ok_mod op_mod ?_ ?_
 refine je_bin ok_mul op_mul ?_ ?_
 refine je_ix ok_ix ix_seq (fun _ _=>rfl) ?_ ?_
 walk_at "v0"
 exact je_int
 exact je_int
 exact je_int
 exact je_int
 walk_at "v1"
theorem ok__law_house {f:Addr} {fd:FuncData} (F:Fun K "_law_house" "_law_house" (top 34) f fd) (B:Blt mg K) (B2:Blt2 mg) (D__law_take:Def P w K mg base CX0 1 "_law_take" ["_law_bag_here","_law_many"] (spJ K fn__law_take 2)) :
  FnOk P w K mg base CX0 2 f fd ["_law_bag_here"] (spJ K fn__law_house 1):=by
 refine fn_ok (N:=["_law_bag_here","_law_hands","_law_many","_law_few","_law_letters","_law_at","_law_k","_law_bits"]) F ⟨rfl,rfl,rfl,by decide +kernel,rfl,by decide +kernel,by decide +kernel⟩ fun cdv A outer s H E hr=>?_
 have nd8:List.Nodup (["_law_bag_here","_law_hands","_law_many","_law_few","_law_letters","_law_at","_law_k","_law_bits"]:List Str):=by decide +kernel
 refine jss_cons ?_ ?_
 refine js_asg 1 nd8 rfl (by walk_at "loc") rfl rfl ?_
 refine je_bin ok_add op_addJ ?_ ?_
 exact je_int
 refine je_call D__law_take fnM_len rfl rfl rfl rfl rfl hr (by decide) pass0 (by decide +kernel) rfl rfl rfl ?_
 refine ja_cons rfl ?_ ?_
 walk_at "v0"
 refine ja_cons rfl ?_ ?_
 exact je_int
 exact ja_nil
 refine jss_cons ?_ ?_
 refine js_asg 2 nd8 rfl (by walk_at "loc") rfl rfl ?_
 refine je_bin ok_add op_addJ ?_ ?_
 exact je_int
 refine je_call D__law_take fnM_len rfl rfl rfl rfl rfl hr (by decide) pass0 (by decide +kernel) rfl rfl rfl ?_
 refine ja_cons rfl ?_ ?_
 walk_at "v0"
 refine ja_cons rfl ?_ ?_
 exact je_int
 exact ja_nil
 refine jss_cons ?_ ?_
 refine js_asg 3 nd8 rfl (by walk_at "loc") rfl rfl ?_
 refine je_call D__law_take fnM_len rfl rfl rfl rfl rfl hr (by decide) pass0 (by decide +kernel) rfl rfl rfl ?_
 refine ja_cons rfl ?_ ?_
 walk_at "v0"
 refine ja_cons rfl ?_ ?_
 exact je_int
 exact ja_nil
 refine jss_cons ?_ ?_
 refine js_asg 4 nd8 rfl (by walk_at "loc") rfl rfl ?_
 refine je_lst ?_
 exact ja_nil
 refine jss_cons ?_ ?_
 refine js_asg 5 nd8 rfl (by walk_at "loc") rfl rfl ?_
 exact je_int
 refine jss_cons ?_ ?_
 refine js_for PassesOwn.never rfl ?_ ?_ ?_ (fun _=>rfl)
 refine ji_rng1 rfl B.range rfl ?_
 walk_at "v2"
 exact pg_one 6 nd8 rfl (by walk_at "loc") rfl
 refine jss_cons ?_ ?_
 refine js_asg 5 nd8 rfl (by walk_at "loc") rfl rfl ?_
 refine je_bin ok_add op_addJ ?_ ?_
 walk_at "v5"
 refine je_call D__law_take fnM_len rfl rfl rfl rfl rfl hr (by decide) pass0 (by decide +kernel) rfl rfl rfl ?_
 refine ja_cons rfl ?_ ?_
 walk_at "v0"
 refine ja_cons rfl ?_ ?_
 refine je_bin ok_sub op_sub ?_ ?_
 refine je_bin ok_add op_addJ ?_ ?_
 refine je_bin ok_sub op_sub ?_ ?_
 exact je_int
 walk_at "v2"
 walk_at "v6"
 walk_at "v5"
 exact ja_nil
 refine jss_cons ?_ ?_
 refine js_asg 7 nd8 rfl (by walk_at "loc") rfl rfl ?_
 refine je_bin ok_add op_addJ ?_ ?_
 exact je_int
 refine je_call D__law_take fnM_len rfl rfl rfl rfl rfl hr (by decide) pass0 (by decide +kernel) rfl rfl rfl ?_
 refine ja_cons rfl ?_ ?_
 walk_at "v0"
 refine ja_cons rfl ?_ ?_
 refine je_bin ok_sub op_sub ?_ ?_
 refine je_bin ok_shl op_shl ?_ ?_
 exact je_int
 walk_at "v1"
 exact je_int
 exact ja_nil
 refine jss_cons ?_ ?_
 refine js_if ?_ ?_ ?_
 refine jt_cmp ok_eq (op_eqD hr) (nomark _) ?_ ?_
 walk_at "v3"
 exact je_int
 refine jss_one ?_
 refine js_asg 7 nd8 rfl (by walk_at "loc") rfl rfl ?_
 refine je_bin ok_bor op_or ?_ ?_
 refine je_bin ok_shl op_shl ?_ ?_
 exact je_int
 refine je_call D__law_take fnM_len rfl rfl rfl rfl rfl hr (by decide) pass0 (by decide +kernel) rfl rfl rfl ?_
 refine ja_cons rfl ?_ ?_
 walk_at "v0"
 refine ja_cons rfl ?_ ?_
 walk_at "v1"
 exact ja_nil
 refine je_bin ok_shl op_shl ?_ ?_
 exact je_int
 refine je_call D__law_take fnM_len rfl rfl rfl rfl rfl hr (by decide) pass0 (by decide +kernel) rfl rfl rfl ?_
 refine ja_cons rfl ?_ ?_
 walk_at "v0"
 refine ja_cons rfl ?_ ?_
 walk_at "v1"
 exact ja_nil
 exact jss_nil
 refine jss_cons ?_ ?_
 refine js_app 4 rfl (by walk_at "vis") (by decide +kernel) (by decide +kernel) rfl rfl rfl rfl ?_
 refine je_tupV ?_
 refine ja_cons rfl ?_ ?_
 refine je_plain ?_
 refine je_ix ok_ix ix_seq (fun _ _=>rfl) ?_ ?_
 exact je_str (by decide +kernel)
 walk_at "v5"
 refine ja_cons rfl ?_ ?_
 refine je_plain ?_
 refine je_lc1 (by rfl) rfl nd8 (by rfl) (fun _=>rfl) ?_ ?_ ?_
 refine ji_rng1 rfl B.range rfl ?_
 walk_at "v1"
 refine jtc_one fun _ _ _ _ _=>?_
 refine jt_cmp ok_eq (op_eqD hr) (nomark _) ?_ ?_
 refine je_bin ok_band op_and ?_ ?_
 refine je_bin ok_shr op_shr ?_ ?_
 walk_at "v8"
 walk_at "v0"
 exact je_int
 exact je_int
 intro _ _ _ _ _
 walk_at "v0"
 exact ja_nil
 refine jss_one ?_
 refine js_asg 5 nd8 rfl (by walk_at "loc") rfl rfl ?_
 refine je_bin ok_add op_addJ ?_ ?_
 walk_at "v5"
 exact je_int
 refine jss_one ?_
 refine js_ret ?_
 refine je_tupV ?_
 refine ja_cons rfl ?_ ?_
 refine je_plain ?_
 walk_at "v1"
 refine ja_cons rfl ?_ ?_
 refine je_plain ?_
 walk_at "v4"
 exact ja_nil
theorem ok__law_house_copy {f:Addr} {fd:FuncData} (F:Fun K "_law_house_copy" "_law_house_copy" (top 39) f fd) (B:Blt mg K) (B2:Blt2 mg) :
  FnOk P w K mg base CX0 1 f fd ["_law_house_here"] (spJ K fn__law_house_copy 1):=by
 refine fn_ok (N:=["_law_house_here"]) F ⟨rfl,rfl,rfl,by decide +kernel,rfl,by decide +kernel,by decide +kernel⟩ fun cdv A outer s H E hr=>?_
 have nd1:List.Nodup (["_law_house_here"]:List Str):=by decide +kernel
 refine jss_one ?_
 refine js_ret ?_
 refine je_tupV ?_
 refine ja_cons rfl ?_ ?_
 refine je_plain ?_
 refine je_ix ok_ix ix_seq (fun _ _=>rfl) ?_ ?_
 walk_at "v0"
 exact je_int
 refine ja_cons rfl ?_ ?_
 refine je_plain ?_
 refine je_lc2 (by rfl) rfl nd1 (by decide +kernel) (by rfl) (by rfl) (fun _=>rfl) ?_ ?_ ?_
 refine ji_seq ?_
 refine je_ix ok_ix ix_seq (fun _ _=>rfl) ?_ ?_
 walk_at "v0"
 exact je_int
 exact jtc_nil
 intro _ _ _ _ _
 refine je_tupV ?_
 refine ja_cons rfl ?_ ?_
 refine je_plain ?_
 walk_at "v0"
 refine ja_cons rfl ?_ ?_
 refine je_plain ?_
 refine je_callT ok_list call_list_of B.list PyProof.Rows.Boot.«list» (by decide +kernel) (by decide +kernel) rfl rfl rfl ?_
 refine ja_cons rfl ?_ ?_
 walk_at "v1"
 exact ja_nil
 exact ja_nil
 exact ja_nil
theorem ok__law_bag {f:Addr} {fd:FuncData} (F:Fun K "_law_bag" "_law_bag" (top 32) f fd) (B:Blt mg K) (B2:Blt2 mg) :
  FnOk P w K mg base CX0 1 f fd ["_law_cell_here"] (spJ K fn__law_bag 1):=by
 refine fn_ok (N:=["_law_cell_here"]) F ⟨rfl,rfl,rfl,by decide +kernel,rfl,by decide +kernel,by decide +kernel⟩ fun cdv A outer s H E hr=>?_
 refine jss_cons ?_ ?_
 refine js_if ?_ ?_ ?_
 refine jt_cmp ok_ge op_ge (nomark _) ?_ ?_
 refine je_callB ok_abs call_abs B.abs PyProof.Rows.Boot.«abs» (by decide +kernel) (by decide +kernel) rfl rfl rfl ?_
 refine ja_cons rfl ?_ ?_
 walk_at "v0"
 exact ja_nil
 refine je_bin ok_pow op_pow ?_ ?_
 exact je_int
 exact je_int
 refine jss_one ?_
 refine js_ret ?_
 refine je_lst ?_
 refine ja_cons rfl ?_ ?_
 refine je_plain ?_
 refine je_callB ok_abs call_abs B.abs PyProof.Rows.Boot.«abs» (by decide +kernel) (by decide +kernel) rfl rfl rfl ?_
 refine ja_cons rfl ?_ ?_
 walk_at "v0"
 exact ja_nil
 refine ja_cons rfl ?_ ?_
 refine je_plain ?_
 exact je_int
 exact ja_nil
 exact jss_nil
 refine jss_one ?_
 refine js_ret ?_
 refine je_lst ?_
 refine ja_cons rfl ?_ ?_
 refine je_plain ?_
 refine je_bin ok_mod op_mod ?_ ?_
 walk_at "v0"
 exact je_int
 refine ja_cons rfl ?_ ?_
 refine je_plain ?_
 exact je_int
 exact ja_nil
theorem ok__law_row {f:Addr} {fd:FuncData} (F:Fun K "_law_row" "_law_row" (top 35) f fd) (B:Blt mg K) (B2:Blt2 mg) (D__law_take:Def P w K mg base CX0 1 "_law_take" ["_law_bag_here","_law_many"] (spJ K fn__law_take 2)) :
  FnOk P w K mg base CX0 2 f fd ["_law_bag_here","_law_house_here","_law_most"] (spJ K fn__law_row 3):=by
 refine fn_ok (N:=["_law_bag_here","_law_house_here","_law_most","_law_size","_law_row_here","_law_k"]) F ⟨rfl,rfl,rfl,by decide +kernel,rfl,by decide +kernel,by decide +kernel⟩ fun cdv A outer s H E hr=>?_
 have nd6:List.Nodup (["_law_bag_here","_law_house_here","_law_most","_law_size","_law_row_here","_law_k"]:List Str):=by decide +kernel
 refine jss_cons ?_ ?_
 refine js_asg 3 nd6 rfl (by walk_at "loc") rfl rfl ?_
 refine je_call D__law_take fnM_len rfl rfl rfl rfl rfl hr (by decide) pass0 (by decide +kernel) rfl rfl rfl ?_
 refine ja_cons rfl ?_ ?_
 walk_at "v0"
 refine ja_cons rfl ?_ ?_
 refine je_bin ok_add op_addJ ?_ ?_
 walk_at "v2"
 exact je_int
 exact ja_nil
 refine jss_cons ?_ ?_
 refine js_if ?_ ?_ ?_
 refine jt_cmp ok_eq (op_eqD hr) (nomark _) ?_ ?_
 refine je_call D__law_take fnM_len rfl rfl rfl rfl rfl hr (by decide) pass0 (by decide +kernel) rfl rfl rfl ?_
 refine ja_cons rfl ?_ ?_
 walk_at "v0"
 refine ja_cons rfl ?_ ?_
 exact je_int
 exact ja_nil
 exact je_int
 refine jss_one ?_
 refine js_asg 3 nd6 rfl (by walk_at "loc") rfl rfl ?_
 refine je_call D__law_take fnM_len rfl rfl rfl rfl rfl hr (by decide) pass0 (by decide +kernel) rfl rfl rfl ?_
 refine ja_cons rfl ?_ ?_
 walk_at "v0"
 refine ja_cons rfl ?_ ?_
 exact je_int
 exact ja_nil
 exact jss_nil
 refine jss_cons ?_ ?_
 refine js_asg 4 nd6 rfl (by walk_at "loc") rfl rfl ?_
 exact je_str (by decide +kernel)
 refine jss_cons ?_ ?_
 refine js_for PassesOwn.never rfl ?_ ?_ ?_ (fun _=>rfl)
 refine ji_rng1 rfl B.range rfl ?_
 walk_at "v3"
 exact pg_one 5 nd6 rfl (by walk_at "loc") rfl
 refine jss_one ?_
 refine js_asg 4 nd6 rfl (by walk_at "loc") rfl rfl ?_
 refine je_bin ok_add op_addJ ?_ ?_
 walk_at "v4"
 refine je_ix ok_ix ix_seq (fun _ _=>rfl) ?_ ?_
 refine je_ix ok_ix ix_seq (fun _ _=>rfl) ?_ ?_
 refine je_ix ok_ix ix_seq (fun _ _=>rfl) ?_ ?_
 walk_at "v1"
 exact je_int
 refine je_call D__law_take fnM_len rfl rfl rfl rfl rfl hr (by decide) pass0 (by decide +kernel) rfl rfl rfl ?_
 refine ja_cons rfl ?_ ?_
 walk_at "v0"
 refine ja_cons rfl ?_ ?_
 refine je_callB ok_len call_lenJ B.len PyProof.Rows.Boot.«len» (by decide +kernel) (by decide +kernel) rfl rfl rfl ?_
 refine ja_cons rfl ?_ ?_
 refine je_ix ok_ix ix_seq (fun _ _=>rfl) ?_ ?_
 walk_at "v1"
 exact je_int
 exact ja_nil
 exact ja_nil
 exact je_int
 refine jss_one ?_
 refine js_ret ?_
 walk_at "v4"
theorem ok__law_are_free {f:Addr} {fd:FuncData} (F:Fun K "_law_are_free" "_law_are_free" (top 37) f fd) (B:Blt mg K) (B2:Blt2 mg) :
  FnOk P w K mg base CX0 1 f fd ["_law_house_here","_law_one","_law_other"] (spJ K fn__law_are_free 3):=by
 refine fn_ok (N:=["_law_house_here","_law_one","_law_other","_law_owned"]) F ⟨rfl,rfl,rfl,by decide +kernel,rfl,by decide +kernel,by decide +kernel⟩ fun cdv A outer s H E hr=>?_
 have nd4:List.Nodup (["_law_house_here","_law_one","_law_other","_law_owned"]:List Str):=by decide +kernel
 refine jss_cons ?_ ?_
 refine js_asg 3 nd4 rfl (by walk_at "loc") rfl rfl ?_
 refine je_callT ok_dict (call_dictJ rfl) B.dict PyProof.Rows.Boot.«dict» (by decide +kernel) (by decide +kernel) rfl rfl rfl ?_
 refine ja_cons rfl ?_ ?_
 refine je_ix ok_ix ix_seq (fun _ _=>rfl) ?_ ?_
 walk_at "v0"
 exact je_int
 exact ja_nil
 refine jss_cons ?_ ?_
 refine js_if ?_ ?_ ?_
 refine jt_cmp ok_eq (op_eqD hr) (nomark _) ?_ ?_
 walk_at "v1"
 walk_at "v2"
 refine jss_one ?_
 refine js_ret ?_
 exact je_bl
 exact jss_nil
 refine jss_one ?_
 refine js_ret ?_
 refine je_cmp ok_eq (op_eqD hr) (nomark _) ?_ ?_
 refine je_lc1 (by rfl) rfl nd4 (by rfl) (fun _=>rfl) ?_ ?_ ?_
 refine ji_seq ?_
 refine je_dix hr (fun _ _=>rfl) ?_ ?_
 walk_at "v3"
 walk_at "v1"
 refine jtc_one fun _ _ _ _ _=>?_
 refine jt_cmp (ok_in false) op_inJ (by with_unfolding_all rfl) ?_ ?_
 walk_at "v0"
 refine je_dix hr (fun _ _=>rfl) ?_ ?_
 walk_at "v4"
 walk_at "v3"
 intro _ _ _ _ _
 walk_at "v0"
 refine je_lst ?_
 exact ja_nil
theorem ok__law_lowest {f:Addr} {fd:FuncData} (F:Fun K "_law_lowest" "_law_lowest" (top 38) f fd) (B:Blt mg K) (B2:Blt2 mg) (D__law_are_free:Def P w K mg base CX0 1 "_law_are_free" ["_law_house_here","_law_one","_law_other"] (spJ K fn__law_are_free 3)) :
  FnOk P w K mg base CX0 2 f fd ["_law_house_here","_law_row_here"] (spJ K fn__law_lowest 2):=by
 refine fn_ok (N:=["_law_house_here","_law_row_here","_law_made","_law_letter","_law_owned","_law_at","_law_loose"]) F ⟨rfl,rfl,rfl,by decide +kernel,rfl,by decide +kernel,by decide +kernel⟩ fun cdv A outer s H E hr=>?_
 have nd7:List.Nodup (["_law_house_here","_law_row_here","_law_made","_law_letter","_law_owned","_law_at","_law_loose"]:List Str):=by decide +kernel
 refine jss_cons ?_ ?_
 refine js_asg 2 nd7 rfl (by walk_at "loc") rfl rfl ?_
 exact je_str (by decide +kernel)
 refine jss_cons ?_ ?_
 refine js_while 41 PassesOwn.never ?_ ?_
 refine jt_cmp ok_ne (op_neD hr) (nomark _) ?_ ?_
 walk_at "v1"
 exact je_str (by decide +kernel)
 refine jss_one ?_
 refine js_for PassesOwn.never rfl ?_ ?_ ?_ (fun _=>rfl)
 refine ji_seq ?_
 refine je_ix ok_ix ix_seq (fun _ _=>rfl) ?_ ?_
 walk_at "v0"
 exact je_int
 refine pg_many rfl ?_ rfl rfl
 refine pgn_cons 3 nd7 rfl (by walk_at "loc") rfl ?_ rfl
 refine pgn_cons 4 nd7 rfl (by walk_at "loc") rfl ?_ rfl
 exact pgn_nil
 refine jss_cons ?_ ?_
 refine js_asg 5 nd7 rfl (by walk_at "loc") rfl rfl ?_
 refine je_find rfl rfl rfl ?_ ?_
 walk_at "v1"
 walk_at "v3"
 refine jss_cons ?_ ?_
 refine js_asgLc 6 nd7 rfl rfl (by rfl) rfl (by rfl) (fun _=>rfl) rfl ?_ ?_ ?_
 refine ji_str ?_
 refine je_slHi ?_ ?_
 walk_at "v1"
 walk_at "v5"
 exact jtc_nil
 intro _ _ _ _ _
 refine je_call D__law_are_free fnM_len rfl rfl rfl rfl rfl hr (by decide) pass0 (by decide +kernel) rfl rfl rfl ?_
 refine ja_cons rfl ?_ ?_
 walk_at "v1"
 refine ja_cons rfl ?_ ?_
 walk_at "v4"
 refine ja_cons rfl ?_ ?_
 walk_at "v0"
 exact ja_nil
 refine jss_one ?_
 refine js_if ?_ ?_ ?_
 refine jt_bool ?_
 refine jw_and ?_ ?_
 refine jt_cmp ok_ge op_ge (nomark _) ?_ ?_
 walk_at "v5"
 exact je_int
 refine jw_and1 ?_
 refine jt_val (fun _=>rfl) ?_
 refine je_callB ok_all (call_all rfl) B.all PyProof.Rows.Boot.«all» (by decide +kernel) (by decide +kernel) rfl rfl rfl ?_
 refine ja_cons rfl ?_ ?_
 walk_at "v6"
 exact ja_nil
 refine jss_cons ?_ ?_
 refine js_asg 2 nd7 rfl (by walk_at "loc") rfl rfl ?_
 refine je_bin ok_add op_addJ ?_ ?_
 walk_at "v2"
 walk_at "v3"
 refine jss_cons ?_ ?_
 refine js_asg 1 nd7 rfl (by walk_at "loc") rfl rfl ?_
 refine je_bin ok_add op_addJ ?_ ?_
 refine je_slHi ?_ ?_
 walk_at "v1"
 walk_at "v5"
 refine je_slLo ?_ ?_
 walk_at "v1"
 refine je_bin ok_add op_addJ ?_ ?_
 walk_at "v5"
 exact je_int
 refine jss_one ?_
 exact js_break
 exact jss_nil
 refine jss_one ?_
 refine js_ret ?_
 walk_at "v2"
theorem ok__law_places {f:Addr} {fd:FuncData} (F:Fun K "_law_places" "_law_places" (top 41) f fd) (B:Blt mg K) (B2:Blt2 mg) :
  FnOk P w K mg base CX0 1 f fd ["_law_row_here","_law_low"] (spJ K fn__law_places 2):=by
 refine fn_ok (N:=["_law_row_here","_law_low","_law_spots","_law_place","_law_letter","_law_found"]) F ⟨rfl,rfl,rfl,by decide +kernel,rfl,by decide +kernel,by decide +kernel⟩ fun cdv A outer s H E hr=>?_
 have nd6:List.Nodup (["_law_row_here","_law_low","_law_spots","_law_place","_law_letter","_law_found"]:List Str):=by decide +kernel
 refine jss_cons ?_ ?_
 refine js_asg 2 nd6 rfl (by walk_at "loc") rfl rfl ?_
 exact je_dnew
 refine jss_cons ?_ ?_
 refine js_for PassesOwn.never rfl ?_ ?_ ?_ (fun _=>rfl)
 refine ji_enum rfl B2.enumerate rfl ?_
 walk_at "v1"
 refine pg_many rfl ?_ rfl rfl
 refine pgn_cons 3 nd6 rfl (by walk_at "loc") rfl ?_ rfl
 refine pgn_cons 4 nd6 rfl (by walk_at "loc") rfl ?_ rfl
 exact pgn_nil
 refine jss_one ?_
 refine js_dput 2 hr rfl (by walk_at "vis") (by decide +kernel) (by decide +kernel) rfl ?_ ?_
 walk_at "v4"
 refine je_bin ok_add op_addJ ?_ ?_
 refine je_dget 2 hr rfl (by walk_at "vis") (by decide +kernel) (by decide +kernel) ⟨rfl,rfl,rfl,rfl⟩ ?_ ?_
 walk_at "v4"
 refine je_plain ?_
 refine je_lst ?_
 exact ja_nil
 refine je_lst ?_
 refine ja_cons rfl ?_ ?_
 refine je_plain ?_
 walk_at "v3"
 exact ja_nil
 refine jss_cons ?_ ?_
 refine js_asg 5 nd6 rfl (by walk_at "loc") rfl rfl ?_
 refine je_lst ?_
 exact ja_nil
 refine jss_cons ?_ ?_
 refine js_for PassesOwn.never rfl ?_ ?_ ?_ (fun _=>rfl)
 refine ji_enum rfl B2.enumerate rfl ?_
 walk_at "v0"
 refine pg_many rfl ?_ rfl rfl
 refine pgn_cons 3 nd6 rfl (by walk_at "loc") rfl ?_ rfl
 refine pgn_cons 4 nd6 rfl (by walk_at "loc") rfl ?_ rfl
 exact pgn_nil
 refine jss_one ?_
 refine js_app 5 rfl (by walk_at "vis") (by decide +kernel) (by decide +kernel) rfl rfl rfl rfl ?_
 refine je_ix ok_ix ix_seq (fun _ _=>rfl) ?_ ?_
 refine je_dix hr (fun _ _=>rfl) ?_ ?_
 walk_at "v2"
 walk_at "v4"
 refine je_count rfl rfl rfl ?_ ?_
 refine je_slHi ?_ ?_
 walk_at "v0"
 walk_at "v3"
 walk_at "v4"
 refine jss_one ?_
 refine js_ret ?_
 walk_at "v5"
theorem ok_is_pair {f:Addr} {fd:FuncData} (F:Fun K "is_pair" "is_pair" (top 3) f fd) (B:Blt mg K) (B2:Blt2 mg) :
  FnOk P w K mg base CX0 1 f fd ["thing"] (spJ K fn_is_pair 1):=by
 refine fn_ok (N:=["thing"]) F ⟨rfl,rfl,rfl,by decide +kernel,rfl,by decide +kernel,by decide +kernel⟩ fun cdv A outer s H E hr=>?_
 refine jss_one ?_
 refine js_ret ?_
 refine je_and ?_ ?_
 refine je_isP rfl rfl B rfl rfl ?_
 walk_at "v0"
 refine je_one ?_
 refine je_cmp ok_eq (op_eqD hr) (nomark _) ?_ ?_
 refine je_callB ok_len call_lenJ B.len PyProof.Rows.Boot.«len» (by decide +kernel) (by decide +kernel) rfl rfl rfl ?_
 refine ja_cons rfl ?_ ?_
 walk_at "v0"
 exact ja_nil
 exact je_int
theorem ok_is_whole {f:Addr} {fd:FuncData} (F:Fun K "is_whole" "is_whole" (top 1) f fd) (B:Blt mg K) (B2:Blt2 mg) :
  FnOk P w K mg base CX0 1 f fd ["thing"] (spJ K fn_is_whole 1):=by
 refine fn_ok (N:=["thing"]) F ⟨rfl,rfl,rfl,by decide +kernel,rfl,by decide +kernel,by decide +kernel⟩ fun cdv A outer s H E hr=>?_
 refine jss_one ?_
 refine js_ret ?_
 refine je_and ?_ ?_
 refine je_isI rfl rfl B rfl rfl ?_
 walk_at "v0"
 refine je_one ?_
 refine je_not ?_
 refine je_isB rfl rfl B rfl rfl ?_
 walk_at "v0"
theorem ok_is_count_of_hands {f:Addr} {fd:FuncData} (F:Fun K "is_count_of_hands" "is_count_of_hands" (top 16) f fd) (B:Blt mg K) (B2:Blt2 mg) (D_is_whole:Def P w K mg base CX0 1 "is_whole" ["thing"] (spJ K fn_is_whole 1)) (g_FEWEST_HANDS:GInt mg "FEWEST_HANDS" 2) (g_MOST_HANDS:GInt mg "MOST_HANDS" 4) :
  FnOk P w K mg base CX0 2 f fd ["thing"] (spJ K fn_is_count_of_hands 1):=by
 refine fn_ok (N:=["thing"]) F ⟨rfl,rfl,rfl,by decide +kernel,rfl,by decide +kernel,by decide +kernel⟩ fun cdv A outer s H E hr=>?_
 refine jss_one ?_
 refine js_ret ?_
 refine je_and ?_ ?_
 refine je_call D_is_whole fnM_len rfl rfl rfl rfl rfl hr (by decide) pass0 (by decide +kernel) rfl rfl rfl ?_
 refine ja_cons rfl ?_ ?_
 walk_at "v0"
 exact ja_nil
 refine je_one ?_
 refine je_chn ok_le ok_le op_leIS op_leIS (by with_unfolding_all rfl) ?_ ?_ ?_
 exact je_gint g_FEWEST_HANDS rfl (by decide +kernel)
 walk_at "v0"
 exact je_gint g_MOST_HANDS rfl (by decide +kernel)
theorem ok_is_number_below {f:Addr} {fd:FuncData} (F:Fun K "is_number_below" "is_number_below" (top 2) f fd) (B:Blt mg K) (B2:Blt2 mg) (D_is_whole:Def P w K mg base CX0 1 "is_whole" ["thing"] (spJ K fn_is_whole 1)) :
  FnOk P w K mg base CX0 2 f fd ["thing","bound"] (spJ K fn_is_number_below 2):=by
 refine fn_ok (N:=["thing","bound"]) F ⟨rfl,rfl,rfl,by decide +kernel,rfl,by decide +kernel,by decide +kernel⟩ fun cdv A outer s H E hr=>?_
 refine jss_one ?_
 refine js_ret ?_
 refine je_and ?_ ?_
 refine je_call D_is_whole fnM_len rfl rfl rfl rfl rfl hr (by decide) pass0 (by decide +kernel) rfl rfl rfl ?_
 refine ja_cons rfl ?_ ?_
 walk_at "v0"
 exact ja_nil
 refine je_one ?_
 refine je_chn ok_le ok_lt op_leIS op_ltIS (by with_unfolding_all rfl) ?_ ?_ ?_
 exact je_int
 walk_at "v0"
 walk_at "v1"
theorem ok_are_numbers_below {f:Addr} {fd:FuncData} (F:Fun K "are_numbers_below" "are_numbers_below" (top 5) f fd) (B:Blt mg K) (B2:Blt2 mg) (D_is_number_below:Def P w K mg base CX0 2 "is_number_below" ["thing","bound"] (spJ K fn_is_number_below 2)) :
  FnOk P w K mg base CX0 3 f fd ["things","bound"] (spJ K fn_are_numbers_below 2):=by
 refine fn_ok (N:=["things","bound"]) F ⟨rfl,rfl,rfl,by decide +kernel,rfl,by decide +kernel,by decide +kernel⟩ fun cdv A outer s H E hr=>?_
 have nd2:List.Nodup (["things","bound"]:List Str):=by decide +kernel
 refine jss_one ?_
 refine js_ret ?_
 refine je_callB ok_all (call_all rfl) B.all PyProof.Rows.Boot.«all» (by decide +kernel) (by decide +kernel) rfl rfl rfl ?_
 refine ja_cons rfl ?_ ?_
 refine je_lc1 (by rfl) rfl nd2 (by rfl) (fun _=>rfl) ?_ ?_ ?_
 refine ji_seq ?_
 walk_at "v0"
 exact jtc_nil
 intro _ _ _ _ _
 refine je_call D_is_number_below fnM_len rfl rfl rfl rfl rfl hr (by decide) pass0 (by decide +kernel) rfl rfl rfl ?_
 refine ja_cons rfl ?_ ?_
 walk_at "v0"
 refine ja_cons rfl ?_ ?_
 walk_at "v2"
 exact ja_nil
 exact ja_nil
theorem ok_is_list_of_numbers_below {f:Addr} {fd:FuncData} (F:Fun K "is_list_of_numbers_below" "is_list_of_numbers_below" (top 4) f fd) (B:Blt mg K) (B2:Blt2 mg) (D_are_numbers_below:Def P w K mg base CX0 3 "are_numbers_below" ["things","bound"] (spJ K fn_are_numbers_below 2)) :
  FnOk P w K mg base CX0 4 f fd ["thing","bound"] (spJ K fn_is_list_of_numbers_below 2):=by
 refine fn_ok (N:=["thing","bound"]) F ⟨rfl,rfl,rfl,by decide +kernel,rfl,by decide +kernel,by decide +kernel⟩ fun cdv A outer s H E hr=>?_
 refine jss_one ?_
 refine js_ret ?_
 refine je_and ?_ ?_
 refine je_isL rfl rfl B rfl rfl ?_
 walk_at "v0"
 refine je_one ?_
 refine je_call D_are_numbers_below fnM_len rfl rfl rfl rfl rfl hr (by decide) pass0 (by decide +kernel) rfl rfl rfl ?_
 refine ja_cons rfl ?_ ?_
 walk_at "v0"
 refine ja_cons rfl ?_ ?_
 walk_at "v1"
 exact ja_nil
theorem ok_is_rising_list_below {f:Addr} {fd:FuncData} (F:Fun K "is_rising_list_below" "is_rising_list_below" (top 6) f fd) (B:Blt mg K) (B2:Blt2 mg) (D_is_list_of_numbers_below:Def P w K mg base CX0 4 "is_list_of_numbers_below" ["thing","bound"] (spJ K fn_is_list_of_numbers_below 2)) :
  FnOk P w K mg base CX0 5 f fd ["thing","bound"] (spJ K fn_is_rising_list_below 2):=by
 refine fn_ok (N:=["thing","bound"]) F ⟨rfl,rfl,rfl,by decide +kernel,rfl,by decide +kernel,by decide +kernel⟩ fun cdv A outer s H E hr=>?_
 have nd2:List.Nodup (["thing","bound"]:List Str):=by decide +kernel
 refine jss_cons ?_ ?_
 refine js_if ?_ ?_ ?_
 refine jt_not ?_
 refine jt_val (fun _=>rfl) ?_
 refine je_call D_is_list_of_numbers_below fnM_len rfl rfl rfl rfl rfl hr (by decide) pass0 (by decide +kernel) rfl rfl rfl ?_
 refine ja_cons rfl ?_ ?_
 walk_at "v0"
 refine ja_cons rfl ?_ ?_
 walk_at "v1"
 exact ja_nil
 refine jss_one ?_
 refine js_ret ?_
 exact je_bl
 exact jss_nil
 refine jss_one ?_
 refine js_ret ?_
 refine je_callB ok_all (call_all rfl) B.all PyProof.Rows.Boot.«all» (by decide +kernel) (by decide +kernel) rfl rfl rfl ?_
 refine ja_cons rfl ?_ ?_
 refine je_lc1 (by rfl) rfl nd2 (by rfl) (fun _=>rfl) ?_ ?_ ?_
 refine ji_rng1 rfl B.range rfl ?_
 refine je_bin ok_sub op_sub ?_ ?_
 refine je_callB ok_len call_lenJ B.len PyProof.Rows.Boot.«len» (by decide +kernel) (by decide +kernel) rfl rfl rfl ?_
 refine ja_cons rfl ?_ ?_
 walk_at "v0"
 exact ja_nil
 exact je_int
 exact jtc_nil
 intro _ _ _ _ _
 refine je_cmp ok_lt op_ltIS (nomark _) ?_ ?_
 refine je_ix ok_ix ix_seq (fun _ _=>rfl) ?_ ?_
 walk_at "v1"
 walk_at "v0"
 refine je_ix ok_ix ix_seq (fun _ _=>rfl) ?_ ?_
 walk_at "v1"
 refine je_bin ok_add op_addJ ?_ ?_
 walk_at "v0"
 exact je_int
 exact ja_nil
theorem ok_is_small_letter {f:Addr} {fd:FuncData} (F:Fun K "is_small_letter" "is_small_letter" (top 19) f fd) (B:Blt mg K) (B2:Blt2 mg) :
  FnOk P w K mg base CX0 1 f fd ["thing"] (spJ K fn_is_small_letter 1):=by
 refine fn_ok (N:=["thing"]) F ⟨rfl,rfl,rfl,by decide +kernel,rfl,by decide +kernel,by decide +kernel⟩ fun cdv A outer s H E hr=>?_
 refine jss_one ?_
 refine js_ret ?_
 refine je_and ?_ ?_
 refine je_isS rfl rfl B rfl rfl ?_
 walk_at "v0"
 refine je_and ?_ ?_
 refine je_cmp ok_eq (op_eqD hr) (nomark _) ?_ ?_
 refine je_callB ok_len call_lenJ B.len PyProof.Rows.Boot.«len» (by decide +kernel) (by decide +kernel) rfl rfl rfl ?_
 refine ja_cons rfl ?_ ?_
 walk_at "v0"
 exact ja_nil
 exact je_int
 refine je_one ?_
 refine je_chn ok_le ok_le op_leIS op_leIS (by with_unfolding_all rfl) ?_ ?_ ?_
 exact je_str (by decide +kernel)
 walk_at "v0"
 exact je_str (by decide +kernel)
theorem ok_is_entry {f:Addr} {fd:FuncData} (F:Fun K "is_entry" "is_entry" (top 18) f fd) (B:Blt mg K) (B2:Blt2 mg) (D_is_rising_list_below:Def P w K mg base CX0 5 "is_rising_list_below" ["thing","bound"] (spJ K fn_is_rising_list_below 2)) (D_is_pair:Def P w K mg base CX0 1 "is_pair" ["thing"] (spJ K fn_is_pair 1)) (D_is_small_letter:Def P w K mg base CX0 1 "is_small_letter" ["thing"] (spJ K fn_is_small_letter 1)) :
  FnOk P w K mg base CX0 6 f fd ["hands","thing"] (spJ K fn_is_entry 2):=by
 refine fn_ok (N:=["hands","thing"]) F ⟨rfl,rfl,rfl,by decide +kernel,rfl,by decide +kernel,by decide +kernel⟩ fun cdv A outer s H E hr=>?_
 refine jss_cons ?_ ?_
 refine js_if ?_ ?_ ?_
 refine jt_bool ?_
 refine jw_or ?_ ?_
 refine jt_not ?_
 refine jt_val (fun _=>rfl) ?_
 refine je_call D_is_pair fnM_len rfl rfl rfl rfl rfl hr (by decide) pass0 (by decide +kernel) rfl rfl rfl ?_
 refine ja_cons rfl ?_ ?_
 walk_at "v1"
 exact ja_nil
 refine jw_or1 ?_
 refine jt_not ?_
 refine jt_val (fun _=>rfl) ?_
 refine je_call D_is_small_letter fnM_len rfl rfl rfl rfl rfl hr (by decide) pass0 (by decide +kernel) rfl rfl rfl ?_
 refine ja_cons rfl ?_ ?_
 refine je_ix ok_ix ix_seq (fun _ _=>rfl) ?_ ?_
 walk_at "v1"
 exact je_int
 exact ja_nil
 refine jss_one ?_
 refine js_ret ?_
 exact je_bl
 exact jss_nil
 refine jss_one ?_
 refine js_ret ?_
 refine je_and ?_ ?_
 refine je_call D_is_rising_list_below fnM_len rfl rfl rfl rfl rfl hr (by decide) pass0 (by decide +kernel) rfl rfl rfl ?_
 refine ja_cons rfl ?_ ?_
 refine je_ix ok_ix ix_seq (fun _ _=>rfl) ?_ ?_
 walk_at "v1"
 exact je_int
 refine ja_cons rfl ?_ ?_
 walk_at "v0"
 exact ja_nil
 refine je_one ?_
 refine je_cmp ok_gt op_gt (nomark _) ?_ ?_
 refine je_callB ok_len call_lenJ B.len PyProof.Rows.Boot.«len» (by decide +kernel) (by decide +kernel) rfl rfl rfl ?_
 refine ja_cons rfl ?_ ?_
 refine je_ix ok_ix ix_seq (fun _ _=>rfl) ?_ ?_
 walk_at "v1"
 exact je_int
 exact ja_nil
 exact je_int
theorem ok_are_entries {f:Addr} {fd:FuncData} (F:Fun K "are_entries" "are_entries" (top 17) f fd) (B:Blt mg K) (B2:Blt2 mg) (D_is_entry:Def P w K mg base CX0 6 "is_entry" ["hands","thing"] (spJ K fn_is_entry 2)) (g_MOST_LETTERS:GInt mg "MOST_LETTERS" 6) :
  FnOk P w K mg base CX0 7 f fd ["hands","thing"] (spJ K fn_are_entries 2):=by
 refine fn_ok (N:=["hands","thing"]) F ⟨rfl,rfl,rfl,by decide +kernel,rfl,by decide +kernel,by decide +kernel⟩ fun cdv A outer s H E hr=>?_
 have nd2:List.Nodup (["hands","thing"]:List Str):=by decide +kernel
 refine jss_cons ?_ ?_
 refine js_if ?_ ?_ ?_
 refine jt_bool ?_
 refine jw_or ?_ ?_
 refine jt_not ?_
 refine jt_val (fun _=>rfl) ?_
 refine je_isL rfl rfl B rfl rfl ?_
 walk_at "v1"
 refine jw_or1 ?_
 refine jt_not ?_
 refine jt_chn ok_le ok_le op_leIS op_leIS (by with_unfolding_all rfl) ?_ ?_ ?_
 exact je_int
 refine je_callB ok_len call_lenJ B.len PyProof.Rows.Boot.«len» (by decide +kernel) (by decide +kernel) rfl rfl rfl ?_
 refine ja_cons rfl ?_ ?_
 walk_at "v1"
 exact ja_nil
 exact je_gint g_MOST_LETTERS rfl (by decide +kernel)
 refine jss_one ?_
 refine js_ret ?_
 exact je_bl
 exact jss_nil
 refine jss_cons ?_ ?_
 refine js_if ?_ ?_ ?_
 refine jt_not ?_
 refine jt_val (fun _=>rfl) ?_
 refine je_callB ok_all (call_all rfl) B.all PyProof.Rows.Boot.«all» (by decide +kernel) (by decide +kernel) rfl rfl rfl ?_
 refine ja_cons rfl ?_ ?_
 refine je_lc1 (by rfl) rfl nd2 (by rfl) (fun _=>rfl) ?_ ?_ ?_
 refine ji_seq ?_
 walk_at "v1"
 exact jtc_nil
 intro _ _ _ _ _
 refine je_call D_is_entry fnM_len rfl rfl rfl rfl rfl hr (by decide) pass0 (by decide +kernel) rfl rfl rfl ?_
 refine ja_cons rfl ?_ ?_
 walk_at "v1"
 refine ja_cons rfl ?_ ?_
 walk_at "v0"
 exact ja_nil
 exact ja_nil
 refine jss_one ?_
 refine js_ret ?_
 exact je_bl
 exact jss_nil
 refine jss_one ?_
 refine js_ret ?_
 refine je_callB ok_all (call_all rfl) B.all PyProof.Rows.Boot.«all» (by decide +kernel) (by decide +kernel) rfl rfl rfl ?_
 refine ja_cons rfl ?_ ?_
 refine je_lc1 (by rfl) rfl nd2 (by rfl) (fun _=>rfl) ?_ ?_ ?_
 refine ji_rng1 rfl B.range rfl ?_
 refine je_bin ok_sub op_sub ?_ ?_
 refine je_callB ok_len call_lenJ B.len PyProof.Rows.Boot.«len» (by decide +kernel) (by decide +kernel) rfl rfl rfl ?_
 refine ja_cons rfl ?_ ?_
 walk_at "v1"
 exact ja_nil
 exact je_int
 exact jtc_nil
 intro _ _ _ _ _
 refine je_cmp ok_lt op_ltIS (nomark _) ?_ ?_
 refine je_ix ok_ix ix_seq (fun _ _=>rfl) ?_ ?_
 refine je_ix ok_ix ix_seq (fun _ _=>rfl) ?_ ?_
 walk_at "v2"
 walk_at "v0"
 exact je_int
 refine je_ix ok_ix ix_seq (fun _ _=>rfl) ?_ ?_
 refine je_ix ok_ix ix_seq (fun _ _=>rfl) ?_ ?_
 walk_at "v2"
 refine je_bin ok_add op_addJ ?_ ?_
 walk_at "v0"
 exact je_int
 exact je_int
 exact ja_nil
theorem ok_is_house {f:Addr} {fd:FuncData} (F:Fun K "is_house" "is_house" (top 15) f fd) (B:Blt mg K) (B2:Blt2 mg) (D_is_pair:Def P w K mg base CX0 1 "is_pair" ["thing"] (spJ K fn_is_pair 1)) (D_is_count_of_hands:Def P w K mg base CX0 2 "is_count_of_hands" ["thing"] (spJ K fn_is_count_of_hands 1)) (D_are_entries:Def P w K mg base CX0 7 "are_entries" ["hands","thing"] (spJ K fn_are_entries 2)) :
  FnOk P w K mg base CX0 8 f fd ["thing"] (spJ K fn_is_house 1):=by
 refine fn_ok (N:=["thing"]) F ⟨rfl,rfl,rfl,by decide +kernel,rfl,by decide +kernel,by decide +kernel⟩ fun cdv A outer s H E hr=>?_
 refine jss_cons ?_ ?_
 refine js_if ?_ ?_ ?_
 refine jt_not ?_
 refine jt_val (fun _=>rfl) ?_
 refine je_call D_is_pair fnM_len rfl rfl rfl rfl rfl hr (by decide) pass0 (by decide +kernel) rfl rfl rfl ?_
 refine ja_cons rfl ?_ ?_
 walk_at "v0"
 exact ja_nil
 refine jss_one ?_
 refine js_ret ?_
 exact je_bl
 exact jss_nil
 refine jss_one ?_
 refine js_ret ?_
 refine je_and ?_ ?_
 refine je_call D_is_count_of_hands fnM_len rfl rfl rfl rfl rfl hr (by decide) pass0 (by decide +kernel) rfl rfl rfl ?_
 refine ja_cons rfl ?_ ?_
 refine je_ix ok_ix ix_seq (fun _ _=>rfl) ?_ ?_
 walk_at "v0"
 exact je_int
 exact ja_nil
 refine je_one ?_
 refine je_call D_are_entries fnM_len rfl rfl rfl rfl rfl hr (by decide) pass0 (by decide +kernel) rfl rfl rfl ?_
 refine ja_cons rfl ?_ ?_
 refine je_ix ok_ix ix_seq (fun _ _=>rfl) ?_ ?_
 walk_at "v0"
 exact je_int
 refine ja_cons rfl ?_ ?_
 refine je_ix ok_ix ix_seq (fun _ _=>rfl) ?_ ?_
 walk_at "v0"
 exact je_int
 exact ja_nil
theorem ok_need_house {f:Addr} {fd:FuncData} (F:Fun K "need_house" "need_house" (top 20) f fd) (B:Blt mg K) (B2:Blt2 mg) (D_is_house:Def P w K mg base CX0 8 "is_house" ["thing"] (spJ K fn_is_house 1)) :
  FnOk P w K mg base CX0 9 f fd ["house"] (spJ K fn_need_house 1):=by
 refine fn_ok (N:=["house"]) F ⟨rfl,rfl,rfl,by decide +kernel,rfl,by decide +kernel,by decide +kernel⟩ fun cdv A outer s H E hr=>?_
 refine jss_one ?_
 refine js_if ?_ ?_ ?_
 refine jt_not ?_
 refine jt_val (fun _=>rfl) ?_
 refine je_call D_is_house fnM_len rfl rfl rfl rfl rfl hr (by decide) pass0 (by decide +kernel) rfl rfl rfl ?_
 refine ja_cons rfl ?_ ?_
 walk_at "v0"
 exact ja_nil
 refine jss_one ?_
 exact js_never
 exact jss_nil
theorem ok_letters_of {f:Addr} {fd:FuncData} (F:Fun K "letters_of" "letters_of" (top 21) f fd) (B:Blt mg K) (B2:Blt2 mg) :
  FnOk P w K mg base CX0 1 f fd ["house"] (spJ K fn_letters_of 1):=by
 refine fn_ok (N:=["house"]) F ⟨rfl,rfl,rfl,by decide +kernel,rfl,by decide +kernel,by decide +kernel⟩ fun cdv A outer s H E hr=>?_
 have nd1:List.Nodup (["house"]:List Str):=by decide +kernel
 refine jss_one ?_
 refine js_ret ?_
 refine je_join rfl rfl B rfl ?_ ?_
 exact je_str (by decide +kernel)
 refine je_lc1 (by rfl) rfl nd1 (by rfl) (fun _=>rfl) ?_ ?_ ?_
 refine ji_seq ?_
 refine je_ix ok_ix ix_seq (fun _ _=>rfl) ?_ ?_
 walk_at "v0"
 exact je_int
 exact jtc_nil
 intro _ _ _ _ _
 refine je_ix ok_ix ix_seq (fun _ _=>rfl) ?_ ?_
 walk_at "v0"
 exact je_int
theorem ok_is_row {f:Addr} {fd:FuncData} (F:Fun K "is_row" "is_row" (top 24) f fd) (B:Blt mg K) (B2:Blt2 mg) (D_need_house:Def P w K mg base CX0 9 "need_house" ["house"] (spJ K fn_need_house 1)) (D_letters_of:Def P w K mg base CX0 1 "letters_of" ["house"] (spJ K fn_letters_of 1)) :
  FnOk P w K mg base CX0 10 f fd ["house","thing"] (spJ K fn_is_row 2):=by
 refine fn_ok (N:=["house","thing","letters"]) F ⟨rfl,rfl,rfl,by decide +kernel,rfl,by decide +kernel,by decide +kernel⟩ fun cdv A outer s H E hr=>?_
 have nd3:List.Nodup (["house","thing","letters"]:List Str):=by decide +kernel
 refine jss_cons ?_ ?_
 refine js_exp rfl ?_
 refine je_call D_need_house fnM_len rfl rfl rfl rfl rfl hr (by decide) pass0 (by decide +kernel) rfl rfl rfl ?_
 refine ja_cons rfl ?_ ?_
 walk_at "v0"
 exact ja_nil
 refine jss_cons ?_ ?_
 refine js_if ?_ ?_ ?_
 refine jt_not ?_
 refine jt_val (fun _=>rfl) ?_
 refine je_isS rfl rfl B rfl rfl ?_
 walk_at "v1"
 refine jss_one ?_
 refine js_ret ?_
 exact je_bl
 exact jss_nil
 refine jss_cons ?_ ?_
 refine js_asg 2 nd3 rfl (by walk_at "loc") rfl rfl ?_
 refine je_call D_letters_of fnM_len rfl rfl rfl rfl rfl hr (by decide) pass0 (by decide +kernel) rfl rfl rfl ?_
 refine ja_cons rfl ?_ ?_
 walk_at "v0"
 exact ja_nil
 refine jss_one ?_
 refine js_ret ?_
 refine je_callB ok_all (call_all rfl) B.all PyProof.Rows.Boot.«all» (by decide +kernel) (by decide +kernel) rfl rfl rfl ?_
 refine ja_cons rfl ?_ ?_
 refine je_lc1 (by rfl) rfl nd3 (by rfl) (fun _=>rfl) ?_ ?_ ?_
 refine ji_str ?_
 walk_at "v1"
 exact jtc_nil
 intro _ _ _ _ _
 refine je_cmp (ok_in false) op_inJ (by with_unfolding_all rfl) ?_ ?_
 walk_at "v0"
 walk_at "v3"
 exact ja_nil
theorem ok_need_row {f:Addr} {fd:FuncData} (F:Fun K "need_row" "need_row" (top 25) f fd) (B:Blt mg K) (B2:Blt2 mg) (D_is_row:Def P w K mg base CX0 10 "is_row" ["house","thing"] (spJ K fn_is_row 2)) :
  FnOk P w K mg base CX0 11 f fd ["house","row"] (spJ K fn_need_row 2):=by
 refine fn_ok (N:=["house","row"]) F ⟨rfl,rfl,rfl,by decide +kernel,rfl,by decide +kernel,by decide +kernel⟩ fun cdv A outer s H E hr=>?_
 refine jss_one ?_
 refine js_if ?_ ?_ ?_
 refine jt_not ?_
 refine jt_val (fun _=>rfl) ?_
 refine je_call D_is_row fnM_len rfl rfl rfl rfl rfl hr (by decide) pass0 (by decide +kernel) rfl rfl rfl ?_
 refine ja_cons rfl ?_ ?_
 walk_at "v0"
 refine ja_cons rfl ?_ ?_
 walk_at "v1"
 exact ja_nil
 refine jss_one ?_
 exact js_never
 exact jss_nil
theorem ok_hands_of {f:Addr} {fd:FuncData} (F:Fun K "hands_of" "hands_of" (top 22) f fd) (B:Blt mg K) (B2:Blt2 mg) (D_letters_of:Def P w K mg base CX0 1 "letters_of" ["house"] (spJ K fn_letters_of 1)) :
  FnOk P w K mg base CX0 2 f fd ["house","letter"] (spJ K fn_hands_of 2):=by
 refine fn_ok (N:=["house","letter"]) F ⟨rfl,rfl,rfl,by decide +kernel,rfl,by decide +kernel,by decide +kernel⟩ fun cdv A outer s H E hr=>?_
 refine jss_one ?_
 refine js_ret ?_
 refine je_ix ok_ix ix_seq (fun _ _=>rfl) ?_ ?_
 refine je_ix ok_ix ix_seq (fun _ _=>rfl) ?_ ?_
 refine je_ix ok_ix ix_seq (fun _ _=>rfl) ?_ ?_
 walk_at "v0"
 exact je_int
 refine je_index rfl rfl B rfl rfl ?_ ?_
 refine je_call D_letters_of fnM_len rfl rfl rfl rfl rfl hr (by decide) pass0 (by decide +kernel) rfl rfl rfl ?_
 refine ja_cons rfl ?_ ?_
 walk_at "v0"
 exact ja_nil
 walk_at "v1"
 exact je_int
theorem ok_is_hand_in_both {f:Addr} {fd:FuncData} (F:Fun K "is_hand_in_both" "is_hand_in_both" (top 23) f fd) (B:Blt mg K) (B2:Blt2 mg) :
  FnOk P w K mg base CX0 1 f fd ["hands","others"] (spJ K fn_is_hand_in_both 2):=by
 refine fn_ok (N:=["hands","others"]) F ⟨rfl,rfl,rfl,by decide +kernel,rfl,by decide +kernel,by decide +kernel⟩ fun cdv A outer s H E hr=>?_
 have nd2:List.Nodup (["hands","others"]:List Str):=by decide +kernel
 refine jss_one ?_
 refine js_ret ?_
 refine je_callB ok_any (call_any rfl) B.any PyProof.Rows.Boot.«any» (by decide +kernel) (by decide +kernel) rfl rfl rfl ?_
 refine ja_cons rfl ?_ ?_
 refine je_lc1 (by rfl) rfl nd2 (by rfl) (fun _=>rfl) ?_ ?_ ?_
 refine ji_seq ?_
 walk_at "v0"
 exact jtc_nil
 intro _ _ _ _ _
 refine je_cmp (ok_in false) op_inJ (by with_unfolding_all rfl) ?_ ?_
 walk_at "v0"
 walk_at "v2"
 exact ja_nil
theorem ok_front_places {f:Addr} {fd:FuncData} (F:Fun K "front_places" "front_places" (top 28) f fd) (B:Blt mg K) (B2:Blt2 mg) (D_hands_of:Def P w K mg base CX0 2 "hands_of" ["house","letter"] (spJ K fn_hands_of 2)) (D_is_hand_in_both:Def P w K mg base CX0 1 "is_hand_in_both" ["hands","others"] (spJ K fn_is_hand_in_both 2)) :
  FnOk P w K mg base CX0 3 f fd ["house","row"] (spJ K fn_front_places 2):=by
 refine fn_ok (N:=["house","row","places","busy","place","letter","hands"]) F ⟨rfl,rfl,rfl,by decide +kernel,rfl,by decide +kernel,by decide +kernel⟩ fun cdv A outer s H E hr=>?_
 have nd7:List.Nodup (["house","row","places","busy","place","letter","hands"]:List Str):=by decide +kernel
 refine jss_cons ?_ ?_
 refine js_asg 2 nd7 rfl (by walk_at "loc") rfl rfl ?_
 refine je_lst ?_
 exact ja_nil
 refine jss_cons ?_ ?_
 refine js_asg 3 nd7 rfl (by walk_at "loc") rfl rfl ?_
 refine je_lst ?_
 exact ja_nil
 refine jss_cons ?_ ?_
 refine js_for PassesOwn.never rfl ?_ ?_ ?_ (fun _=>rfl)
 refine ji_enum rfl B2.enumerate rfl ?_
 walk_at "v1"
 refine pg_many rfl ?_ rfl rfl
 refine pgn_cons 4 nd7 rfl (by walk_at "loc") rfl ?_ rfl
 refine pgn_cons 5 nd7 rfl (by walk_at "loc") rfl ?_ rfl
 exact pgn_nil
 refine jss_cons ?_ ?_
 refine js_asg 6 nd7 rfl (by walk_at "loc") rfl rfl ?_
 refine je_call D_hands_of fnM_len rfl rfl rfl rfl rfl hr (by decide) pass0 (by decide +kernel) rfl rfl rfl ?_
 refine ja_cons rfl ?_ ?_
 walk_at "v0"
 refine ja_cons rfl ?_ ?_
 walk_at "v5"
 exact ja_nil
 refine jss_cons ?_ ?_
 refine js_if ?_ ?_ ?_
 refine jt_not ?_
 refine jt_val (fun _=>rfl) ?_
 refine je_call D_is_hand_in_both fnM_len rfl rfl rfl rfl rfl hr (by decide) pass0 (by decide +kernel) rfl rfl rfl ?_
 refine ja_cons rfl ?_ ?_
 walk_at "v6"
 refine ja_cons rfl ?_ ?_
 walk_at "v3"
 exact ja_nil
 refine jss_one ?_
 refine js_app 2 rfl (by walk_at "vis") (by decide +kernel) (by decide +kernel) rfl rfl rfl rfl ?_
 walk_at "v4"
 exact jss_nil
 refine jss_one ?_
 refine js_ext 3 rfl (by walk_at "vis") (by decide +kernel) (by decide +kernel) rfl rfl rfl rfl ?_
 walk_at "v6"
 refine jss_one ?_
 refine js_ret ?_
 walk_at "v2"
theorem ok_place_of_first {f c b:Addr} {fd:FuncData} (F:Fun K "place_of_first" "place_of_first" (top 27) f fd) (hn:PySem.W.nsIn K mainGlobals lamDef = some (some (.ref f))) (ht:PySem.W.tabIn K lamDef = some (c,b)) (hh:PySem.W.codeHdIn K c b = true) (B:Blt mg K) (B2:Blt2 mg) (D_front_places:Def P w K mg base CX0 3 "front_places" ["house","row"] (spJ K fn_front_places 2)) :
  FnOk P w K mg base CX0 4 f fd ["house","row"] (spJ K fn_place_of_first 2):=by
 refine fn_okL (N:=["house","row"]) F hn ht ⟨rfl,rfl,rfl,by decide +kernel,rfl,by decide +kernel,by decide +kernel⟩ fun A outer s H E hr=>?_
 refine jss_one ?_
 refine js_ret ?_
 refine je_minL 1 rfl hr ht hh B.min rfl rfl rfl rfl rfl rfl rfl rfl (fun _ _ _ _=>rfl) rfl rfl rfl (by decide) rfl rfl (by decide +kernel) (by decide +kernel) (by decide +kernel) rfl ?_
 refine je_call D_front_places fnM_len rfl rfl rfl rfl rfl hr (by decide) pass0 (by decide +kernel) rfl rfl rfl ?_
 refine ja_cons rfl ?_ ?_
 walk_at "v0"
 refine ja_cons rfl ?_ ?_
 walk_at "v1"
 exact ja_nil
theorem ok_exchanges {f:Addr} {fd:FuncData} (F:Fun K "exchanges" "exchanges" (top 29) f fd) (B:Blt mg K) (B2:Blt2 mg) (D_need_row:Def P w K mg base CX0 11 "need_row" ["house","row"] (spJ K fn_need_row 2)) (D_place_of_first:Def P w K mg base CX0 4 "place_of_first" ["house","row"] (spJ K fn_place_of_first 2)) :
  FnOk P w K mg base CX0 12 f fd ["house","row"] (spJ K fn_exchanges 2):=by
 refine fn_ok (N:=["house","row","told","done","place"]) F ⟨rfl,rfl,rfl,by decide +kernel,rfl,by decide +kernel,by decide +kernel⟩ fun cdv A outer s H E hr=>?_
 have nd5:List.Nodup (["house","row","told","done","place"]:List Str):=by decide +kernel
 refine jss_cons ?_ ?_
 refine js_exp rfl ?_
 refine je_call D_need_row fnM_len rfl rfl rfl rfl rfl hr (by decide) pass0 (by decide +kernel) rfl rfl rfl ?_
 refine ja_cons rfl ?_ ?_
 walk_at "v0"
 refine ja_cons rfl ?_ ?_
 walk_at "v1"
 exact ja_nil
 refine jss_cons ?_ ?_
 refine js_asg 2 nd5 rfl (by walk_at "loc") rfl rfl ?_
 refine je_lst ?_
 exact ja_nil
 refine jss_cons ?_ ?_
 refine js_for PassesOwn.never rfl ?_ ?_ ?_ (fun _=>rfl)
 refine ji_rng1 rfl B.range rfl ?_
 refine je_callB ok_len call_lenJ B.len PyProof.Rows.Boot.«len» (by decide +kernel) (by decide +kernel) rfl rfl rfl ?_
 refine ja_cons rfl ?_ ?_
 walk_at "v1"
 exact ja_nil
 exact pg_one 3 nd5 rfl (by walk_at "loc") rfl
 refine jss_cons ?_ ?_
 refine js_asg 4 nd5 rfl (by walk_at "loc") rfl rfl ?_
 refine je_bin ok_add op_addJ ?_ ?_
 walk_at "v3"
 refine je_call D_place_of_first fnM_len rfl rfl rfl rfl rfl hr (by decide) pass0 (by decide +kernel) rfl rfl rfl ?_
 refine ja_cons rfl ?_ ?_
 walk_at "v0"
 refine ja_cons rfl ?_ ?_
 refine je_slLo ?_ ?_
 walk_at "v1"
 walk_at "v3"
 exact ja_nil
 refine jss_cons ?_ ?_
 refine js_ext 2 rfl (by walk_at "vis") (by decide +kernel) (by decide +kernel) rfl rfl rfl rfl ?_
 refine je_lrng rfl B.list B.range rfl rfl rfl rfl rfl rfl rfl rfl ?_ ?_ ?_
 refine je_bin ok_sub op_sub ?_ ?_
 walk_at "v4"
 exact je_int
 refine je_bin ok_sub op_sub ?_ ?_
 walk_at "v3"
 exact je_int
 refine je_un ok_neg un_neg ?_
 exact je_int
 refine jss_one ?_
 refine js_asg 1 nd5 rfl (by walk_at "loc") rfl rfl ?_
 refine je_bin ok_add op_addJ ?_ ?_
 refine je_bin ok_add op_addJ ?_ ?_
 refine je_bin ok_add op_addJ ?_ ?_
 refine je_slHi ?_ ?_
 walk_at "v1"
 walk_at "v3"
 refine je_ix ok_ix ix_seq (fun _ _=>rfl) ?_ ?_
 walk_at "v1"
 walk_at "v4"
 refine je_slLH ?_ ?_ ?_
 walk_at "v1"
 walk_at "v3"
 walk_at "v4"
 refine je_slLo ?_ ?_
 walk_at "v1"
 refine je_bin ok_add op_addJ ?_ ?_
 walk_at "v4"
 exact je_int
 refine jss_one ?_
 refine js_ret ?_
 walk_at "v2"
theorem ok__law_cell {f:Addr} {fd:FuncData} (F:Fun K "_law_cell" "_law_cell" (top 31) f fd) (B:Blt mg K) (B2:Blt2 mg) :
  FnOk P w K mg base CX0 1 f fd ["_law_script","_law_k"] (spJ K fn__law_cell 2):=by
 refine fn_ok (N:=["_law_script","_law_k"]) F ⟨rfl,rfl,rfl,by decide +kernel,rfl,by decide +kernel,by decide +kernel⟩ fun cdv A outer s H E hr=>?_
 refine jss_cons ?_ ?_
 refine js_if ?_ ?_ ?_
 refine jt_cmp ok_lt op_ltIS (nomark _) ?_ ?_
 walk_at "v1"
 refine je_callB ok_len call_lenJ B.len PyProof.Rows.Boot.«len» (by decide +kernel) (by decide +kernel) rfl rfl rfl ?_
 refine ja_cons rfl ?_ ?_
 walk_at "v0"
 exact ja_nil
 refine jss_one ?_
 refine js_ret ?_
 refine je_ix ok_ix ix_seq (fun _ _=>rfl) ?_ ?_
 walk_at "v0"
 walk_at "v1"
 exact jss_nil
 refine jss_one ?_
 refine js_ret ?_
 exact je_int
theorem ok__law_whole {f:Addr} {fd:FuncData} (F:Fun K "_law_whole" "_law_whole" (top 36) f fd) (B:Blt mg K) (B2:Blt2 mg) :
  FnOk P w K mg base CX0 1 f fd ["_law_thing"] (spJ K fn__law_whole 1):=by
 refine fn_ok (N:=["_law_thing"]) F ⟨rfl,rfl,rfl,by decide +kernel,rfl,by decide +kernel,by decide +kernel⟩ fun cdv A outer s H E hr=>?_
 refine jss_one ?_
 refine js_ret ?_
 refine je_and ?_ ?_
 refine je_isI rfl rfl B rfl rfl ?_
 walk_at "v0"
 refine je_one ?_
 refine je_not ?_
 refine je_isB rfl rfl B rfl rfl ?_
 walk_at "v0"
theorem ok__law_walked {f:Addr} {fd:FuncData} (F:Fun K "_law_walked" "_law_walked" (top 40) f fd) (B:Blt mg K) (B2:Blt2 mg) (D__law_are_free:Def P w K mg base CX0 1 "_law_are_free" ["_law_house_here","_law_one","_law_other"] (spJ K fn__law_are_free 3)) (D__law_whole:Def P w K mg base CX0 1 "_law_whole" ["_law_thing"] (spJ K fn__law_whole 1)) :
  FnOk P w K mg base CX0 2 f fd ["_law_house_here","_law_row_here","_law_places_here"] (spJ K fn__law_walked 3):=by
 refine fn_ok (N:=["_law_house_here","_law_row_here","_law_places_here","_law_place","_law_pair"]) F ⟨rfl,rfl,rfl,by decide +kernel,rfl,by decide +kernel,by decide +kernel⟩ fun cdv A outer s H E hr=>?_
 have nd5:List.Nodup (["_law_house_here","_law_row_here","_law_places_here","_law_place","_law_pair"]:List Str):=by decide +kernel
 refine jss_cons ?_ ?_
 refine js_for PassesOwn.never rfl ?_ ?_ ?_ (fun _=>rfl)
 refine ji_seq ?_
 walk_at "v2"
 exact pg_one 3 nd5 rfl (by walk_at "loc") rfl
 refine jss_cons ?_ ?_
 refine js_if ?_ ?_ ?_
 refine jt_bool ?_
 refine jw_or ?_ ?_
 refine jt_not ?_
 refine jt_val (fun _=>rfl) ?_
 refine je_call D__law_whole fnM_len rfl rfl rfl rfl rfl hr (by decide) pass0 (by decide +kernel) rfl rfl rfl ?_
 refine ja_cons rfl ?_ ?_
 walk_at "v3"
 exact ja_nil
 refine jw_or1 ?_
 refine jt_not ?_
 refine jt_chn ok_le ok_lt op_leIS op_ltIS (by with_unfolding_all rfl) ?_ ?_ ?_
 exact je_int
 walk_at "v3"
 refine je_bin ok_sub op_sub ?_ ?_
 refine je_callB ok_len call_lenJ B.len PyProof.Rows.Boot.«len» (by decide +kernel) (by decide +kernel) rfl rfl rfl ?_
 refine ja_cons rfl ?_ ?_
 walk_at "v1"
 exact ja_nil
 exact je_int
 refine jss_one ?_
 refine js_ret ?_
 exact je_non
 exact jss_nil
 refine jss_cons ?_ ?_
 refine js_if ?_ ?_ ?_
 refine jt_not ?_
 refine jt_val (fun _=>rfl) ?_
 refine je_call D__law_are_free fnM_len rfl rfl rfl rfl rfl hr (by decide) pass0 (by decide +kernel) rfl rfl rfl ?_
 refine ja_cons rfl ?_ ?_
 walk_at "v0"
 refine ja_cons rfl ?_ ?_
 refine je_ix ok_ix ix_seq (fun _ _=>rfl) ?_ ?_
 walk_at "v1"
 walk_at "v3"
 refine ja_cons rfl ?_ ?_
 refine je_ix ok_ix ix_seq (fun _ _=>rfl) ?_ ?_
 walk_at "v1"
 refine je_bin ok_add op_addJ ?_ ?_
 walk_at "v3"
 exact je_int
 exact ja_nil
 refine jss_one ?_
 refine js_ret ?_
 exact je_non
 exact jss_nil
 refine jss_cons ?_ ?_
 refine js_asg 4 nd5 rfl (by walk_at "loc") rfl rfl ?_
 refine je_slLH ?_ ?_ ?_
 walk_at "v1"
 walk_at "v3"
 refine je_bin ok_add op_addJ ?_ ?_
 walk_at "v3"
 exact je_int
 refine jss_one ?_
 refine js_asg 1 nd5 rfl (by walk_at "loc") rfl rfl ?_
 refine je_bin ok_add op_addJ ?_ ?_
 refine je_bin ok_add op_addJ ?_ ?_
 refine je_slHi ?_ ?_
 walk_at "v1"
 walk_at "v3"
 refine je_rev ?_ ?_
 walk_at "v4"
 refine je_un ok_neg un_neg ?_
 exact je_int
 refine je_slLo ?_ ?_
 walk_at "v1"
 refine je_bin ok_add op_addJ ?_ ?_
 walk_at "v3"
 exact je_int
 refine jss_one ?_
 refine js_ret ?_
 walk_at "v1"
theorem ok_law {f:Addr} {fd:FuncData} (F:Fun K "law" "law" (top 42) f fd) (B:Blt mg K) (B2:Blt2 mg) (D__law_house:Def P w K mg base CX0 2 "_law_house" ["_law_bag_here"] (spJ K fn__law_house 1)) (D__law_house_copy:Def P w K mg base CX0 1 "_law_house_copy" ["_law_house_here"] (spJ K fn__law_house_copy 1)) (D__law_bag:Def P w K mg base CX0 1 "_law_bag" ["_law_cell_here"] (spJ K fn__law_bag 1)) (D__law_row:Def P w K mg base CX0 2 "_law_row" ["_law_bag_here","_law_house_here","_law_most"] (spJ K fn__law_row 3)) (D__law_lowest:Def P w K mg base CX0 2 "_law_lowest" ["_law_house_here","_law_row_here"] (spJ K fn__law_lowest 2)) (D__law_places:Def P w K mg base CX0 1 "_law_places" ["_law_row_here","_law_low"] (spJ K fn__law_places 2)) (D_exchanges:Def P w K mg base CX0 12 "exchanges" ["house","row"] (spJ K fn_exchanges 2)) (D__law_cell:Def P w K mg base CX0 1 "_law_cell" ["_law_script","_law_k"] (spJ K fn__law_cell 2)) (D__law_walked:Def P w K mg base CX0 2 "_law_walked" ["_law_house_here","_law_row_here","_law_places_here"] (spJ K fn__law_walked 3)) :
  FnOk P w K mg base CX0 13 f fd ["_law_script"] (spJ K fn_law 1):=by
 refine fn_ok (N:=["_law_script","_law_house_here","_law_handed","_law_k","_law_row_here","_law_low","_law_spots","_law_turned","_law_at","_law_found","_law_again"]) F ⟨rfl,rfl,rfl,by decide +kernel,rfl,by decide +kernel,by decide +kernel⟩ fun cdv A outer s H E hr=>?_
 have nd11:List.Nodup (["_law_script","_law_house_here","_law_handed","_law_k","_law_row_here","_law_low","_law_spots","_law_turned","_law_at","_law_found","_law_again"]:List Str):=by decide +kernel
 refine jss_cons ?_ ?_
 refine js_asg 1 nd11 rfl (by walk_at "loc") rfl rfl ?_
 refine je_call D__law_house fnM_len rfl rfl rfl rfl rfl hr (by decide) pass0 (by decide +kernel) rfl rfl rfl ?_
 refine ja_cons rfl ?_ ?_
 refine je_call D__law_bag fnM_len rfl rfl rfl rfl rfl hr (by decide) pass0 (by decide +kernel) rfl rfl rfl ?_
 refine ja_cons rfl ?_ ?_
 refine je_call D__law_cell fnM_len rfl rfl rfl rfl rfl hr (by decide) pass0 (by decide +kernel) rfl rfl rfl ?_
 refine ja_cons rfl ?_ ?_
 walk_at "v0"
 refine ja_cons rfl ?_ ?_
 exact je_int
 exact ja_nil
 exact ja_nil
 exact ja_nil
 refine jss_cons ?_ ?_
 refine js_asg 2 nd11 rfl (by walk_at "loc") rfl rfl ?_
 refine je_call D__law_house_copy fnM_len rfl rfl rfl rfl rfl hr (by decide) pass0 (by decide +kernel) rfl rfl rfl ?_
 refine ja_cons rfl ?_ ?_
 walk_at "v1"
 exact ja_nil
 refine jss_cons ?_ ?_
 refine js_for PassesOwn.never rfl ?_ ?_ ?_ (fun _=>rfl)
 refine ji_rng2 rfl B.range rfl rfl ?_ ?_
 exact je_int
 refine je_callB ok_max (call_max2 rfl) B.max PyProof.Rows.Boot.«max» (by decide +kernel) (by decide +kernel) rfl rfl rfl ?_
 refine ja_cons rfl ?_ ?_
 exact je_int
 refine ja_cons rfl ?_ ?_
 refine je_callB ok_min (call_min2 rfl) B.min PyProof.Rows.Boot.«min» (by decide +kernel) (by decide +kernel) rfl rfl rfl ?_
 refine ja_cons rfl ?_ ?_
 refine je_callB ok_len call_lenJ B.len PyProof.Rows.Boot.«len» (by decide +kernel) (by decide +kernel) rfl rfl rfl ?_
 refine ja_cons rfl ?_ ?_
 walk_at "v0"
 exact ja_nil
 refine ja_cons rfl ?_ ?_
 exact je_int
 exact ja_nil
 exact ja_nil
 exact pg_one 3 nd11 rfl (by walk_at "loc") rfl
 refine jss_cons ?_ ?_
 refine js_asg 4 nd11 rfl (by walk_at "loc") rfl rfl ?_
 refine je_call D__law_row fnM_len rfl rfl rfl rfl rfl hr (by decide) pass0 (by decide +kernel) rfl rfl rfl ?_
 refine ja_cons rfl ?_ ?_
 refine je_call D__law_bag fnM_len rfl rfl rfl rfl rfl hr (by decide) pass0 (by decide +kernel) rfl rfl rfl ?_
 refine ja_cons rfl ?_ ?_
 refine je_bin ok_add op_addJ ?_ ?_
 refine je_call D__law_cell fnM_len rfl rfl rfl rfl rfl hr (by decide) pass0 (by decide +kernel) rfl rfl rfl ?_
 refine ja_cons rfl ?_ ?_
 walk_at "v0"
 refine ja_cons rfl ?_ ?_
 walk_at "v3"
 exact ja_nil
 walk_at "v3"
 exact ja_nil
 refine ja_cons rfl ?_ ?_
 walk_at "v1"
 refine ja_cons rfl ?_ ?_
 exact je_int
 exact ja_nil
 refine jss_cons ?_ ?_
 refine js_asg 5 nd11 rfl (by walk_at "loc") rfl rfl ?_
 refine je_call D__law_lowest fnM_len rfl rfl rfl rfl rfl hr (by decide) pass0 (by decide +kernel) rfl rfl rfl ?_
 refine ja_cons rfl ?_ ?_
 walk_at "v1"
 refine ja_cons rfl ?_ ?_
 walk_at "v4"
 exact ja_nil
 refine jss_cons ?_ ?_
 refine js_asg 6 nd11 rfl (by walk_at "loc") rfl rfl ?_
 refine je_call D__law_places fnM_len rfl rfl rfl rfl rfl hr (by decide) pass0 (by decide +kernel) rfl rfl rfl ?_
 refine ja_cons rfl ?_ ?_
 walk_at "v4"
 refine ja_cons rfl ?_ ?_
 walk_at "v5"
 exact ja_nil
 refine jss_cons ?_ ?_
 refine js_asg 7 nd11 rfl (by walk_at "loc") rfl rfl ?_
 exact je_int
 refine jss_cons ?_ ?_
 refine js_for PassesOwn.never rfl ?_ ?_ ?_ (fun _=>rfl)
 refine ji_rng1 rfl B.range rfl ?_
 refine je_callB ok_len call_lenJ B.len PyProof.Rows.Boot.«len» (by decide +kernel) (by decide +kernel) rfl rfl rfl ?_
 refine ja_cons rfl ?_ ?_
 walk_at "v6"
 exact ja_nil
 exact pg_one 8 nd11 rfl (by walk_at "loc") rfl
 refine jss_one ?_
 refine js_asg 7 nd11 rfl (by walk_at "loc") rfl rfl ?_
 refine je_bin ok_add op_addJ ?_ ?_
 walk_at "v7"
 refine je_callB ok_len call_lenJ B.len PyProof.Rows.Boot.«len» (by decide +kernel) (by decide +kernel) rfl rfl rfl ?_
 refine ja_cons rfl ?_ ?_
 refine je_lc1 (by rfl) rfl nd11 (by rfl) (fun _=>rfl) ?_ ?_ ?_
 refine ji_seq ?_
 refine je_lslHi ?_ ?_
 walk_at "v6"
 walk_at "v8"
 refine jtc_one fun _ _ _ _ _=>?_
 refine jt_cmp ok_gt op_gt (nomark _) ?_ ?_
 walk_at "v0"
 refine je_ix ok_ix ix_seq (fun _ _=>rfl) ?_ ?_
 walk_at "v7"
 walk_at "v9"
 intro _ _ _ _ _
 walk_at "v0"
 exact ja_nil
 refine jss_cons ?_ ?_
 refine js_asg 9 nd11 rfl (by walk_at "loc") rfl rfl ?_
 refine je_call D_exchanges fnM_len rfl rfl rfl rfl rfl hr (by decide) pass0 (by decide +kernel) rfl rfl rfl ?_
 refine ja_cons rfl ?_ ?_
 walk_at "v2"
 refine ja_cons rfl ?_ ?_
 walk_at "v4"
 exact ja_nil
 refine jss_cons ?_ ?_
 refine js_if ?_ ?_ ?_
 refine jt_bool ?_
 refine jw_or ?_ ?_
 refine jt_not ?_
 refine jt_val (fun _=>rfl) ?_
 refine je_isL rfl rfl B rfl rfl ?_
 walk_at "v9"
 refine jw_or ?_ ?_
 refine jt_cmp ok_ne (op_neD hr) (nomark _) ?_ ?_
 refine je_callB ok_len call_lenJ B.len PyProof.Rows.Boot.«len» (by decide +kernel) (by decide +kernel) rfl rfl rfl ?_
 refine ja_cons rfl ?_ ?_
 walk_at "v9"
 exact ja_nil
 walk_at "v7"
 refine jw_or1 ?_
 refine jt_cmp ok_ne (op_neD hr) (nomark _) ?_ ?_
 refine je_call D__law_walked fnM_len rfl rfl rfl rfl rfl hr (by decide) pass0 (by decide +kernel) rfl rfl rfl ?_
 refine ja_cons rfl ?_ ?_
 walk_at "v1"
 refine ja_cons rfl ?_ ?_
 walk_at "v4"
 refine ja_cons rfl ?_ ?_
 walk_at "v9"
 exact ja_nil
 walk_at "v5"
 refine jss_one ?_
 refine js_ret ?_
 exact je_bl
 exact jss_nil
 refine jss_cons ?_ ?_
 refine js_app 9 rfl (by walk_at "vis") (by decide +kernel) (by decide +kernel) rfl rfl rfl rfl ?_
 refine je_un ok_neg un_neg ?_
 exact je_int
 refine jss_cons ?_ ?_
 refine js_asg 10 nd11 rfl (by walk_at "loc") rfl rfl ?_
 refine je_call D_exchanges fnM_len rfl rfl rfl rfl rfl hr (by decide) pass0 (by decide +kernel) rfl rfl rfl ?_
 refine ja_cons rfl ?_ ?_
 walk_at "v2"
 refine ja_cons rfl ?_ ?_
 walk_at "v4"
 exact ja_nil
 refine jss_cons ?_ ?_
 refine js_if ?_ ?_ ?_
 refine jt_bool ?_
 refine jw_or ?_ ?_
 refine jt_not ?_
 refine jt_val (fun _=>rfl) ?_
 refine je_isL rfl rfl B rfl rfl ?_
 walk_at "v10"
 refine jw_or ?_ ?_
 refine jt_cmp ok_ne (op_neD hr) (nomark _) ?_ ?_
 refine je_callB ok_len call_lenJ B.len PyProof.Rows.Boot.«len» (by decide +kernel) (by decide +kernel) rfl rfl rfl ?_
 refine ja_cons rfl ?_ ?_
 walk_at "v10"
 exact ja_nil
 walk_at "v7"
 refine jw_or1 ?_
 refine jt_cmp ok_ne (op_neD hr) (nomark _) ?_ ?_
 refine je_call D__law_walked fnM_len rfl rfl rfl rfl rfl hr (by decide) pass0 (by decide +kernel) rfl rfl rfl ?_
 refine ja_cons rfl ?_ ?_
 walk_at "v1"
 refine ja_cons rfl ?_ ?_
 walk_at "v4"
 refine ja_cons rfl ?_ ?_
 walk_at "v10"
 exact ja_nil
 walk_at "v5"
 refine jss_one ?_
 refine js_ret ?_
 exact je_bl
 exact jss_nil
 refine jss_one ?_
 refine js_if ?_ ?_ ?_
 refine jt_cmp ok_ne (op_neD hr) (nomark _) ?_ ?_
 refine je_call D_exchanges fnM_len rfl rfl rfl rfl rfl hr (by decide) pass0 (by decide +kernel) rfl rfl rfl ?_
 refine ja_cons rfl ?_ ?_
 walk_at "v2"
 refine ja_cons rfl ?_ ?_
 walk_at "v5"
 exact ja_nil
 refine je_lst ?_
 exact ja_nil
 refine jss_one ?_
 refine js_ret ?_
 exact je_bl
 exact jss_nil
 refine jss_one ?_
 refine js_ret ?_
 refine je_cmp ok_eq (op_eqD hr) (nomark _) ?_ ?_
 walk_at "v2"
 walk_at "v1"
end
end Gk13
end
section
set_option maxRecDepth 100000
set_option maxHeartbeats 4000000
namespace Gk13
open PySem L2 J St
local macro_rules | `(tactic| walk_at "ev")=>do
 let l ← ("seqS ifS tstM opM m1L m2L consM nilM varM litM peeks peek er ers boolA J.andM J.orM J.notM andT orT notT iteM chnM plainM share move moves keep tupV mkT lstM vals fzs fzs_map ers_map asgS unpS setAll partsA expS retS retN skipS stuckS free putS appS extS heldL callM argsOf argOf refs back setA outA isiA isInt isBool isLst isTup isStr addA subA int2 mulA modA fdivA powA shlA shrA bandA borA negA absA maxA minA lenA ixA intU strU fzU intV strV Option.some_or Option.none_or Option.bind_none itemsA lstA atI ixN eqA neA ltA leA gtA geA int2b seqI nameOf lock unlock shB shBs allA anyA listA smeM joinF indexF slHi slLo slF own eqD bools_map intsD_iL iL_flat inD_iL inA flatD".splitOn " ").mapM fun s=>`(Lean.Parser.Tactic.simpLemma| $(Lean.mkIdent s.toName):ident)
 let l:=l.toArray
 `(tactic| simp [-List.map_map,$l,*, *])
structure Hs where
 n:Int
 ls:List (Nat × List Int)
noncomputable def chD (c:Nat):D:=.str ⟨#[c]⟩
noncomputable def ld (p:Nat × List Int):D:=.tup [chD p.1,.lst (iL p.2)]
noncomputable def Hs.d (h:Hs):D:=.tup [.int h.n,.lst (h.ls.map ld)]
structure Hs.Ok (h:Hs):Prop where
 n1:2≤h.n
 n2:h.n≤4
 l1:1≤h.ls.length
 l2:h.ls.length≤6
 ch:∀ p∈h.ls,97≤p.1∧p.1≤122
 ri:(h.ls.map (·.1)).Pairwise (· < ·)
 hs:∀ p∈h.ls,p.2≠[]∧p.2.Pairwise (· < ·)∧∀ x∈p.2,0≤x∧x < h.n
@[simp] theorem s_is_whole (st:Own) (d:D):fn_is_whole [(st,.fz d)] = some (.fz (.bl (isInt d && !isBool d)),[.fz d]):=by
 simp only [fn_is_whole,fnM,den_is_whole]
 cases d <;> walk_at "ev"
@[simp] theorem s_is_number_below (s1 s2:Own) (i b:Int):fn_is_number_below [(s1,.fz (.int i)),(s2,.fz (.int b))] = some (.fz (.bl (decide (0≤i) && decide (i < b))),[.fz (.int i),.fz (.int b)]):=by
 simp only [fn_is_number_below,fnM,den_is_number_below]
 by_cases h0:0≤i <;> walk_at "ev" <;> simp [h0]
@[simp] theorem s_is_pair (st:Own) (x y:D):fn_is_pair [(st,.fz (.tup [x,y]))] = some (.fz (.bl true),[.fz (.tup [x,y])]):=by
 simp only [fn_is_pair,fnM,den_is_pair]
 walk_at "ev"
theorem all_map_id {α:Type} (xs:List α) (f:α → Bool):(xs.map f).all id = xs.all f:=by simp [List.all_map]
theorem s_are_numbers (s1 s2:Own) (xs:List Int) (b:Int) (hl:xs.length≤LIM):fn_are_numbers_below [(s1,.fz (.lst (iL xs))),(s2,.fz (.int b))] = some (.fz (.bl (xs.all fun i=>decide (0≤i) && decide (i < b))),[.fz (.lst (iL xs)),.fz (.int b)]):=by
 have hc:=compM_map (it:=seqI (varM 0)) (e:=callM fn_is_number_below (consM (varM 0) (consM (varM 2) nilM))) (ρ:=[some (s1,.fz (.lst (iL xs))),some (s2,.fz (.int b))]) (ρ1:=[some (s1,.fz (.lst (iL xs))),some (s2,.fz (.int b))]) (ds:=iL xs) (n:=none) (f:=fun d=>.bl (decide (0≤nD d) && decide (nD d < b))) (by walk_at "ev") (by simpa using hl) (fun d hd=>by
  obtain ⟨i,_,rfl⟩:=mem_iL.mp hd
  refine ⟨.val (.fz (.bl (decide (0≤i) && decide (i < b)))),?_,?_⟩ <;> walk_at "ev" <;> rfl)
 rw [map_iL (fun i=>D.bl (decide (0≤i) && decide (i < b)))] at hc
 refine fn_ret (ρ:=[some (s1,.fz (.lst (iL xs))),some (s2,.fz (.int b))]) rfl ?_
 show den_are_numbers_below [some (s1,.fz (.lst (iL xs))),some (s2,.fz (.int b))] = _
 unfold den_are_numbers_below
 refine ret_of ?_
 simp only [opM,consM,nilM,hc,Option.bind_some,Option.map_some,peeks,peek,allA,lstA,fzs_map,bools_map,all_map_id]
@[simp] theorem s_list_below (s1 s2:Own) (xs:List Int) (b:Int) (hl:xs.length≤LIM):fn_is_list_of_numbers_below [(s1,.fz (.lst (iL xs))),(s2,.fz (.int b))] = some (.fz (.bl (xs.all fun i=>decide (0≤i) && decide (i < b))),[.fz (.lst (iL xs)),.fz (.int b)]):=by
 have e1:=s_are_numbers .own .own xs b hl
 simp only [fn_is_list_of_numbers_below,fnM,den_is_list_of_numbers_below]
 clear hl
 walk_at "ev"
theorem atI_get {α:Type} {xs:List α} {k:Nat} {i:Int} (hi:i = k) (h:k < xs.length):atI xs i = some xs[k]:=by
 subst hi
 simp [atI,ixN,h]
theorem rise_get {xs:List Int} (h:xs.Pairwise (· < ·)) {k:Nat} (hk:k + 1 < xs.length):xs[k]'(by lia) < xs[k + 1]:=List.pairwise_iff_getElem.mp h k (k + 1) (by lia) hk (by lia)
theorem allT {ds:List D} (h:∀ d∈ds,d = .bl true):∃ bs:List Bool,boolsD ds = some bs∧bs.all id = true:=by
 induction ds with
 | nil=>exact ⟨[],rfl,rfl⟩
 | cons d ds ih =>
  obtain ⟨bs,h1,h2⟩:=ih fun x hx=>h x (List.mem_cons_of_mem _ hx)
  have:=h d List.mem_cons_self
  subst this
  exact ⟨true :: bs,by simp [boolsD,h1],by simpa using h2⟩
theorem all_true {it:MI} {e:ME} {ρ ρ1:Ro} {ds:List D} {n:Option Nat} (hi:it ρ = some (ds,n,ρ1)) (hl:ds.length≤LIM) (he:∀ d∈ds,e (J.own d :: lock ρ1 n) = some (.val (.fz (.bl true)),J.own d :: lock ρ1 n)) :
  opM allA (consM (compM it 0 yesT e) nilM) ρ = some (.val (.fz (.bl true)),ρ1):=by
 have hc:=compM_map (f:=fun _=>.bl true) hi hl fun d hd=>⟨_,he d hd,by simp [share,er]⟩
 obtain ⟨bs,h1,h2⟩:=allT (ds:=ds.map fun _=>D.bl true) (by simp)
 simp only [opM,consM,nilM,hc,Option.bind_some,Option.map_some,peeks,peek,allA,lstA,fzs_map,h1,h2]
theorem s_rising (s1 s2:Own) (xs:List Int) (b:Int) (hl:xs.length≤1000) (hr:xs.Pairwise (· < ·)) (hb:∀ x∈xs,0≤x∧x < b):fn_is_rising_list_below [(s1,.fz (.lst (iL xs))),(s2,.fz (.int b))] = some (.fz (.bl true),[.fz (.lst (iL xs)),.fz (.int b)]):=by
 have hL:xs.length≤LIM:=Nat.le_trans hl (by decide)
 simp only [fn_is_rising_list_below,fnM,den_is_rising_list_below]
 have h1:(xs.all fun i=>decide (0≤i) && decide (i < b)) = true:=by simpa [List.all_eq_true] using hb
 have hc:=all_true (it:=rngI1 (opM subA (m2L (opM lenA (consM (varM 0) (nilM))) (litM (.int 1))))) (e:=opM ltA (m2L (opM ixA (m2L (varM 1) (varM 0))) (opM ixA (m2L (varM 1) (opM addA (m2L (varM 0) (litM (.int 1)))))))) (ρ:=[some (s1,.fz (.lst (iL xs))),some (s2,.fz (.int b))]) (ds:=upto 0 ((xs.length:Int) - 1).toNat) (n:=none) (ρ1:=[some (s1,.fz (.lst (iL xs))),some (s2,.fz (.int b))])
  (by
   have : -(2 ^ 62)≤(xs.length:Int) - 1∧(xs.length:Int) - 1 < 2 ^ 62:=by lia
   simp only [rngI1]; walk_at "ev"; lia) (by rw [up_len]; lia) (fun d hd=>by
   obtain ⟨j,hj⟩:=List.mem_iff_getElem?.mp hd
   obtain ⟨rfl,hj⟩:=up_get hj
   have hk:j + 1 < xs.length:=by lia
   have e1:=atI_get (xs:=iL xs) (i:=0 + (j:Int)) (k:=j) (by lia) (by simpa using (by lia:j < xs.length))
   have e2:=atI_get (xs:=iL xs) (i:=0 + (j:Int) + 1) (k:=j + 1) (by lia) (by simpa using hk)
   have e3:=rise_get hr hk
   simp only [iL,List.getElem_map] at e1 e2
   simp only [lock_none,opM,m2L,consM,nilM,varM,litM,J.own,peeks,peek,ixA,intU,strU,fzU,intV,strV,Option.some_or,Option.none_or,Option.bind_none,itemsA,addA,ltA,List.getElem?_cons_zero,List.getElem?_cons_succ,Option.bind_some,Option.map_some,iL,e1,e2,e3,decide_true])
 simp only [seqS,ifS,notT,tstM,retS,callM,consM,nilM,varM,List.map_cons,List.map_nil,List.getElem?_cons_zero,List.getElem?_cons_succ,Option.bind_some,Option.map_some,argsOf,argOf,refs,List.nodup_nil,if_true,s_list_below _ _ xs b hL,h1,back,peek,boolA,Bool.not_true,Bool.false_eq_true,if_false,skipS,List.append_nil,List.length_cons,List.length_nil,Nat.sub_self,List.replicate_zero]
 simp [hc,move,outA]
local macro_rules | `(tactic| walk_at "eo")=>do
 let l ← ("seqS ifS tstM opM m1L m2L consM nilM varM litM peeks peek er ers boolA J.andM J.orM J.notM andT orT notT iteM chnM plainM share move moves keep tupV mkT lstM vals fzs fzs_map ers_map asgS unpS setAll partsA expS retS retN skipS stuckS free putS appS extS heldL callM argsOf argOf refs back setA outA isiA isInt isBool isLst isTup isStr addA subA int2 mulA modA fdivA powA shlA shrA bandA borA negA absA maxA minA lenA ixA intU strU fzU intV strV Option.some_or Option.none_or Option.bind_none itemsA lstA eqA neA ltA leA gtA geA int2b seqI nameOf lock unlock unlockF shB shBs allA anyA listA smeM joinF indexF slHi slLo slF J.own eqD bools_map intsD_iL iL_flat inD_iL iL_length inA flatD sortedA rngI1 strI rngD dixA dictA keyD slLoHi revA rngI2 enumI findF countF lrngA lslHi List.getElem?_cons_zero List.getElem?_cons_succ List.getElem?_nil Option.bind_some Option.bind_none Option.map_some Option.map_none List.map_cons List.map_nil List.cons_append List.nil_append List.append_nil List.length_cons List.length_nil List.length_map List.replicate_zero List.replicate_succ List.nodup_nil List.set_cons_zero List.set_cons_succ List.take_succ_cons List.take_zero if_true if_false Bool.not_true Bool.not_false Bool.false_eq_true reduceIte reduceCtorEq Nat.reduceSub Nat.reduceAdd Nat.sub_self Bool.true_and Bool.and_true Bool.false_and Bool.and_false Bool.true_or Bool.or_true Bool.false_or Bool.or_false decide_true decide_false beq_self_eq_true and_self and_true true_and Nat.zero_add List.nodup_cons List.not_mem_nil not_false_eq_true".splitOn " ").mapM fun s=>`(Lean.Parser.Tactic.simpLemma| $(Lean.mkIdent s.toName):ident)
 let l:=l.toArray
 `(tactic| simp only [$l,*, *])
theorem chr_a:(Str.ofString "a").cps.toList = [97]:=by decide +kernel
theorem chr_z:(Str.ofString "z").cps.toList = [122]:=by decide +kernel
theorem lt_one (a b:Nat):([a] < [b])↔a < b:=by
 rw [List.cons_lt_cons_iff]
 constructor
 ·rintro (h | ⟨_,h⟩)
  ·exact h
  ·exact absurd h (List.not_lt_nil _)
 ·intro h; exact .inl h
theorem at0 {α:Type} (a:α) (xs:List α):atI (a :: xs) 0 = some a:=by simp [atI,ixN]
theorem at1 {α:Type} (a b:α) (xs:List α):atI (a :: b :: xs) 1 = some b:=by
 have:(1:Int) < ((xs.length:Int) + 1 + 1):=by lia
 simp [atI,ixN,this]
theorem s_small (st:Own) (c:Nat) (h:97≤c∧c≤122):fn_is_small_letter [(st,.fz (chD c))] = some (.fz (.bl true),[.fz (chD c)]):=by
 have e1:decide ([c] < [97]) = false:=by rw [decide_eq_false_iff_not,lt_one]; lia
 have e2:decide ([122] < [c]) = false:=by rw [decide_eq_false_iff_not,lt_one]; lia
 have e3:((Str.length ⟨#[c]⟩:Nat):Int) = 1:=rfl
 have e4:=chr_a
 have e5:=chr_z
 simp only [fn_is_small_letter,fnM,den_is_small_letter,chD]
 walk_at "eo"
theorem s_entry (s1 s2:Own) (n:Int) (p:Nat × List Int) (h:97≤p.1∧p.1≤122) (hl:p.2.length≤1000) (h0:p.2≠[]) (hr:p.2.Pairwise (· < ·)) (hb:∀ x∈p.2,0≤x∧x < n):fn_is_entry [(s1,.fz (.int n)),(s2,.fz (ld p))] = some (.fz (.bl true),[.fz (.int n),.fz (ld p)]):=by
 have hp:decide ((0:Int) < (p.2.length:Int)) = true:=by
  have:=List.length_pos_iff.mpr h0
  simpa using this
 have e1:=at0 (chD p.1) [.lst (iL p.2)]
 have e2:=at1 (chD p.1) (.lst (iL p.2)) []
 have e3:=s_small .own p.1 h
 have e4:=s_rising .own .own p.2 n hl hr hb
 have e5:=s_is_pair .own (chD p.1) (.lst (iL p.2))
 clear hb hr h0 h hl
 simp only [fn_is_entry,fnM,den_is_entry,ld]
 walk_at "eo"
theorem s_count (st:Own) (n:Int) (h1:2≤n) (h2:n≤4):fn_is_count_of_hands [(st,.fz (.int n))] = some (.fz (.bl true),[.fz (.int n)]):=by
 have e1:=s_is_whole .own (.int n)
 simp only [fn_is_count_of_hands,fnM,den_is_count_of_hands]
 walk_at "eo"
theorem rise_len {n lo:Int}:∀ {xs:List Int},xs.Pairwise (· < ·)→(∀ x∈xs,lo≤x∧x < n)→(xs.length:Int)≤max 0 (n - lo):=by
 intro xs
 induction xs generalizing lo with
 | nil=>intro _ _; simp; lia
 | cons x xs ih =>
  intro hp hb
  have:=ih (lo:=x + 1) (List.pairwise_cons.mp hp).2 fun y hy=>⟨by have:=(List.pairwise_cons.mp hp).1 y hy; lia,(hb y (List.mem_cons_of_mem _ hy)).2⟩
  have:=hb x List.mem_cons_self
  simp only [List.length_cons]
  lia
theorem Hs.Ok.hl {h:Hs} (ok:h.Ok):∀ p∈h.ls,p.2.length≤4:=fun p hp=>by
 obtain ⟨_,r,b⟩:=ok.hs p hp
 have n2:=ok.n2
 have:=rise_len r b
 lia
theorem s_entries (s1 s2:Own) (h:Hs) (ok:h.Ok):fn_are_entries [(s1,.fz (.int h.n)),(s2,.fz (.lst (h.ls.map ld)))] = some (.fz (.bl true),[.fz (.int h.n),.fz (.lst (h.ls.map ld))]):=by
 have l1:=ok.l1
 have l2:=ok.l2
 have hlim:1000≤LIM:=by decide
 have hc1:=all_true (it:=seqI (varM 1)) (e:=callM fn_is_entry (consM (varM 1) (consM (varM 0) (nilM)))) (ρ:=[some (s1,.fz (.int h.n)),some (s2,.fz (.lst (h.ls.map ld)))]) (ds:=h.ls.map ld) (n:=none) (ρ1:=[some (s1,.fz (.int h.n)),some (s2,.fz (.lst (h.ls.map ld)))])
  (by walk_at "eo") (by simp; lia) (fun d hd=>by
   obtain ⟨p,hp,rfl⟩:=List.mem_map.mp hd
   obtain ⟨h0,hr,hb⟩:=ok.hs p hp
   have e1:=s_entry .own .own h.n p (ok.ch p hp) (by have:=ok.hl p hp; lia) h0 hr hb
   clear hb hr h0 hd hp
   walk_at "eo")
 have hc2:=all_true (it:=rngI1 (opM subA (m2L (opM lenA (consM (varM 1) (nilM))) (litM (.int 1))))) (e:=opM ltA (m2L (opM ixA (m2L (opM ixA (m2L (varM 2) (varM 0))) (litM (.int 0)))) (opM ixA (m2L (opM ixA (m2L (varM 2) (opM addA (m2L (varM 0) (litM (.int 1)))))) (litM (.int 0)))))) (ρ:=[some (s1,.fz (.int h.n)),some (s2,.fz (.lst (h.ls.map ld)))]) (ds:=upto 0 ((h.ls.length:Int) - 1).toNat) (n:=none) (ρ1:=[some (s1,.fz (.int h.n)),some (s2,.fz (.lst (h.ls.map ld)))])
  (by
   have e0:(-(2 ^ 62)≤(h.ls.length:Int) - 1∧(h.ls.length:Int) - 1 < 2 ^ 62) = True:=by simp; lia
   clear hc1
   walk_at "eo") (by rw [up_len]; lia) (fun d hd=>by
   obtain ⟨j,hj⟩:=List.mem_iff_getElem?.mp hd
   obtain ⟨rfl,hj⟩:=up_get hj
   have hk:j + 1 < h.ls.length:=by lia
   have e1:=atI_get (xs:=h.ls.map ld) (i:=0 + (j:Int)) (k:=j) (by lia) (by simpa using (by lia:j < h.ls.length))
   have e2:=atI_get (xs:=h.ls.map ld) (i:=0 + (j:Int) + 1) (k:=j + 1) (by lia) (by simpa using hk)
   have e3:(h.ls[j]'(by lia)).1 < (h.ls[j + 1]).1:=by
    have:=List.pairwise_iff_getElem.mp ok.ri j (j + 1) (by simp; lia) (by simpa using hk) (by lia)
    simpa using this
   simp only [List.getElem_map,ld,chD] at e1 e2
   have e4:decide ([(h.ls[j]'(by lia)).1] < [(h.ls[j + 1]).1]) = true:=by rw [decide_eq_true_iff]; exact (lt_one _ _).mpr e3
   have e5:=at0 (D.str ⟨#[(h.ls[j]'(by lia)).1]⟩) [.lst (iL (h.ls[j]'(by lia)).2)]
   have e6:=at0 (D.str ⟨#[(h.ls[j + 1]).1]⟩) [.lst (iL (h.ls[j + 1]).2)]
   clear hc1 hd e3 hj l1 l2 hlim
   walk_at "eo")
 have e5:decide ((1:Int)≤(h.ls.length:Int)) = true:=by simp; lia
 have e6:decide ((h.ls.length:Int)≤6) = true:=by simp; lia
 clear l1 l2 hlim
 refine fn_ret (ρ:=[some (s1,.fz (.int h.n)),some (s2,.fz (.lst (h.ls.map ld)))]) rfl ?_
 show den_are_entries [some (s1,.fz (.int h.n)),some (s2,.fz (.lst (h.ls.map ld)))] = _
 unfold den_are_entries
 rw [seq_next (ρ1:=[some (s1,.fz (.int h.n)),some (s2,.fz (.lst (h.ls.map ld)))]) (by clear hc1 hc2; walk_at "eo"),seq_next (if_f (not_of (tst_of hc1)))]
 exact ret_of hc2
theorem s_is_house (st:Own) (h:Hs) (ok:h.Ok):fn_is_house [(st,.fz h.d)] = some (.fz (.bl true),[.fz h.d]):=by
 have e1:=s_entries .own .own h ok
 have e2:=s_count .own h.n ok.n1 ok.n2
 have e3:=s_is_pair .own (.int h.n) (.lst (h.ls.map ld))
 have e4:=at0 (D.int h.n) [.lst (h.ls.map ld)]
 have e5:=at1 (D.int h.n) (.lst (h.ls.map ld)) []
 simp only [fn_is_house,fnM,den_is_house,Hs.d]
 walk_at "eo"
theorem s_need_house (st:Own) (h:Hs) (ok:h.Ok):fn_need_house [(st,.fz h.d)] = some (.fz .non,[.fz h.d]):=by
 have e1:=s_is_house .own h ok
 simp only [fn_need_house,fnM,den_need_house]
 walk_at "eo"
noncomputable def Hs.text (h:Hs):Str:=⟨(h.ls.map (·.1)).toArray⟩
theorem strsD_map:∀ (xs:List (Nat × List Int)),strsD (xs.map fun p=>chD p.1) = some (xs.map fun p=>(⟨#[p.1]⟩:Str))
 | []=>rfl
 | x :: xs=>by
  have ih:=strsD_map xs
  simp only [chD] at ih
  simp [strsD,chD,ih]
theorem glue_one (xs:List (Nat × List Int)):glue (xs.map fun p=>(⟨#[p.1]⟩:Str)) = ⟨(xs.map (·.1)).toArray⟩:=by
 unfold glue
 congr 1
 congr 1
 induction xs with
 | nil=>rfl
 | cons x xs ih=>simp at ih ⊢; exact ih
theorem sum_ones (xs:List (Nat × List Int)):((xs.map fun p=>(⟨#[p.1]⟩:Str)).map (·.length)).sum = xs.length:=by
 induction xs with
 | nil=>rfl
 | cons x xs ih =>
  have:Str.length ⟨#[x.1]⟩ = 1:=rfl
  simp only [List.map_cons,List.sum_cons,ih,this,List.length_cons]
  lia
theorem s_letters_of (st:Own) (h:Hs) (ok:h.Ok):fn_letters_of [(st,.fz h.d)] = some (.fz (.str h.text),[.fz h.d]):=by
 have e5:=at1 (D.int h.n) (.lst (h.ls.map ld)) []
 have l2:=ok.l2
 have hlim:1000≤LIM:=by decide
 have hc:=compM_map (it:=seqI (opM ixA (m2L (varM 0) (litM (.int 1))))) (e:=opM ixA (m2L (varM 0) (litM (.int 0)))) (ρ:=[some (st,.fz h.d)]) (ρ1:=[some (st,.fz h.d)]) (ds:=h.ls.map ld) (n:=none) (f:=fun d=>match d with | .tup (x :: _)=>x | d=>d)
  (by simp only [Hs.d]; walk_at "eo") (by simp; lia) (fun d hd=>by
   obtain ⟨p,hp,rfl⟩:=List.mem_map.mp hd
   have e6:=at0 (chD p.1) [.lst (iL p.2)]
   simp only [ld]
   refine ⟨.val (.fz (chD p.1)),?_,?_⟩ <;> clear hd hp e5 <;> walk_at "eo")
 have e1:(h.ls.map ld).map (fun d=>match d with | .tup (x :: _)=>x | d=>d) = h.ls.map fun p=>chD p.1:=by simp [ld]
 rw [e1] at hc
 have e2:=strsD_map h.ls
 have e3:=glue_one h.ls
 have e4:(((h.ls.map fun p=>(⟨#[p.1]⟩:Str)).map (·.length)).sum≤16777216) = True:=by rw [sum_ones]; simp; lia
 have e7:((Str.ofString "").length = 0) = True:=by
  have:(Str.ofString "").length = 0:=by decide +kernel
  simp [this]
 refine fn_ret (ρ:=[some (st,.fz h.d)]) rfl ?_
 show den_letters_of [some (st,.fz h.d)] = _
 unfold den_letters_of
 refine ret_of ?_
 simp only [smeM,litM,Option.bind_some,m1L,consM,nilM,hc,Option.map_some,peeks,peek,joinF,e7,if_true,lstA,fzs_map,e2,e4,e3,Hs.text]
noncomputable def Row (h:Hs) (z:Str):Prop:=z.length≤1000∧∀ c∈z.cps.toList,c∈h.ls.map (·.1)
theorem in_text (h:Hs) (c:Nat) (hc:c∈h.ls.map (·.1)):(!(Builtin.Str.occurrences h.text ⟨#[c]⟩ 0 h.text.length 1).isEmpty) = true:=by
 rw [StrLaws.found_one,decide_eq_true_iff]
 exact hc
theorem s_is_row (s1 s2:Own) (h:Hs) (ok:h.Ok) (z:Str) (hz:Row h z):fn_is_row [(s1,.fz h.d),(s2,.fz (.str z))] = some (.fz (.bl true),[.fz h.d,.fz (.str z)]):=by
 have e1:=s_need_house .own h ok
 have e2:=s_letters_of .own h ok
 have hlim:1000≤LIM:=by decide
 have e3:(z.length≤LIM) = True:=by have:=hz.1; simp; lia
 have hc:=all_true (it:=strI (varM 1)) (e:=opM (inA false) (m2L (varM 0) (varM 3))) (ρ:=[some (s1,.fz h.d),some (s2,.fz (.str z)),some (.own,.fz (.str h.text))]) (ρ1:=[some (s1,.fz h.d),some (s2,.fz (.str z)),some (.own,.fz (.str h.text))]) (ds:=signsD z) (n:=none)
  (by walk_at "eo") (by
   have:(signsD z).length = z.length:=by simp [signsD]; rfl
   rw [this]; have:=hz.1; lia) (fun d hd=>by
   simp only [signsD,List.mem_map] at hd
   obtain ⟨c,hc,rfl⟩:=hd
   have e4:=in_text h c (hz.2 c hc)
   clear e1 e2 e3
   walk_at "eo")
 refine fn_ret (ρ:=[some (s1,.fz h.d),some (s2,.fz (.str z)),some (.own,.fz (.str h.text))]) rfl ?_
 show den_is_row [some (s1,.fz h.d),some (s2,.fz (.str z)),none] = _
 unfold den_is_row
 clear hz
 rw [seq_next (ρ1:=[some (s1,.fz h.d),some (s2,.fz (.str z)),none]) (by clear hc; walk_at "eo"),seq_next (ρ1:=[some (s1,.fz h.d),some (s2,.fz (.str z)),none]) (by clear hc; walk_at "eo"),seq_next (ρ1:=[some (s1,.fz h.d),some (s2,.fz (.str z)),some (.own,.fz (.str h.text))]) (by clear hc; walk_at "eo")]
 exact ret_of hc
theorem s_need_row (s1 s2:Own) (h:Hs) (ok:h.Ok) (z:Str) (hz:Row h z):fn_need_row [(s1,.fz h.d),(s2,.fz (.str z))] = some (.fz .non,[.fz h.d,.fz (.str z)]):=by
 have e1:=s_is_row .own .own h ok z hz
 simp only [fn_need_row,fnM,den_need_row]
 clear hz
 walk_at "eo"
noncomputable def Hs.hands (h:Hs) (c:Nat):List Int:=((h.ls.find? fun p=>p.1 == c).map (·.2)).getD []
theorem find_place {h:Hs} (ok:h.Ok) {c:Nat} (hc:c∈h.ls.map (·.1)):∃ (j:Nat) (hj:j < h.ls.length),(h.ls[j]).1 = c∧Txt.find h.text ⟨#[c]⟩ = (j:Int)∧h.hands c = (h.ls[j]).2:=by
 obtain ⟨p,hp,rfl⟩:=List.mem_map.mp hc
 obtain ⟨j,hj,rfl⟩:=List.mem_iff_getElem.mp hp
 have nd:∀ k (hk:k < j),(h.ls[k]'(by lia)).1≠(h.ls[j]).1:=fun k hk=>by
  have:=List.pairwise_iff_getElem.mp ok.ri k j (by simp; lia) (by simpa using hj) hk
  simp at this
  lia
 refine ⟨j,hj,rfl,find_one (by simp [Hs.text,hj]) (fun k hk=>?_),?_⟩
 ·have hk':k < h.ls.length:=by lia
  simp only [Hs.text]
  rw [List.getElem?_eq_getElem (by simpa using hk')]
  simp
  exact nd k hk
 ·have:h.ls.find? (fun p=>p.1 == (h.ls[j]).1) = some h.ls[j]:=by
   rw [List.find?_eq_some_iff_getElem]
   refine ⟨by simp,j,hj,rfl,fun k hk=>?_⟩
   have:=nd k hk
   simpa using this
  simp [Hs.hands,this]
theorem s_hands_of (s1 s2:Own) (h:Hs) (ok:h.Ok) (c:Nat) (hc:c∈h.ls.map (·.1)):fn_hands_of [(s1,.fz h.d),(s2,.fz (chD c))] = some (.fz (.lst (iL (h.hands c))),[.fz h.d,.fz (chD c)]):=by
 have e1:=s_letters_of .own h ok
 have e5:=at1 (D.int h.n) (.lst (h.ls.map ld)) []
 obtain ⟨j,hj,e2,e3,e4⟩:=find_place ok hc
 have e6:(0≤Txt.find h.text ⟨#[c]⟩) = True:=by rw [e3]; simp
 have e7:=atI_get (xs:=h.ls.map ld) (i:=(j:Int)) (k:=j) rfl (by simpa using hj)
 have e8:ld (h.ls[j]) = .tup [chD c,.lst (iL (h.hands c))]:=by rw [ld,e2,e4]
 simp only [List.getElem_map] at e7
 rw [e8] at e7
 have e9:=at1 (chD c) (.lst (iL (h.hands c))) []
 rw [← e3] at e7
 clear e2 e3 e4 e8 hc
 refine fn_ret (ρ:=[some (s1,.fz h.d),some (s2,.fz (chD c))]) rfl ?_
 show den_hands_of [some (s1,.fz h.d),some (s2,.fz (chD c))] = _
 simp only [den_hands_of,Hs.d,chD] at e1 ⊢
 simp only [chD] at e7 e9
 walk_at "eo"
noncomputable def hL (xs:List Int):A:=.lst ((iL xs).map A.fz)
theorem hL_lst (xs:List Int):lstA (hL xs) = some (iL xs):=by simp [hL,lstA,fzs_map]
theorem anyB {xs:List Int} {f:Int→Bool}:boolsD (xs.map fun x=>D.bl (f x)) = some (xs.map f):=bools_map xs f
theorem any_map_id {α:Type} (xs:List α) (f:α → Bool):(xs.map f).any id = xs.any f:=by simp [List.any_map]
theorem s_hand_in_both (s1 s2:Own) (xs ys:List Int) (hl:xs.length≤1000):fn_is_hand_in_both [(s1,.fz (.lst (iL xs))),(s2,hL ys)] = some (.fz (.bl (xs.any fun x=>decide (x∈ys))),[.fz (.lst (iL xs)),hL ys]):=by
 have hlim:1000≤LIM:=by decide
 have hc:=compM_map (it:=seqI (varM 0)) (e:=opM (inA false) (m2L (varM 0) (varM 2))) (ρ:=[some (s1,.fz (.lst (iL xs))),some (s2,hL ys)]) (ρ1:=[some (s1,.fz (.lst (iL xs))),some (s2,hL ys)]) (ds:=iL xs) (n:=none) (f:=fun d=>.bl (decide (nD d∈ys)))
  (by walk_at "eo") (by simp; lia) (fun d hd=>by
   obtain ⟨i,_,rfl⟩:=mem_iL.mp hd
   refine ⟨.val (.fz (.bl (decide (i∈ys)))),?_,?_⟩
   ·have e1:=iL_flat ys
    have e2:=inD_iL i ys
    simp only [hL] at *
    clear hlim hd
    walk_at "eo"
   ·rfl)
 rw [map_iL (fun i=>D.bl (decide (i∈ys)))] at hc
 refine fn_ret (ρ:=[some (s1,.fz (.lst (iL xs))),some (s2,hL ys)]) rfl ?_
 show den_is_hand_in_both [some (s1,.fz (.lst (iL xs))),some (s2,hL ys)] = _
 unfold den_is_hand_in_both
 refine ret_of ?_
 simp only [opM,consM,nilM,hc,Option.bind_some,Option.map_some,peeks,peek,anyA,lstA,fzs_map,anyB,any_map_id]
noncomputable def Hs.at (h:Hs) (z:Str) (i:Nat):List Int:=h.hands (z.cps.toList.getD i 0)
theorem Row.c {h:Hs} {z:Str} (hz:Row h z) {i:Nat} (hi:i < z.cps.toList.length):z.cps.toList.getD i 0∈h.ls.map (·.1):=by
 have:z.cps.toList.getD i 0 = z.cps.toList[i]:=by simp [List.getD,List.getElem?_eq_getElem hi]
 rw [this]
 exact hz.2 _ (List.getElem_mem hi)
theorem Hs.hands_len {h:Hs} (ok:h.Ok) (c:Nat):(h.hands c).length≤4:=by
 unfold Hs.hands
 cases e:h.ls.find? (fun p=>p.1 == c) with
 | none=>simp
 | some p=>simpa using ok.hl p (List.mem_of_find?_eq_some e)
theorem sign_at {z:Str} {i:Nat} {j:Int} (hj:j = i) (hi:i < z.cps.toList.length):atI z.cps.toList j = some (z.cps.toList.getD i 0):=by
 rw [atI_get hj hi]
 simp [List.getD,List.getElem?_eq_getElem hi]
noncomputable def Bag (n:Nat) (as:List A):Prop:=∃ x y:Int,as = [.fz (.int x),.fz (.int y)]∧0≤y∧y≤n
theorem Bag.mono {n m:Nat} {as:List A} (h:Bag n as) (hm:n≤m):Bag m as:=by
 obtain ⟨x,y,e,h1,h2⟩:=h
 exact ⟨x,y,e,h1,by lia⟩
theorem s_bag (st:Own) (x:Int):∃ as a1,Bag 1 as∧fn__law_bag [(st,.fz (.int x))] = some (.lst as,[a1]):=by
 have p1:decide ((0:Int)≤18∧(18:Int)≤1000000∧Int.natAbs 10 < 2 ^ 64) = true:=by decide
 have l2:((2:Nat)≤LIM) = True:=by simp [LIM,sizeLine]
 have p2:decide ((0:Int) < 2147483647) = true:=by decide
 by_cases h:(10:Int) ^ (18:Int).toNat≤(if x < 0 then -x else x)
 ·refine ⟨_,_,⟨(if x < 0 then -x else x),0,rfl,by lia,by lia⟩,fn_ret (ρ:=[some (st,.fz (.int x))]) rfl ?_⟩
  show den__law_bag [some (st,.fz (.int x))] = _
  unfold den__law_bag
  have h':=decide_eq_true h
  clear h
  walk_at "eo"
 ·refine ⟨_,_,⟨x % 2147483647,1,rfl,by lia,by lia⟩,fn_ret (ρ:=[some (st,.fz (.int x))]) rfl ?_⟩
  show den__law_bag [some (st,.fz (.int x))] = _
  unfold den__law_bag
  have h':=decide_eq_false h
  clear h
  walk_at "eo"
theorem s_take {n:Nat} {as:List A} (hb:Bag n as) (hn:n≤1000000) (m:Int) (hm:0 < m) (hm2:m < 1073741824):∃ (d:Int) (as':List A),0≤d∧d < m∧Bag (n + 1) as'∧fn__law_take [(.lent,.lst as),(.own,.fz (.int m))] = some (.fz (.int d),[.lst as',.fz (.int m)]):=by
 obtain ⟨x,y,rfl,h1,h2⟩:=hb
 have m1:decide (0 < m) = true:=decide_eq_true hm
 have m2:decide (0 < m∧m < 1073741824) = true:=decide_eq_true ⟨hm,hm2⟩
 have i0:ixN 2 0 = some 0:=by rfl
 have i1:ixN 2 1 = some 1:=by rfl
 by_cases hy:y = 0
 ·subst hy
  refine ⟨x % m,[.fz (.int (x / m)),.fz (.int 0)],Int.emod_nonneg _ (by lia),Int.emod_lt_of_pos _ hm,⟨_,_,rfl,by lia,by lia⟩,fn_ret (ρ:=[some (.lent,.lst [.fz (.int (x / m)),.fz (.int 0)]),some (.own,.fz (.int m)),some (.own,.fz (.int (x % m)))]) rfl ?_⟩
  show den__law_take [some (.lent,.lst [.fz (.int x),.fz (.int 0)]),some (.own,.fz (.int m)),none] = _
  unfold den__law_take
  have a0:=at0 (D.int x) [D.int 0]
  have a1:=at1 (D.int x) (D.int 0) []
  clear hm hm2 h1 h2 hn
  walk_at "eo"
 ·let x':=(x * 48271 + 7919 * y * y + 17) % 2147483647
  have e1:eqD (.int y) (.int 0) = false:=by simp [eqD,hy]
  have c1:(-(2 ^ 64) < x∧x < 2 ^ 64 ∨ -(2 ^ 64) < (48271:Int)∧(48271:Int) < 2 ^ 64) = True:=by simp
  have c2:(-(2 ^ 64) < (7919:Int)∧(7919:Int) < 2 ^ 64 ∨ -(2 ^ 64) < y∧y < 2 ^ 64) = True:=by simp
  have c3:(-(2 ^ 64) < 7919 * y∧7919 * y < 2 ^ 64 ∨ -(2 ^ 64) < y∧y < 2 ^ 64) = True:=by simp; lia
  have c4:(-(2 ^ 64) < x'∧x' < 2 ^ 64 ∨ -(2 ^ 64) < (69621:Int)∧(69621:Int) < 2 ^ 64) = True:=by simp
  have d1:decide ((0:Int) < 2147483647) = true:=by decide
  have d2:decide ((0:Int) < 2147483629) = true:=by decide
  have d3:decide ((0:Int) < 5∧(5:Int) < 1073741824) = true:=by decide
  have hx:(x * 48271 + 7919 * y * y + 17) % 2147483647 = x':=rfl
  refine ⟨x' * 69621 % 2147483629 / 5 % m,[.fz (.int x'),.fz (.int (y + 1))],Int.emod_nonneg _ (by lia),Int.emod_lt_of_pos _ hm,⟨_,_,rfl,by lia,by lia⟩,fn_ret (ρ:=[some (.lent,.lst [.fz (.int x'),.fz (.int (y + 1))]),some (.own,.fz (.int m)),none]) rfl ?_⟩
  show den__law_take [some (.lent,.lst [.fz (.int x),.fz (.int y)]),some (.own,.fz (.int m)),none] = _
  unfold den__law_take
  have a0:=at0 (D.int x) [D.int y]
  have a1:=at1 (D.int x) (D.int y) []
  have a2:=at1 (D.int x') (D.int y) []
  have a3:=at0 (D.int x') [D.int (y + 1)]
  rw [seq_next (ρ1:=[some (.lent,.lst [.fz (.int x),.fz (.int y)]),some (.own,.fz (.int m)),none]) (by
   simp only [eqD] at e1
   clear hm hm2 h1 h2 hn c1 c2 c3 c4 hx hy
   walk_at "eo"),seq_next (ρ1:=[some (.lent,.lst [.fz (.int x'),.fz (.int y)]),some (.own,.fz (.int m)),none]) (by
   clear hm hm2 h1 h2 hn c4 hy e1
   walk_at "eo"),seq_next (ρ1:=[some (.lent,.lst [.fz (.int x'),.fz (.int (y + 1))]),some (.own,.fz (.int m)),none]) (by
   clear hm hm2 h1 h2 hn c4 hy e1 c1 c2 c3 hx
   walk_at "eo")]
  refine ret_of ?_
  clear hm hm2 h1 h2 hn hy e1 c1 c2 c3 hx
  walk_at "eo"
noncomputable def bitOn (b:Int) (i:Nat):Bool:=eqD (.int (Builtin.bitAnd (b / 2 ^ i) 1)) (.int 1)
noncomputable def bitsL (n:Nat) (b:Int):List Int:=((List.range n).filter (bitOn b)).map fun (i:Nat)=>(i:Int)
theorem bits_rise (n:Nat) (b:Int):(bitsL n b).Pairwise (· < ·):=by
 unfold bitsL
 rw [List.pairwise_map]
 have:((List.range n).filter (bitOn b)).Pairwise (· < ·):=List.Pairwise.filter _ List.pairwise_lt_range
 exact this.imp fun h=>by lia
theorem bits_lt {n:Nat} {b:Int}:∀ x∈bitsL n b,0≤x∧x < n:=by
 intro x hx
 simp only [bitsL,List.mem_map,List.mem_filter,List.mem_range] at hx
 obtain ⟨i,⟨hi,_⟩,rfl⟩:=hx
 lia
theorem bits_ne_all:∀ n∈[2,3,4],∀ b∈List.range 16,1≤b→b < 2 ^ n→bitsL n (b:Int)≠[]:=by decide +kernel
theorem or_all:∀ n∈[2,3,4],∀ a∈List.range n,∀ b∈List.range n,1≤Builtin.bitOr (1 * 2 ^ a) (1 * 2 ^ b)∧Builtin.bitOr (1 * 2 ^ a) (1 * 2 ^ b) < 2 ^ n:=by decide +kernel
theorem bits_ne {n:Nat} {b:Int} (hn:n = 2∨n = 3∨n = 4) (h1:1≤b) (h2:b < 2 ^ n):bitsL n b≠[]:=by
 obtain ⟨k,rfl⟩:∃ k:Nat,b = k:=⟨b.toNat,by lia⟩
 have h16:(2:Int) ^ n≤16:=by rcases hn with rfl | rfl | rfl <;> decide
 refine bits_ne_all n (by rcases hn with rfl | rfl | rfl <;> simp) k (by simp; lia) (by lia) ?_
 have:((k:Nat):Int) < ((2 ^ n:Nat):Int):=by simpa using h2
 lia
theorem cons_of {m:ME} {ms:MA} {ρ ρ1 ρ2:Ro} {r:R} {rs:List R} (h1:m ρ = some (r,ρ1)) (h2:ms ρ1 = some (rs,ρ2)):consM m ms ρ = some (r :: rs,ρ2):=by simp [consM,h1,h2]
theorem plain_of {m:ME} {ρ ρ1 ρ2:Ro} {r:R} {d:D} (h1:m ρ = some (r,ρ1)) (h2:share ρ1 r = some (d,ρ2)):plainM m ρ = some (.val (.fz d),ρ2):=by simp [plainM,h1,h2]
theorem tup2_of {ms:MA} {ρ ρ1:Ro} {a b:D} (h:ms ρ = some ([.val (.fz a),.val (.fz b)],ρ1)):tupV ms ρ = some (.val (.fz (.tup [a,b])),ρ1):=by
 simp [tupV,h,moves,move,mkT,fzs,LIM,sizeLine]
theorem app_of {m:ME} {i:Nat} {ρ:Ro} {st:Own} {as:List A} {a:A} (h0:heldL ρ i = some (st,as)) (h:m ρ = some (.val a,ρ)) (hl:as.length < LIM):appS i m ρ = some (.next (ρ.set i (some (st,.lst (as ++ [a]))))):=by
 simp only [appS,h0,Option.bind_some,h,keep,if_pos hl]
theorem share_lst (ρ:Ro) (ds:List D):share ρ (.val (.lst (ds.map A.fz))) = some (.lst ds,ρ):=by
 simp [share,er,ers_map]
theorem alph_at:∀ k∈List.range 26,atI (Str.ofString "abcdefghijklmnopqrstuvwxyz").cps.toList (k:Int) = some (97 + k):=by decide +kernel
theorem bits_up (n:Nat) (b:Int):(((upto 0 n).filter fun d=>bitOn b (nD d).toNat).map fun d=>d) = iL (bitsL n b):=by
 have e1:(fun d=>bitOn b (nD d).toNat) ∘ (fun (k:Nat)=>D.int (0 + (k:Int))) = bitOn b:=by
  funext k
  simp
 have e2:D.int ∘ (fun (i:Nat)=>(i:Int)) = fun (k:Nat)=>D.int (0 + (k:Int)):=by
  funext k
  simp
 rw [List.map_id',upto,List.filter_map,e1,iL,bitsL,List.map_map,e2]
structure HI (n:Int) (M j:Nat) (ls:List (Nat × List Int)) (a:Int):Prop where
 len:ls.length = j
 a0:0≤a
 a1:a≤26 - M + j
 ch:∀ p∈ls,97≤p.1∧(p.1:Int) < 97 + a
 ri:(ls.map (·.1)).Pairwise (· < ·)
 hs:∀ p∈ls,p.2≠[]∧p.2.Pairwise (· < ·)∧∀ x∈p.2,0≤x∧x < n
theorem HI.step {n:Int} {M j:Nat} {ls:List (Nat × List Int)} {a d:Int} {hl:List Int} (h:HI n M j ls a) (d0:0≤d) (d1:d < 27 - M + (0 + (j:Int)) - a) (hl0:hl≠[]) (hl1:hl.Pairwise (· < ·)) (hl2:∀ x∈hl,0≤x∧x < n):HI n M (j + 1) (ls ++ [(97 + (a + d).toNat,hl)]) (a + d + 1):=by
 have a0:=h.a0
 refine ⟨by simp [h.len],by lia,by lia,?_,?_,?_⟩
 ·intro p hp
  rcases List.mem_append.mp hp with hp | hp
  ·have:=h.ch p hp; lia
  ·simp only [List.mem_singleton] at hp; subst hp; simp only; lia
 ·rw [List.map_append,List.pairwise_append]
  refine ⟨h.ri,by simp,?_⟩
  intro x hx y hy
  obtain ⟨p,hp,rfl⟩:=List.mem_map.mp hx
  simp only [List.map_cons,List.map_nil,List.mem_singleton] at hy
  subst hy
  have:=(h.ch p hp).2
  lia
 ·intro p hp
  rcases List.mem_append.mp hp with hp | hp
  ·exact h.hs p hp
  ·simp only [List.mem_singleton] at hp; subst hp; exact ⟨hl0,hl1,hl2⟩
theorem s_house_step {n M S a:Int} {Mn j N:Nat} {as:List A} {ls:List (Nat × List Int)} {x7:Slot} (hM:M = Mn) (hM2:Mn≤6) (hj:j < Mn) (hn:n = 2∨n = 3∨n = 4) (hb:Bag N as) (hN:N≤100000) (hi:HI n Mn j ls a) (hx7:x7 = none∨∃ d,x7 = some (Own.own,A.fz d)) :
  ∃ as' ls' a' b,(seqS (asgS 5 (opM addA (m2L (varM 5) (callM fn__law_take (consM (varM 0) (consM (opM subA (m2L (opM addA (m2L (opM subA (m2L (litM (.int 27)) (varM 2))) (varM 6))) (varM 5))) (nilM))))))) (seqS (asgS 7 (opM addA (m2L (litM (.int 1)) (callM fn__law_take (consM (varM 0) (consM (opM subA (m2L (opM shlA (m2L (litM (.int 1)) (varM 1))) (litM (.int 1)))) (nilM))))))) (seqS (ifS (tstM (opM eqA (m2L (varM 3) (litM (.int 1))))) (asgS 7 (opM borA (m2L (opM shlA (m2L (litM (.int 1)) (callM fn__law_take (consM (varM 0) (consM (varM 1) (nilM)))))) (opM shlA (m2L (litM (.int 1)) (callM fn__law_take (consM (varM 0) (consM (varM 1) (nilM))))))))) (skipS)) (seqS (appS 4 (tupV (consM (plainM (opM ixA (m2L (litM (.str (Str.ofString "abcdefghijklmnopqrstuvwxyz"))) (varM 5)))) (consM (plainM (compM (rngI1 (varM 1)) 0 (tstM (opM eqA (m2L (opM bandA (m2L (opM shrA (m2L (varM 8) (varM 0))) (litM (.int 1)))) (litM (.int 1))))) (varM 0))) (nilM))))) (asgS 5 (opM addA (m2L (varM 5) (litM (.int 1))))))))) [some (.own,.lst as),some (.own,.fz (.int n)),some (.own,.fz (.int M)),some (.own,.fz (.int S)),some (.own,.lst (ls.map fun p=>A.fz (ld p))),some (.own,.fz (.int a)),some (.own,.fz (.int (0 + (j:Int)))),x7] = some (.next [some (.own,.lst as'),some (.own,.fz (.int n)),some (.own,.fz (.int M)),some (.own,.fz (.int S)),some (.own,.lst (ls'.map fun p=>A.fz (ld p))),some (.own,.fz (.int a')),some (.own,.fz (.int (0 + (j:Int)))),some (.own,.fz (.int b))])∧Bag (N + 4) as'∧HI n Mn (j + 1) ls' a':=by
 have a0:=hi.a0
 have a1:=hi.a1
 have hp:(1:Int) * 2 ^ n.toNat - 1≤15∧0 < (1:Int) * 2 ^ n.toNat - 1:=by rcases hn with rfl | rfl | rfl <;> decide
 have sh:decide (0≤n∧n≤1000000∧Int.natAbs 1 < 2 ^ 64) = true:=by rcases hn with rfl | rfl | rfl <;> decide
 obtain ⟨d1,as1,g1,g2,b1,t1⟩:=s_take hb (by lia) (27 - M + (0 + (j:Int)) - a) (by lia) (by lia)
 obtain ⟨d2,as2,g3,g4,b2,t2⟩:=s_take b1 (by lia) ((1:Int) * 2 ^ n.toNat - 1) (by lia) (by lia)
 have st1:asgS 5 (opM addA (m2L (varM 5) (callM fn__law_take (consM (varM 0) (consM (opM subA (m2L (opM addA (m2L (opM subA (m2L (litM (.int 27)) (varM 2))) (varM 6))) (varM 5))) (nilM)))))) [some (.own,.lst as),some (.own,.fz (.int n)),some (.own,.fz (.int M)),some (.own,.fz (.int S)),some (.own,.lst (ls.map fun p=>A.fz (ld p))),some (.own,.fz (.int a)),some (.own,.fz (.int (0 + (j:Int)))),x7] = some (.next [some (.own,.lst as1),some (.own,.fz (.int n)),some (.own,.fz (.int M)),some (.own,.fz (.int S)),some (.own,.lst (ls.map fun p=>A.fz (ld p))),some (.own,.fz (.int (a + d1))),some (.own,.fz (.int (0 + (j:Int)))),x7]):=by
  clear t2 b2 b1 g1 g2 g3 g4 sh hp a0 a1 hi hN hb hn hj hM2 hM hx7
  walk_at "eo"
 have st2:asgS 7 (opM addA (m2L (litM (.int 1)) (callM fn__law_take (consM (varM 0) (consM (opM subA (m2L (opM shlA (m2L (litM (.int 1)) (varM 1))) (litM (.int 1)))) (nilM)))))) [some (.own,.lst as1),some (.own,.fz (.int n)),some (.own,.fz (.int M)),some (.own,.fz (.int S)),some (.own,.lst (ls.map fun p=>A.fz (ld p))),some (.own,.fz (.int (a + d1))),some (.own,.fz (.int (0 + (j:Int)))),x7] = some (.next [some (.own,.lst as2),some (.own,.fz (.int n)),some (.own,.fz (.int M)),some (.own,.fz (.int S)),some (.own,.lst (ls.map fun p=>A.fz (ld p))),some (.own,.fz (.int (a + d1))),some (.own,.fz (.int (0 + (j:Int)))),some (.own,.fz (.int (1 + d2)))]):=by
  clear t1 b2 b1 g1 g2 g3 g4 hp a0 a1 hi hN hb hn hj hM2 hM st1
  rcases hx7 with rfl | ⟨d,rfl⟩ <;> walk_at "eo"
 have st3:∃ as3 b,Bag (N + 4) as3∧1≤b∧b < 2 ^ n.toNat∧(ifS (tstM (opM eqA (m2L (varM 3) (litM (.int 1))))) (asgS 7 (opM borA (m2L (opM shlA (m2L (litM (.int 1)) (callM fn__law_take (consM (varM 0) (consM (varM 1) (nilM)))))) (opM shlA (m2L (litM (.int 1)) (callM fn__law_take (consM (varM 0) (consM (varM 1) (nilM))))))))) (skipS)) [some (.own,.lst as2),some (.own,.fz (.int n)),some (.own,.fz (.int M)),some (.own,.fz (.int S)),some (.own,.lst (ls.map fun p=>A.fz (ld p))),some (.own,.fz (.int (a + d1))),some (.own,.fz (.int (0 + (j:Int)))),some (.own,.fz (.int (1 + d2)))] = some (.next [some (.own,.lst as3),some (.own,.fz (.int n)),some (.own,.fz (.int M)),some (.own,.fz (.int S)),some (.own,.lst (ls.map fun p=>A.fz (ld p))),some (.own,.fz (.int (a + d1))),some (.own,.fz (.int (0 + (j:Int)))),some (.own,.fz (.int b))]):=by
  by_cases hS:S = 1
  ·obtain ⟨d3,as3,g5,g6,b3,t3⟩:=s_take b2 (by lia) n (by lia) (by lia)
   obtain ⟨d4,as4,g7,g8,b4,t4⟩:=s_take b3 (by lia) n (by lia) (by lia)
   have ho:=or_all n.toNat (by rcases hn with rfl | rfl | rfl <;> simp) d3.toNat (by simp; lia) d4.toNat (by simp; lia)
   have sh3:decide (0≤d3∧d3≤1000000∧Int.natAbs 1 < 2 ^ 64) = true:=by simp; lia
   have sh4:decide (0≤d4∧d4≤1000000∧Int.natAbs 1 < 2 ^ 64) = true:=by simp; lia
   refine ⟨as4,_,b4.mono (by lia),ho.1,ho.2,?_⟩
   have e1:(S == 1) = true:=by simpa using hS
   clear ho g5 g6 g7 g8 b3 b4 t1 t2 st1 st2 b2 b1 g1 g2 g3 g4 hp a0 a1 hi hN hb hn hj hM2 hM hx7 sh hS
   walk_at "eo"
  ·refine ⟨as2,_,b2.mono (by lia),(by lia:1≤1 + d2),by lia,?_⟩
   have e1:(S == 1) = false:=by simpa using hS
   clear t1 t2 st1 st2 b2 b1 g1 g2 g3 g4 hp a0 a1 hi hN hb hn hj hM2 hM hx7 sh hS
   walk_at "eo"
 obtain ⟨as3,b,b3,c1,c2,st3⟩:=st3
 have hc:compM (rngI1 (varM 1)) 0 (tstM (opM eqA (m2L (opM bandA (m2L (opM shrA (m2L (varM 8) (varM 0))) (litM (.int 1)))) (litM (.int 1))))) (varM 0) [some (.own,.lst as3),some (.own,.fz (.int n)),some (.own,.fz (.int M)),some (.own,.fz (.int S)),some (.own,.lst (ls.map fun p=>A.fz (ld p))),some (.own,.fz (.int (a + d1))),some (.own,.fz (.int (0 + (j:Int)))),some (.own,.fz (.int b))] = some (.val (.lst ((iL (bitsL n.toNat b)).map A.fz)),[some (.own,.lst as3),some (.own,.fz (.int n)),some (.own,.fz (.int M)),some (.own,.fz (.int S)),some (.own,.lst (ls.map fun p=>A.fz (ld p))),some (.own,.fz (.int (a + d1))),some (.own,.fz (.int (0 + (j:Int)))),some (.own,.fz (.int b))]):=by
  have hlim:1000≤LIM:=by decide
  have rg:rngI1 (varM 1) [some (.own,.lst as3),some (.own,.fz (.int n)),some (.own,.fz (.int M)),some (.own,.fz (.int S)),some (.own,.lst (ls.map fun p=>A.fz (ld p))),some (.own,.fz (.int (a + d1))),some (.own,.fz (.int (0 + (j:Int)))),some (.own,.fz (.int b))] = some (upto 0 n.toNat,none,[some (.own,.lst as3),some (.own,.fz (.int n)),some (.own,.fz (.int M)),some (.own,.fz (.int S)),some (.own,.lst (ls.map fun p=>A.fz (ld p))),some (.own,.fz (.int (a + d1))),some (.own,.fz (.int (0 + (j:Int)))),some (.own,.fz (.int b))]):=by
   have e0:(-(2 ^ 62)≤n∧n < 2 ^ 62) = True:=by simp; lia
   clear st3 t1 t2 st1 st2 b2 b1 g1 g2 g3 g4 hp a0 a1 hi hN hb hn hj hM2 hM hx7 sh c1 c2 b3 hlim
   walk_at "eo"
  have:=compM_of (g:=fun d=>bitOn b (nD d).toNat) (f:=fun d=>d) (c:=tstM (opM eqA (m2L (opM bandA (m2L (opM shrA (m2L (varM 8) (varM 0))) (litM (.int 1)))) (litM (.int 1))))) (e:=varM 0) rg (by rw [up_len]; lia) (fun d hd=>by
   obtain ⟨i,hi⟩:=List.mem_iff_getElem?.mp hd
   obtain ⟨rfl,hi⟩:=up_get hi
   have e0:decide (0≤(0:Int) + (i:Int)) = true:=by simp
   clear rg st3 t1 t2 st1 st2 b2 b1 g1 g2 g3 g4 hp a0 a1 hN hb hn hj hM2 hM hx7 sh c1 c2 b3 hlim hd
   simp only [bitOn,nD_int]
   walk_at "eo") (fun d hd _=>⟨.val (.fz d),rfl,rfl⟩)
  rw [this,bits_up]
 have ha:=alph_at (a + d1).toNat (by simp; lia)
 have hcx:atI (Str.ofString "abcdefghijklmnopqrstuvwxyz").cps.toList (a + d1) = some (97 + (a + d1).toNat):=by
  have:(((a + d1).toNat:Nat):Int) = a + d1:=by lia
  rw [this] at ha; exact ha
 have hix:(opM ixA (m2L (litM (.str (Str.ofString "abcdefghijklmnopqrstuvwxyz"))) (varM 5))) [some (.own,.lst as3),some (.own,.fz (.int n)),some (.own,.fz (.int M)),some (.own,.fz (.int S)),some (.own,.lst (ls.map fun p=>A.fz (ld p))),some (.own,.fz (.int (a + d1))),some (.own,.fz (.int (0 + (j:Int)))),some (.own,.fz (.int b))] = some (.val (.fz (chD (97 + (a + d1).toNat))),[some (.own,.lst as3),some (.own,.fz (.int n)),some (.own,.fz (.int M)),some (.own,.fz (.int S)),some (.own,.lst (ls.map fun p=>A.fz (ld p))),some (.own,.fz (.int (a + d1))),some (.own,.fz (.int (0 + (j:Int)))),some (.own,.fz (.int b))]):=by
  clear st3 t1 t2 st1 st2 b2 b1 g1 g2 g3 g4 hp a0 a1 hi hN hb hn hj hM2 hM hx7 sh c1 c2 b3 hc ha
  simp only [chD]
  walk_at "eo"
 have hlsl:(ls.map fun p=>A.fz (ld p)).length < LIM:=by
  have hlim:1000≤LIM:=by decide
  have:=hi.len
  simp only [List.length_map]; lia
 have st4:appS 4 (tupV (consM (plainM (opM ixA (m2L (litM (.str (Str.ofString "abcdefghijklmnopqrstuvwxyz"))) (varM 5)))) (consM (plainM (compM (rngI1 (varM 1)) 0 (tstM (opM eqA (m2L (opM bandA (m2L (opM shrA (m2L (varM 8) (varM 0))) (litM (.int 1)))) (litM (.int 1))))) (varM 0))) (nilM)))) [some (.own,.lst as3),some (.own,.fz (.int n)),some (.own,.fz (.int M)),some (.own,.fz (.int S)),some (.own,.lst (ls.map fun p=>A.fz (ld p))),some (.own,.fz (.int (a + d1))),some (.own,.fz (.int (0 + (j:Int)))),some (.own,.fz (.int b))] = some (.next [some (.own,.lst as3),some (.own,.fz (.int n)),some (.own,.fz (.int M)),some (.own,.fz (.int S)),some (.own,.lst ((ls ++ [((97 + (a + d1).toNat),bitsL n.toNat b)]).map fun p=>A.fz (ld p))),some (.own,.fz (.int (a + d1))),some (.own,.fz (.int (0 + (j:Int)))),some (.own,.fz (.int b))]):=by
  rw [app_of (st:=.own) (as:=ls.map fun p=>A.fz (ld p)) rfl (tup2_of (cons_of (plain_of hix rfl) (cons_of (plain_of hc (share_lst _ _)) rfl))) hlsl]
  simp [ld]
 have hbits:=bits_ne (n:=n.toNat) (b:=b) (by lia) c1 c2
 refine ⟨as3,ls ++ [((97 + (a + d1).toNat),bitsL n.toNat b)],a + d1 + 1,b,?_,b3,hi.step g1 (by lia) hbits (bits_rise _ _) (fun x hx=>by have:=bits_lt x hx; lia)⟩
 rw [seq_next st1,seq_next st2,seq_next st3,seq_next st4]
 clear st3 t1 t2 st1 st2 b2 b1 g1 g2 g3 g4 hp a0 a1 hi hN hb hn hj hM2 hM hx7 sh c1 c2 b3 hc ha hix hlsl st4 hbits
 walk_at "eo"
theorem s_house {N:Nat} {as:List A} (hb:Bag N as) (hN:N≤1000):∃ h:Hs,∃ as',h.Ok∧Bag (N + 30) as'∧fn__law_house [(.own,.lst as)] = some (.fz h.d,[.lst as']):=by
 obtain ⟨d1,as1,g1,g2,b1,t1⟩:=s_take hb (by lia) 3 (by lia) (by lia)
 obtain ⟨d2,as2,g3,g4,b2,t2⟩:=s_take b1 (by lia) 6 (by lia) (by lia)
 obtain ⟨d3,as3,g5,g6,b3,t3⟩:=s_take b2 (by lia) 2 (by lia) (by lia)
 have l0:((0:Nat)≤LIM) = True:=by simp
 have rg:rngI1 (varM 2) [some (.own,.lst as3),some (.own,.fz (.int (2 + d1))),some (.own,.fz (.int (1 + d2))),some (.own,.fz (.int d3)),some (.own,.lst (([]:List (Nat × List Int)).map fun p=>A.fz (ld p))),some (.own,.fz (.int 0)),none,none] = some (upto 0 (1 + d2).toNat,none,[some (.own,.lst as3),some (.own,.fz (.int (2 + d1))),some (.own,.fz (.int (1 + d2))),some (.own,.fz (.int d3)),some (.own,.lst (([]:List (Nat × List Int)).map fun p=>A.fz (ld p))),some (.own,.fz (.int 0)),none,none]):=by
  have e0:(-(2 ^ 62)≤1 + d2∧1 + d2 < 2 ^ 62) = True:=by simp; lia
  clear t1 t2 t3 b1 b2 b3 g1 g2 g3 g4 g5 g6 hb hN l0
  walk_at "eo"
 obtain ⟨ρ',f1,f2⟩:=forS_inv (is:=[6]) (one:=true) (b:=(seqS (asgS 5 (opM addA (m2L (varM 5) (callM fn__law_take (consM (varM 0) (consM (opM subA (m2L (opM addA (m2L (opM subA (m2L (litM (.int 27)) (varM 2))) (varM 6))) (varM 5))) (nilM))))))) (seqS (asgS 7 (opM addA (m2L (litM (.int 1)) (callM fn__law_take (consM (varM 0) (consM (opM subA (m2L (opM shlA (m2L (litM (.int 1)) (varM 1))) (litM (.int 1)))) (nilM))))))) (seqS (ifS (tstM (opM eqA (m2L (varM 3) (litM (.int 1))))) (asgS 7 (opM borA (m2L (opM shlA (m2L (litM (.int 1)) (callM fn__law_take (consM (varM 0) (consM (varM 1) (nilM)))))) (opM shlA (m2L (litM (.int 1)) (callM fn__law_take (consM (varM 0) (consM (varM 1) (nilM))))))))) (skipS)) (seqS (appS 4 (tupV (consM (plainM (opM ixA (m2L (litM (.str (Str.ofString "abcdefghijklmnopqrstuvwxyz"))) (varM 5)))) (consM (plainM (compM (rngI1 (varM 1)) 0 (tstM (opM eqA (m2L (opM bandA (m2L (opM shrA (m2L (varM 8) (varM 0))) (litM (.int 1)))) (litM (.int 1))))) (varM 0))) (nilM))))) (asgS 5 (opM addA (m2L (varM 5) (litM (.int 1))))))))))
  (fun j ρ=>∃ as' ls' a' x6 x7,(x6 = none∨∃ d,x6 = some (Own.own,A.fz d))∧(x7 = none∨∃ d,x7 = some (Own.own,A.fz d))∧Bag (N + 3 + 4 * j) as'∧HI (2 + d1) (1 + d2).toNat j ls' a' ∧ ρ = [some (.own,.lst as'),some (.own,.fz (.int (2 + d1))),some (.own,.fz (.int (1 + d2))),some (.own,.fz (.int d3)),some (.own,.lst (ls'.map fun p=>A.fz (ld p))),some (.own,.fz (.int a')),x6,x7]) rg ⟨as3,[],0,none,none,.inl rfl,.inl rfl,b3,⟨rfl,by lia,by lia,by simp,by simp,by simp⟩,rfl⟩ (fun j d ρ hd hI=>by
   obtain ⟨as',ls',a',x6,x7,hx6,hx7,hb',hi,rfl⟩:=hI
   obtain ⟨rfl,hj⟩:=up_get hd
   obtain ⟨as'',ls'',a'',b,s1,s2,s3⟩:=s_house_step (n:=2 + d1) (M:=1 + d2) (S:=d3) (Mn:=(1 + d2).toNat) (j:=j) (by lia) (by lia) hj (by lia) hb' (by lia) hi hx7
   refine ⟨_,_,?_,.inl s1,as'',ls'',a'',_,_,.inr ⟨_,rfl⟩,.inr ⟨_,rfl⟩,s2.mono (by lia),s3,rfl⟩
   rcases hx6 with rfl | ⟨d,rfl⟩ <;> simp [bindS,free,J.own])
 rw [up_len] at f2
 obtain ⟨as',ls',a',x6,x7,_,_,hb',hi,rfl⟩:=f2
 have hn2:2 + d1≤4:=by lia
 have ha1:=hi.a1
 have hlen:=hi.len
 have ok:Hs.Ok ⟨2 + d1,ls'⟩:=⟨by simp only; lia,hn2,by simp only; lia,by simp only; lia,fun p hp=>by have:=hi.ch p hp; lia,hi.ri,hi.hs⟩
 refine ⟨⟨2 + d1,ls'⟩,as',ok,hb'.mono (by lia),fn_ret (ρ:=[some (.own,.lst as'),some (.own,.fz (.int (2 + d1))),some (.own,.fz (.int (1 + d2))),some (.own,.fz (.int d3)),some (.own,.fz (.lst (ls'.map ld))),some (.own,.fz (.int a')),x6,x7]) rfl ?_⟩
 show den__law_house [some (.own,.lst as),none,none,none,none,none,none,none] = _
 unfold den__law_house
 rw [seq_next (ρ1:=[some (.own,.lst as1),some (.own,.fz (.int (2 + d1))),none,none,none,none,none,none]) (by clear t2 t3 b1 b2 b3 g1 g2 g3 g4 g5 g6 hb hN rg f1 ok ha1 hlen hn2 hi hb'; walk_at "eo"),
  seq_next (ρ1:=[some (.own,.lst as2),some (.own,.fz (.int (2 + d1))),some (.own,.fz (.int (1 + d2))),none,none,none,none,none]) (by clear t1 t3 b1 b2 b3 g1 g2 g3 g4 g5 g6 hb hN rg f1 ok ha1 hlen hn2 hi hb'; walk_at "eo"),
  seq_next (ρ1:=[some (.own,.lst as3),some (.own,.fz (.int (2 + d1))),some (.own,.fz (.int (1 + d2))),some (.own,.fz (.int d3)),none,none,none,none]) (by clear t1 t2 b1 b2 b3 g1 g2 g3 g4 g5 g6 hb hN rg f1 ok ha1 hlen hn2 hi hb'; walk_at "eo"),
  seq_next (ρ1:=[some (.own,.lst as3),some (.own,.fz (.int (2 + d1))),some (.own,.fz (.int (1 + d2))),some (.own,.fz (.int d3)),some (.own,.lst (([]:List (Nat × List Int)).map fun p=>A.fz (ld p))),none,none,none]) (by clear t1 t2 t3 b1 b2 b3 g1 g2 g3 g4 g5 g6 hb hN rg f1 ok ha1 hlen hn2 hi hb'; walk_at "eo"),
  seq_next (ρ1:=[some (.own,.lst as3),some (.own,.fz (.int (2 + d1))),some (.own,.fz (.int (1 + d2))),some (.own,.fz (.int d3)),some (.own,.lst (([]:List (Nat × List Int)).map fun p=>A.fz (ld p))),some (.own,.fz (.int 0)),none,none]) (by clear t1 t2 t3 b1 b2 b3 g1 g2 g3 g4 g5 g6 hb hN rg f1 ok ha1 hlen hn2 hi hb'; walk_at "eo"),
  seq_next f1]
 refine ret_of ?_
 refine tup2_of (cons_of (plain_of rfl rfl) (cons_of (plain_of (r:=.ref 4) rfl ?_) rfl))
 have:=ers_map (ls'.map ld)
 rw [List.map_map] at this
 simp only [unlock,share,List.getElem?_cons_zero,List.getElem?_cons_succ,er]
 rw [show (ls'.map fun p=>A.fz (ld p)) = ls'.map (A.fz ∘ ld) from rfl,this]
 rfl
theorem app_list (z:Str) (c:Nat):(z ++ (⟨#[c]⟩:Str)).cps.toList = z.cps.toList ++ [c]:=by
 show (z.cps ++ #[c]).toList = _
 simp
theorem app_len (z:Str) (c:Nat):(z ++ (⟨#[c]⟩:Str)).length = z.length + 1:=by
 show (z.cps ++ #[c]).size = z.cps.size + 1
 simp
theorem len_one (c:Nat):Str.length ⟨#[c]⟩ = 1:=rfl
theorem s_row_step {N j:Nat} {as:List A} {h:Hs} (ok:h.Ok) {z:Str} {most size:Int} (hb:Bag N as) (hN:N≤100000) (hz:Row h z) (hl:z.length≤100):∃ as' c,Bag (N + 1) as'∧c∈h.ls.map (·.1)∧(asgS 4 (opM addA (m2L (varM 4) (opM ixA (m2L (opM ixA (m2L (opM ixA (m2L (varM 1) (litM (.int 1)))) (callM fn__law_take (consM (varM 0) (consM (opM lenA (consM (opM ixA (m2L (varM 1) (litM (.int 1)))) (nilM))) (nilM)))))) (litM (.int 0))))))) [some (.own,.lst as),some (.own,.fz h.d),some (.own,.fz (.int most)),some (.own,.fz (.int size)),some (.own,.fz (.str z)),some (.own,.fz (.int (0 + (j:Int))))] = some (.next [some (.own,.lst as'),some (.own,.fz h.d),some (.own,.fz (.int most)),some (.own,.fz (.int size)),some (.own,.fz (.str (z ++ (⟨#[c]⟩:Str)))),some (.own,.fz (.int (0 + (j:Int))))]):=by
 have l1:=ok.l1
 have l2:=ok.l2
 obtain ⟨d,as',g1,g2,b1,t1⟩:=s_take hb (by lia) (h.ls.length:Int) (by lia) (by lia)
 have e5:=at1 (D.int h.n) (.lst (h.ls.map ld)) []
 have hd:d.toNat < h.ls.length:=by lia
 have e7:=atI_get (xs:=h.ls.map ld) (i:=d) (k:=d.toNat) (by lia) (by simpa using hd)
 simp only [List.getElem_map] at e7
 have e8:ld (h.ls[d.toNat]) = .tup [.str ⟨#[(h.ls[d.toNat]).1]⟩,.lst (iL (h.ls[d.toNat]).2)]:=rfl
 rw [e8] at e7
 have e9:=at0 (D.str ⟨#[(h.ls[d.toNat]).1]⟩) [.lst (iL (h.ls[d.toNat]).2)]
 have hlim:1000≤LIM:=by decide
 have e10:(z.length + 1≤LIM) = True:=by simp only [eq_iff_iff,iff_true]; lia
 have e11:=len_one (h.ls[d.toNat]).1
 refine ⟨as',(h.ls[d.toNat]).1,b1,List.mem_map.mpr ⟨_,List.getElem_mem hd,rfl⟩,?_⟩
 simp only [Hs.d]
 clear hlim e8 b1 g1 g2 l1 l2 hb hN hz hl ok
 walk_at "eo"
theorem s_row {N:Nat} {as:List A} {h:Hs} (ok:h.Ok) (hb:Bag N as) (hN:N≤1000) (most:Int) (hm:0≤most) (hm2:most≤40):∃ z as' a2 a3,Row h z∧z.length≤40∧Bag (N + 50) as'∧fn__law_row [(.own,.lst as),(.own,.fz h.d),(.own,.fz (.int most))] = some (.fz (.str z),[.lst as',a2,a3]):=by
 obtain ⟨d1,as1,g1,g2,b1,t1⟩:=s_take hb (by lia) (most + 1) (by lia) (by lia)
 obtain ⟨d2,as2,g3,g4,b2,t2⟩:=s_take b1 (by lia) 8 (by lia) (by lia)
 have st1:asgS 3 (callM fn__law_take (consM (varM 0) (consM (opM addA (m2L (varM 2) (litM (.int 1)))) (nilM)))) [some (.own,.lst as),some (.own,.fz h.d),some (.own,.fz (.int most)),none,none,none] = some (.next [some (.own,.lst as1),some (.own,.fz h.d),some (.own,.fz (.int most)),some (.own,.fz (.int d1)),none,none]):=by
  clear t2 b2 b1 g1 g2 g3 g4 hN hb hm hm2 ok
  walk_at "eo"
 have st2:∃ as3 size,Bag (N + 3) as3∧0≤size∧size≤40∧ifS (tstM (opM eqA (m2L (callM fn__law_take (consM (varM 0) (consM (litM (.int 8)) (nilM)))) (litM (.int 1))))) (asgS 3 (callM fn__law_take (consM (varM 0) (consM (litM (.int 41)) (nilM))))) (skipS) [some (.own,.lst as1),some (.own,.fz h.d),some (.own,.fz (.int most)),some (.own,.fz (.int d1)),none,none] = some (.next [some (.own,.lst as3),some (.own,.fz h.d),some (.own,.fz (.int most)),some (.own,.fz (.int size)),none,none]):=by
  obtain ⟨d3,as3,g5,g6,b3,t3⟩:=s_take b2 (by lia) 41 (by lia) (by lia)
  by_cases h1:d2 = 1
  ·refine ⟨as3,d3,b3.mono (by lia),g5,by lia,?_⟩
   have e1:(d2 == 1) = true:=by simpa using h1
   clear b2 b1 g1 g2 g3 g4 hN hb hm hm2 ok b3 g5 g6 h1 st1 t1
   walk_at "eo"
  ·refine ⟨as2,d1,b2.mono (by lia),g1,by lia,?_⟩
   have e1:(d2 == 1) = false:=by simpa using h1
   clear b2 b1 g1 g2 g3 g4 hN hb hm hm2 ok b3 g5 g6 h1 st1 t1
   walk_at "eo"
 obtain ⟨as3,size,b3,z1,z2,st2⟩:=st2
 have rg:rngI1 (varM 3) [some (.own,.lst as3),some (.own,.fz h.d),some (.own,.fz (.int most)),some (.own,.fz (.int size)),some (.own,.fz (.str (Str.ofString ""))),none] = some (upto 0 size.toNat,none,[some (.own,.lst as3),some (.own,.fz h.d),some (.own,.fz (.int most)),some (.own,.fz (.int size)),some (.own,.fz (.str (Str.ofString ""))),none]):=by
  have e0:(-(2 ^ 62)≤size∧size < 2 ^ 62) = True:=by simp; lia
  clear t1 t2 b1 b2 b3 g1 g2 g3 g4 hb hN st1 st2 z1 z2 hm hm2 ok
  walk_at "eo"
 have em:(Str.ofString "").cps.toList = []:=by decide +kernel
 have em2:(Str.ofString "").length = 0:=by decide +kernel
 obtain ⟨ρ',f1,f2⟩:=forS_inv (is:=[5]) (one:=true) (b:=(asgS 4 (opM addA (m2L (varM 4) (opM ixA (m2L (opM ixA (m2L (opM ixA (m2L (varM 1) (litM (.int 1)))) (callM fn__law_take (consM (varM 0) (consM (opM lenA (consM (opM ixA (m2L (varM 1) (litM (.int 1)))) (nilM))) (nilM)))))) (litM (.int 0))))))))
  (fun j ρ=>∃ as' z x5,(x5 = none∨∃ d,x5 = some (Own.own,A.fz d))∧Bag (N + 3 + j) as'∧Row h z∧z.length = j ∧ ρ = [some (.own,.lst as'),some (.own,.fz h.d),some (.own,.fz (.int most)),some (.own,.fz (.int size)),some (.own,.fz (.str z)),x5]) rg ⟨as3,Str.ofString "",none,.inl rfl,b3,⟨by rw [em2]; lia,by rw [em]; simp⟩,em2,rfl⟩ (fun j d ρ hd hI=>by
   obtain ⟨as',z,x5,hx5,hb',hz,hzl,rfl⟩:=hI
   obtain ⟨rfl,hj⟩:=up_get hd
   obtain ⟨as'',c,s1,s2,s3⟩:=s_row_step (j:=j) (most:=most) (size:=size) ok hb' (by lia) hz (by lia)
   refine ⟨_,_,?_,.inl s3,as'',_,_,.inr ⟨_,rfl⟩,s1,⟨?_,?_⟩,?_,rfl⟩
   ·rcases hx5 with rfl | ⟨d,rfl⟩ <;> simp [bindS,free,J.own]
   ·rw [app_len]; lia
   ·rw [app_list]
    intro x hx
    rcases List.mem_append.mp hx with hx | hx
    ·exact hz.2 x hx
    ·simp only [List.mem_singleton] at hx; subst hx; exact s2
   ·rw [app_len,hzl])
 rw [up_len] at f2
 obtain ⟨as',z,x5,_,hb',hz,hzl,rfl⟩:=f2
 refine ⟨z,as',_,_,hz,by lia,hb'.mono (by lia),fn_ret (ρ:=[some (.own,.lst as'),some (.own,.fz h.d),some (.own,.fz (.int most)),some (.own,.fz (.int size)),some (.own,.fz (.str z)),x5]) rfl ?_⟩
 show den__law_row [some (.own,.lst as),some (.own,.fz h.d),some (.own,.fz (.int most)),none,none,none] = _
 unfold den__law_row
 rw [seq_next st1,seq_next st2,seq_next (ρ1:=[some (.own,.lst as3),some (.own,.fz h.d),some (.own,.fz (.int most)),some (.own,.fz (.int size)),some (.own,.fz (.str (Str.ofString ""))),none]) (by rfl),seq_next f1]
 exact ret_of rfl
theorem up_get0 {n j:Nat} {d:D} (h:(upto 0 n)[j]? = some d):d = .int j∧j < n:=by
 obtain ⟨h1,h2⟩:=up_get h
 rw [Int.zero_add] at h1
 exact ⟨h1,h2⟩
theorem pairs_ls:∀ (ls:List (Nat × List Int)),pairsD (ls.map ld) = some (ls.map fun p=>((Sum.inr (⟨#[p.1]⟩:Str):Key),D.lst (iL p.2)))
 | []=>rfl
 | p :: ls=>by
  have ih:=pairs_ls ls
  simp only [List.map_cons,ld,chD,pairsD,keyD,Option.bind_some]
  rw [ih]
  rfl
theorem val_ls {h:Hs} {c:Nat} (hc:c∈h.ls.map (·.1)):valD (h.ls.map fun p=>((Sum.inr (⟨#[p.1]⟩:Str):Key),D.lst (iL p.2))) (Sum.inr (⟨#[c]⟩:Str)) = some (.lst (iL (h.hands c))):=by
 unfold valD Hs.hands
 rw [List.find?_map]
 have e1:((fun (kv:Key × D)=>decide (kv.1 = Sum.inr (⟨#[c]⟩:Str))) ∘ fun (p:Nat × List Int)=>((Sum.inr (⟨#[p.1]⟩:Str):Key),D.lst (iL p.2))) = fun p=>p.1 == c:=by
  funext p
  rw [Bool.eq_iff_iff]
  simp
 rw [e1]
 cases hf:h.ls.find? (fun p=>p.1 == c) with
 | none =>
  obtain ⟨p,hp,rfl⟩:=List.mem_map.mp hc
  have:=List.find?_eq_none.mp hf p hp
  simp at this
 | some p=>rfl
theorem keys_nodup {h:Hs} (ok:h.Ok):((h.ls.map fun p=>((Sum.inr (⟨#[p.1]⟩:Str):Key),D.lst (iL p.2))).map (·.1)).Nodup:=by
 rw [List.map_map]
 have:=ok.ri
 rw [List.pairwise_map] at this
 unfold List.Nodup
 rw [List.pairwise_map]
 refine this.imp fun {a b} hab e=>?_
 simp at e
 lia
theorem rng1_of {m:ME} {ρ ρ1:Ro} {n:Int} (h:m ρ = some (.val (.fz (.int n)),ρ1)) (h0:0≤n) (h1:n≤1000000):rngI1 m ρ = some (upto 0 n.toNat,none,ρ1):=by
 have e0:(-(2 ^ 62)≤n∧n < 2 ^ 62) = True:=by simp; lia
 simp only [rngI1,h,Option.bind_some,e0,if_true]
theorem getD_cps (z:Str) (j:Nat):z.cps.getD j 0 = z.cps.toList.getD j 0:=by rw [Array.getD_eq_getD_getElem?]; simp [List.getD]
theorem num_get {z:Str} {j:Nat} {d:D} (h:(numsD z)[j]? = some d):d = .tup [.int j,.str ⟨#[z.cps.getD j 0]⟩]∧j < z.length:=by
 have hj:j < z.cps.size:=by have:=lt_of_get h; simpa [numsD] using this
 simp only [numsD,List.getElem?_map,List.getElem?_range hj,Option.map_some,Option.some.injEq] at h
 exact ⟨h.symm,hj⟩
theorem sh_iL:∀ (n:Nat) (xs:List Int),shBs n (iL xs) = true
 | n,[]=>rfl
 | n,x :: xs=>by
  have ih:=sh_iL n xs
  simp only [iL,List.map_cons,shBs,shB,Bool.true_and] at ih ⊢
  exact ih
theorem sh_ls:∀ (n:Nat) (ls:List (Nat × List Int)),shBs (n + 2) (ls.map ld) = true
 | n,[]=>rfl
 | n,p :: ls=>by
  have ih:=sh_ls n ls
  have e:=sh_iL n p.2
  simp only [List.map_cons,shBs,ld,shB,chD,e,Bool.true_and,Bool.and_true]
  exact ih
theorem sh_house (h:Hs):shB 16 h.d = true:=by
 have:=sh_ls 12 h.ls
 simp only [Hs.d,shB,shBs,this,Bool.true_and,Bool.and_true]
theorem s_cell (ns:List Int) (k:Nat):∃ c a2,fn__law_cell [(.ro,.scr ns),(.own,.fz (.int k))] = some (.fz (.int c),[.scr ns,a2]):=by
 by_cases h:k < ns.length
 ·obtain ⟨c,e2⟩:∃ c,atI (ns.map D.int) (k:Int) = some (.int c):=⟨ns[k],by
   have e2:=atI_get (xs:=ns.map D.int) (i:=(k:Int)) (k:=k) rfl (by simpa using h)
   simpa using e2⟩
  refine ⟨c,_,fn_ret (ρ:=[some (.ro,.scr ns),some (.own,.fz (.int k))]) rfl ?_⟩
  show den__law_cell [some (.ro,.scr ns),some (.own,.fz (.int k))] = _
  unfold den__law_cell
  have e1:decide ((k:Int) < (ns.length:Int)) = true:=by simpa using h
  clear h
  walk_at "eo"
 ·refine ⟨0,_,fn_ret (ρ:=[some (.ro,.scr ns),some (.own,.fz (.int k))]) rfl ?_⟩
  show den__law_cell [some (.ro,.scr ns),some (.own,.fz (.int k))] = _
  unfold den__law_cell
  have e1:decide ((k:Int) < (ns.length:Int)) = false:=by simpa using h
  clear h
  walk_at "eo"
theorem hands_ls {h:Hs} (ok:h.Ok) {p:Nat × List Int} (hp:p∈h.ls):h.hands p.1 = p.2:=by
 obtain ⟨j,hj,e1,_,e3⟩:=find_place ok (List.mem_map.mpr ⟨p,hp,rfl⟩)
 obtain ⟨k,hk,rfl⟩:=List.mem_iff_getElem.mp hp
 have:j = k:=by
  rcases Nat.lt_trichotomy j k with q | q | q
  ·have:=List.pairwise_iff_getElem.mp ok.ri j k (by simpa using hj) (by simpa using hk) q
   simp at this
   lia
  ·exact q
  ·have:=List.pairwise_iff_getElem.mp ok.ri k j (by simpa using hk) (by simpa using hj) q
   simp at this
   lia
 subst this
 exact e3
noncomputable def gP (x:Int):D→Bool
 | .lst ds=>inD (.int x) ds
 | _=>false
noncomputable def tx (cs:List Nat):Str:=⟨cs.toArray⟩
theorem tx_list (cs:List Nat):(tx cs).cps.toList = cs:=rfl
theorem tx_len (cs:List Nat):(tx cs).length = cs.length:=by simp [tx,Str.length]
theorem tx_of (z:Str):tx z.cps.toList = z:=rfl
theorem tx_row {h:Hs} {cs:List Nat} (hl:cs.length≤1000) (hc:∀ c∈cs,c∈h.ls.map (·.1)):Row h (tx cs):=⟨by rw [tx_len]; exact hl,hc⟩
theorem s_front_step {s1 s2:Own} {h:Hs} (ok:h.Ok) {c:Nat} (hc:c∈h.ls.map (·.1)) {zd:D} {ps bs:List Int} {j:Nat} (l1:ps.length≤100) (l2:bs.length≤500) {x6:Slot} (hx6:(x6 = none∨∃ d,x6 = some (Own.own,A.fz d))) :
  (seqS (asgS 6 (callM fn_hands_of (consM (varM 0) (consM (varM 5) (nilM))))) (seqS (ifS (notT (tstM (callM fn_is_hand_in_both (consM (varM 6) (consM (varM 3) (nilM)))))) (appS 2 (varM 4)) (skipS)) (extS 3 (varM 6)))) [some (s1,.fz h.d),some (s2,.fz zd),some (.own,hL (ps)),some (.own,hL (bs)),some (.own,.fz (.int (j:Int))),some (.own,.fz (.str ⟨#[c]⟩)),x6] = some (.next [some (s1,.fz h.d),some (s2,.fz zd),some (.own,hL (ps ++ if hit h.hands bs c then [] else [(j:Int)])),some (.own,hL (bs ++ h.hands c)),some (.own,.fz (.int (j:Int))),some (.own,.fz (.str ⟨#[c]⟩)),some (.own,.fz (.lst (iL (h.hands c))))]):=by
 have hlim:1000≤LIM:=by decide
 have fl:(h.hands c).length≤4:=h.hands_len ok _
 have e1:=s_hands_of .own .own h ok c hc
 simp only [chD] at e1
 have e2:=s_hand_in_both .own .lent (h.hands c) bs (by lia)
 have e3:((h.hands c).any fun x=>decide (x∈bs)) = hit h.hands bs c:=rfl
 rw [e3] at e2
 have st1:asgS 6 (callM fn_hands_of (consM (varM 0) (consM (varM 5) (nilM)))) [some (s1,.fz h.d),some (s2,.fz zd),some (.own,hL (ps)),some (.own,hL (bs)),some (.own,.fz (.int (j:Int))),some (.own,.fz (.str ⟨#[c]⟩)),x6] = some (.next [some (s1,.fz h.d),some (s2,.fz zd),some (.own,hL (ps)),some (.own,hL (bs)),some (.own,.fz (.int (j:Int))),some (.own,.fz (.str ⟨#[c]⟩)),some (.own,.fz (.lst (iL (h.hands c))))]):=by
  clear e2 fl hc hlim ok l1 l2 e3
  rcases hx6 with rfl | ⟨d,rfl⟩ <;> walk_at "eo"
 have t1:tstM (callM fn_is_hand_in_both (consM (varM 6) (consM (varM 3) (nilM)))) [some (s1,.fz h.d),some (s2,.fz zd),some (.own,hL (ps)),some (.own,hL (bs)),some (.own,.fz (.int (j:Int))),some (.own,.fz (.str ⟨#[c]⟩)),some (.own,.fz (.lst (iL (h.hands c))))] = some (hit h.hands bs c,[some (s1,.fz h.d),some (s2,.fz zd),some (.own,hL (ps)),some (.own,hL (bs)),some (.own,.fz (.int (j:Int))),some (.own,.fz (.str ⟨#[c]⟩)),some (.own,.fz (.lst (iL (h.hands c))))]):=by
  refine tst_of ?_
  generalize hit h.hands bs c = b at e2 ⊢
  simp only [hL] at e2 ⊢
  clear e1 fl hc hlim ok l1 l2 e3 st1 hx6
  walk_at "eo"
 have st3:∀ qs:List Int,extS 3 (varM 6) [some (s1,.fz h.d),some (s2,.fz zd),some (.own,hL (qs)),some (.own,hL (bs)),some (.own,.fz (.int (j:Int))),some (.own,.fz (.str ⟨#[c]⟩)),some (.own,.fz (.lst (iL (h.hands c))))] = some (.next [some (s1,.fz h.d),some (s2,.fz zd),some (.own,hL (qs)),some (.own,hL (bs ++ h.hands c)),some (.own,.fz (.int (j:Int))),some (.own,.fz (.str ⟨#[c]⟩)),some (.own,.fz (.lst (iL (h.hands c))))]):=fun qs=>by
  have a2:(bs.length + (h.hands c).length≤LIM) = True:=by simp only [eq_iff_iff,iff_true]; lia
  have a4:(iL bs).map A.fz ++ (iL (h.hands c)).map A.fz = (iL (bs ++ h.hands c)).map A.fz:=by simp [iL]
  clear e1 e2 fl hc hlim ok l1 l2 e3 st1 hx6 t1
  simp only [hL]
  walk_at "eo"
 rw [seq_next st1]
 cases hh:hit h.hands bs c with
 | true =>
  rw [hh] at t1
  have st2:=(if_f (a:=appS 2 (varM 4)) (b:=skipS) (not_of t1))
  rw [seq_next (st2.trans rfl),st3,if_pos rfl,List.append_nil]
 | false =>
  rw [hh] at t1
  have st2:=(if_t (a:=appS 2 (varM 4)) (b:=skipS) (not_of t1))
  have st4:appS 2 (varM 4) [some (s1,.fz h.d),some (s2,.fz zd),some (.own,hL (ps)),some (.own,hL (bs)),some (.own,.fz (.int (j:Int))),some (.own,.fz (.str ⟨#[c]⟩)),some (.own,.fz (.lst (iL (h.hands c))))] = some (.next [some (s1,.fz h.d),some (s2,.fz zd),some (.own,hL (ps ++ [(j:Int)])),some (.own,hL (bs)),some (.own,.fz (.int (j:Int))),some (.own,.fz (.str ⟨#[c]⟩)),some (.own,.fz (.lst (iL (h.hands c))))]):=by
   have a2:(ps.length < LIM) = True:=by simp only [eq_iff_iff,iff_true]; lia
   have a4:(iL ps).map A.fz ++ [A.fz (.int (j:Int))] = (iL (ps ++ [(j:Int)])).map A.fz:=by simp [iL]
   clear e1 e2 fl hc hlim ok l1 l2 e3 st1 hx6 t1 st2 st3 hh
   simp only [hL]
   walk_at "eo"
  rw [seq_next (st2.trans st4),st3]
  rfl
theorem pl_snoc {f:Nat→List Int} (c:Nat):∀ (u:List Nat) (bs:List Int) (k:Nat),pl f bs k (u ++ [c]) = pl f bs k u ++ if hit f (bs ++ u.flatMap f) c then [] else [k + u.length]:=by
 intro u
 induction u with
 | nil=>intro bs k; simp [pl]
 | cons d u ih =>
  intro bs k
  have:=ih (bs ++ f d) (k + 1)
  simp only [List.cons_append,pl,this,List.flatMap_cons,List.append_assoc,List.length_cons,show k + 1 + u.length = k + (u.length + 1) by lia]
  split <;> rfl
theorem pl_len {f:Nat→List Int}:∀ (u:List Nat) (bs:List Int) (k:Nat),(pl f bs k u).length≤u.length:=by
 intro u
 induction u with
 | nil=>intro bs k; simp [pl]
 | cons d u ih =>
  intro bs k
  have:=ih (bs ++ f d) (k + 1)
  simp only [pl]
  split <;> simp <;> lia
theorem flat_len {h:Hs} (ok:h.Ok):∀ u:List Nat,(u.flatMap h.hands).length≤4 * u.length:=by
 intro u
 induction u with
 | nil=>simp
 | cons d u ih =>
  have:=h.hands_len ok d
  simp only [List.flatMap_cons,List.length_append,List.length_cons]
  lia
noncomputable def plI (h:Hs) (cs:List Nat):List Int:=(pl h.hands [] 0 cs).map fun (i:Nat)=>(i:Int)
theorem plI_snoc (h:Hs) (u:List Nat) (c:Nat):plI h (u ++ [c]) = plI h u ++ if hit h.hands (u.flatMap h.hands) c then [] else [(u.length:Int)]:=by
 simp only [plI,pl_snoc,List.map_append,List.nil_append,Nat.zero_add]
 split <;> rfl
theorem plI_len (h:Hs) (u:List Nat):(plI h u).length≤u.length:=by
 simp only [plI,List.length_map]; exact pl_len u [] 0
theorem s_front (s1 s2:Own) (h:Hs) (ok:h.Ok) (cs:List Nat) (hz:∀ c∈cs,c∈h.ls.map (·.1)) (hl:cs.length≤40):∃ a1 a2,fn_front_places [(s1,.fz h.d),(s2,.fz (.str (tx cs)))] = some (hL (plI h cs),[a1,a2]):=by
 have hit:enumI (varM 1) [some (s1,.fz h.d),some (s2,.fz (.str (tx cs))),some (.own,hL (plI h (cs.take 0))),some (.own,hL ((cs.take 0).flatMap h.hands)),none,none,none] = some (numsD (tx cs),none,[some (s1,.fz h.d),some (s2,.fz (.str (tx cs))),some (.own,hL (plI h (cs.take 0))),some (.own,hL ((cs.take 0).flatMap h.hands)),none,none,none]):=by
  have hlim:1000≤LIM:=by decide
  have e3:((tx cs).length≤LIM) = True:=by rw [tx_len]; simp; lia
  simp only [enumI,varM,List.getElem?_cons_zero,List.getElem?_cons_succ,Option.bind_some,e3,if_true]
 obtain ⟨ρ',f1,f2⟩:=forS_inv (is:=[4,5]) (one:=false) (b:=(seqS (asgS 6 (callM fn_hands_of (consM (varM 0) (consM (varM 5) (nilM))))) (seqS (ifS (notT (tstM (callM fn_is_hand_in_both (consM (varM 6) (consM (varM 3) (nilM)))))) (appS 2 (varM 4)) (skipS)) (extS 3 (varM 6)))))
  (fun j ρ=>∃ x4 x5 x6,(x4 = none∨∃ d,x4 = some (Own.own,A.fz d))∧(x5 = none∨∃ d,x5 = some (Own.own,A.fz d))∧(x6 = none∨∃ d,x6 = some (Own.own,A.fz d)) ∧ ρ = [some (s1,.fz h.d),some (s2,.fz (.str (tx cs))),some (.own,hL (plI h (cs.take j))),some (.own,hL ((cs.take j).flatMap h.hands)),x4,x5,x6]) hit ⟨none,none,none,.inl rfl,.inl rfl,.inl rfl,rfl⟩ (fun j d ρ hd hI=>by
   obtain ⟨x4,x5,x6,h4,h5,h6,rfl⟩:=hI
   obtain ⟨rfl,hj⟩:=num_get hd
   rw [tx_len] at hj
   have hc:cs.getD j 0∈h.ls.map (·.1):=hz _ (by rw [List.getD_eq_getElem?_getD,List.getElem?_eq_getElem hj]; exact List.getElem_mem hj)
   have ec:(tx cs).cps.getD j 0 = cs.getD j 0:=by rw [getD_cps]; rfl
   have et:cs.take (j + 1) = cs.take j ++ [cs.getD j 0]:=by
    rw [List.take_add_one,List.getD_eq_getElem?_getD,List.getElem?_eq_getElem hj]; rfl
   have tl:(cs.take j).length = j:=by rw [List.length_take]; lia
   have p1:=plI_len h (cs.take j)
   have p2:=flat_len ok (cs.take j)
   have st:=s_front_step (s1:=s1) (s2:=s2) ok hc (zd:=.str (tx cs)) (ps:=plI h (cs.take j)) (bs:=(cs.take j).flatMap h.hands) (j:=j) (by lia) (by lia) h6
   rw [ec]
   refine ⟨[some (s1,.fz h.d),some (s2,.fz (.str (tx cs))),some (.own,hL (plI h (cs.take j))),some (.own,hL ((cs.take j).flatMap h.hands)),some (.own,.fz (.int (j:Int))),some (.own,.fz (.str ⟨#[cs.getD j 0]⟩)),x6],_,?_,.inl st,some (.own,.fz (.int (j:Int))),some (.own,.fz (.str ⟨#[cs.getD j 0]⟩)),some (.own,.fz (.lst (iL (h.hands (cs.getD j 0))))),.inr ⟨_,rfl⟩,.inr ⟨_,rfl⟩,.inr ⟨_,rfl⟩,?_⟩
   ·rcases h4 with rfl | ⟨d4,rfl⟩ <;> rcases h5 with rfl | ⟨d5,rfl⟩ <;> rfl
   ·rw [et,plI_snoc,List.flatMap_append,tl]
    simp only [List.flatMap_cons,List.flatMap_nil,List.append_nil])
 obtain ⟨x4,x5,x6,_,_,_,rfl⟩:=f2
 have nl:(numsD (tx cs)).length = cs.length:=by simp [numsD,tx]
 rw [nl,List.take_length] at f1
 refine ⟨_,_,fn_ret (ρ:=[some (s1,.fz h.d),some (s2,.fz (.str (tx cs))),none,some (.own,hL (cs.flatMap h.hands)),x4,x5,x6]) rfl ?_⟩
 show den_front_places [some (s1,.fz h.d),some (s2,.fz (.str (tx cs))),none,none,none,none,none] = _
 unfold den_front_places
 have st1:asgS 2 (lstM (nilM)) [some (s1,.fz h.d),some (s2,.fz (.str (tx cs))),none,none,none,none,none] = some (.next [some (s1,.fz h.d),some (s2,.fz (.str (tx cs))),some (.own,hL []),none,none,none,none]):=by
  have l0:((0:Nat)≤LIM) = True:=by simp
  clear f1 hit hz hl ok
  simp only [hL,iL]
  walk_at "eo"
 have st2:asgS 3 (lstM (nilM)) [some (s1,.fz h.d),some (s2,.fz (.str (tx cs))),some (.own,hL []),none,none,none,none] = some (.next [some (s1,.fz h.d),some (s2,.fz (.str (tx cs))),some (.own,hL []),some (.own,hL []),none,none,none]):=by
  have l0:((0:Nat)≤LIM) = True:=by simp
  clear f1 hit hz hl ok st1
  simp only [hL,iL]
  walk_at "eo"
 rw [seq_next st1,seq_next st2]
 refine (seq_next f1).trans ?_
 rfl
noncomputable def frB (h:Hs) (a b:Nat):Bool:=!(h.hands a).any fun x=>decide (x∈h.hands b)
theorem frB_iff {h:Hs} {a b:Nat}:frB h a b = true↔¬ Cm h.hands a b:=by
 simp [frB,Cm]
theorem hands_ne {h:Hs} (ok:h.Ok) {c:Nat} (hc:c∈h.ls.map (·.1)):h.hands c≠[]:=by
 obtain ⟨p,hp,rfl⟩:=List.mem_map.mp hc
 rw [hands_ls ok hp]
 exact (ok.hs p hp).1
theorem frB_self {h:Hs} (ok:h.Ok) {c:Nat} (hc:c∈h.ls.map (·.1)):frB h c c = false:=by
 obtain ⟨x,r,e⟩:=List.exists_cons_of_ne_nil (hands_ne ok hc)
 simp [frB,e]
theorem eq_ch (a b:Nat):eqD (.str ⟨#[a]⟩) (.str ⟨#[b]⟩) = decide (a = b):=by
 by_cases h:a = b
 ·subst h; simp [eqD_refl]
 ·simp [h,eqD]
theorem eq_nil (ds:List D):eqD (.lst ds) (.lst []) = ds.isEmpty:=by cases ds <;> simp [eqD,eqDs]
theorem fr_nil {h:Hs} {a b:Nat}:((iL ((h.hands a).filter fun x=>decide (x∈h.hands b))).isEmpty) = frB h a b:=by
 rw [Bool.eq_iff_iff,frB_iff]
 simp only [iL,List.isEmpty_iff,List.map_eq_nil_iff,List.filter_eq_nil_iff,decide_eq_true_eq,Cm,not_exists,not_and]
theorem s_are_free (s1 s2 s3:Own) (h:Hs) (ok:h.Ok) (a b:Nat) (ha:a∈h.ls.map (·.1)) (hb:b∈h.ls.map (·.1)):∃ a1 a2 a3,fn__law_are_free [(s1,.fz h.d),(s2,.fz (.str ⟨#[a]⟩)),(s3,.fz (.str ⟨#[b]⟩))] = some (.fz (.bl (frB h a b)),[a1,a2,a3]):=by
 have e1:=pairs_ls h.ls
 have e2:=val_ls ha
 have e3:=val_ls hb
 have e4:((h.ls.map fun p=>((Sum.inr (⟨#[p.1]⟩:Str):Key),D.lst (iL p.2))).map (·.1)).Nodup = True:=eq_true (keys_nodup ok)
 have e5:=at1 (D.int h.n) (.lst (h.ls.map ld)) []
 have hl:=h.hands_len ok a
 have hlim:1000≤LIM:=by decide
 generalize (h.ls.map fun p=>((Sum.inr (⟨#[p.1]⟩:Str):Key),D.lst (iL p.2))) = kvs at e1 e2 e3 e4
 have t1:tstM (opM eqA (m2L (varM 1) (varM 2))) [some (s1,.fz h.d),some (s2,.fz (.str ⟨#[a]⟩)),some (s3,.fz (.str ⟨#[b]⟩)),some (.own,.dic kvs)] = some (decide (a = b),[some (s1,.fz h.d),some (s2,.fz (.str ⟨#[a]⟩)),some (s3,.fz (.str ⟨#[b]⟩)),some (.own,.dic kvs)]):=by
  have g:=eq_ch a b
  refine tst_of ?_
  simp only [opM,m2L,consM,nilM,varM,List.getElem?_cons_zero,List.getElem?_cons_succ,Option.bind_some,Option.map_some,peeks,peek,eqA,er,shB,g,if_true]
 have st1:asgS 3 (opM dictA (consM (opM ixA (m2L (varM 0) (litM (.int 1)))) (nilM))) [some (s1,.fz h.d),some (s2,.fz (.str ⟨#[a]⟩)),some (s3,.fz (.str ⟨#[b]⟩)),none] = some (.next [some (s1,.fz h.d),some (s2,.fz (.str ⟨#[a]⟩)),some (s3,.fz (.str ⟨#[b]⟩)),some (.own,.dic kvs)]):=by
  clear e2 e3 hl hlim ha hb ok t1
  simp only [Hs.d]
  walk_at "eo"
 by_cases hab:a = b
 ·refine ⟨_,_,_,fn_ret (ρ:=[some (s1,.fz h.d),some (s2,.fz (.str ⟨#[a]⟩)),some (s3,.fz (.str ⟨#[b]⟩)),some (.own,.dic kvs)]) rfl ?_⟩
  show den__law_are_free [some (s1,.fz h.d),some (s2,.fz (.str ⟨#[a]⟩)),some (s3,.fz (.str ⟨#[b]⟩)),none] = _
  unfold den__law_are_free
  rw [seq_next st1]
  rw [show decide (a = b) = true from decide_eq_true hab] at t1
  have hf:frB h a b = false:=by rw [← hab]; exact frB_self ok ha
  rw [hf]
  exact seq_ret ((if_t t1).trans rfl)
 ·have hit:seqI (opM dixA (m2L (varM 3) (varM 1))) [some (s1,.fz h.d),some (s2,.fz (.str ⟨#[a]⟩)),some (s3,.fz (.str ⟨#[b]⟩)),some (.own,.dic kvs)] = some (iL (h.hands a),none,[some (s1,.fz h.d),some (s2,.fz (.str ⟨#[a]⟩)),some (s3,.fz (.str ⟨#[b]⟩)),some (.own,.dic kvs)]):=by
   clear e1 e4 e5 hl hlim ha hb ok t1 st1 hab
   walk_at "eo"
  have hc:=compM_of (g:=fun d=>decide (nD d∈h.hands b)) (f:=fun d=>d) (c:=(tstM (opM (inA false) (m2L (varM 0) (opM dixA (m2L (varM 4) (varM 3))))))) (e:=varM 0) hit (by simp; lia) (fun d hd=>by
   obtain ⟨i,_,rfl⟩:=mem_iL.mp hd
   have i1:=iL_flat (h.hands b)
   have i2:=inD_iL i (h.hands b)
   have i3:nD (.int i) = i:=rfl
   rw [i3]
   generalize decide (i∈h.hands b) = k at i2 ⊢
   generalize iL (h.hands b) = ds at i1 i2 e3
   clear e1 e4 e5 hl hlim ha hb ok hd e2 t1 st1 hit hab
   walk_at "eo"
   try (cases k <;> rfl)) (fun d hd _=>⟨.val (.fz d),rfl,rfl⟩)
  have em:((iL (h.hands a)).filter fun d=>decide (nD d∈h.hands b)).map (fun d=>d) = iL ((h.hands a).filter fun x=>decide (x∈h.hands b)):=by
   rw [List.map_id',iL,iL,List.filter_map]
   rfl
  rw [em] at hc
  refine ⟨_,_,_,fn_ret (ρ:=[some (s1,.fz h.d),some (s2,.fz (.str ⟨#[a]⟩)),some (s3,.fz (.str ⟨#[b]⟩)),some (.own,.dic kvs)]) rfl ?_⟩
  show den__law_are_free [some (s1,.fz h.d),some (s2,.fz (.str ⟨#[a]⟩)),some (s3,.fz (.str ⟨#[b]⟩)),none] = _
  unfold den__law_are_free
  rw [seq_next st1]
  rw [show decide (a = b) = false from decide_eq_false hab] at t1
  rw [seq_next ((if_f t1).trans rfl)]
  refine ret_of ?_
  have g1:shBs 15 (iL ((h.hands a).filter fun x=>decide (x∈h.hands b))) = true:=sh_iL 15 _
  have g2:=eq_nil (iL ((h.hands a).filter fun x=>decide (x∈h.hands b)))
  rw [fr_nil] at g2
  have l0:((0:Nat)≤LIM) = True:=by simp
  generalize (compM (seqI (opM dixA (m2L (varM 3) (varM 1)))) 0 (tstM (opM (inA false) (m2L (varM 0) (opM dixA (m2L (varM 4) (varM 3)))))) (varM 0)) = Zc at hc ⊢
  simp only [opM,m2L,consM,nilM,hc,lstM,vals,List.length_nil,l0,if_true,Option.bind_some,Option.map_some,peeks,peek,eqA,er,ers,ers_map,shB,g1,g2]
theorem s_house_copy (s1:Own) (h:Hs) (ok:h.Ok):∃ a1,fn__law_house_copy [(s1,.fz h.d)] = some (.fz h.d,[a1]):=by
 have e0:=at0 (D.int h.n) [.lst (h.ls.map ld)]
 have e5:=at1 (D.int h.n) (.lst (h.ls.map ld)) []
 have l2:=ok.l2
 have hlim:1000≤LIM:=by decide
 have ep:h.ls.map ld = (h.ls.map fun p=>(chD p.1,D.lst (iL p.2))).map fun d=>.tup [d.1,d.2]:=by simp [ld]
 have hit:seqI (opM ixA (m2L (varM 0) (litM (.int 1)))) [some (s1,.fz h.d)] = some ((h.ls.map fun p=>(chD p.1,D.lst (iL p.2))).map (fun d=>.tup [d.1,d.2]),none,[some (s1,.fz h.d)]):=by
  rw [← ep]
  clear ep l2 hlim ok e0
  simp only [Hs.d]
  walk_at "eo"
 have hc:=compM_map2 (e:=tupV (consM (plainM (varM 0)) (consM (plainM (opM listA (consM (varM 1) (nilM)))) (nilM)))) (f:=fun a b=>.tup [a,b]) hit (by simp; lia) (fun d hd=>by
  obtain ⟨p,hp,rfl⟩:=List.mem_map.mp hd
  have pl:=ok.hl p hp
  dsimp only
  have l4:((iL p.2).length≤LIM) = True:=by simp only [iL_length,eq_iff_iff,iff_true]; lia
  have e1:plainM (opM listA (consM (varM 1) (nilM))) (J.own (chD p.1) :: J.own (.lst (iL p.2)) :: lock [some (s1,.fz h.d)] none) = some (.val (.fz (.lst (iL p.2))),J.own (chD p.1) :: J.own (.lst (iL p.2)) :: lock [some (s1,.fz h.d)] none):=by
   clear hit hd hp l2 hlim ep e5 ok e0 pl
   generalize iL p.2 = ds at l4 ⊢
   walk_at "eo"
  refine ⟨.val (.fz (.tup [chD p.1,.lst (iL p.2)])),tup2_of (cons_of (plain_of rfl rfl) (cons_of e1 rfl)),rfl⟩)
 have em:(((h.ls.map fun p=>(chD p.1,D.lst (iL p.2))).map fun d=>D.tup [d.1,d.2])) = h.ls.map ld:=ep.symm
 rw [em] at hc
 refine ⟨_,fn_ret (ρ:=[some (s1,.fz h.d)]) rfl ?_⟩
 show den__law_house_copy [some (s1,.fz h.d)] = _
 unfold den__law_house_copy
 refine ret_of ?_
 have e6:plainM (opM ixA (m2L (varM 0) (litM (.int 0)))) [some (s1,.fz h.d)] = some (.val (.fz (.int h.n)),[some (s1,.fz h.d)]):=by
  clear hit hc l2 hlim ep e5 ok
  simp only [Hs.d]
  walk_at "eo"
 exact tup2_of (cons_of e6 (cons_of (plain_of hc (share_lst _ _)) rfl))
theorem tx_app (x y:List Nat):tx x ++ tx y = tx (x ++ y):=by
 show (⟨x.toArray ++ y.toArray⟩:Str) = _
 simp [tx]
theorem add_tx {m1 m2:ME} {ρ ρ1 ρ2:Ro} {x y:List Nat} (h1:m1 ρ = some (.val (.fz (.str (tx x))),ρ1)) (h2:m2 ρ1 = some (.val (.fz (.str (tx y))),ρ2)) (hl:x.length + y.length≤1000):opM addA (m2L m1 m2) ρ = some (.val (.fz (.str (tx (x ++ y)))),ρ2):=by
 have hlim:1000≤LIM:=by decide
 have l1:((tx x).length + (tx y).length≤LIM) = True:=by rw [tx_len,tx_len]; simp only [eq_iff_iff,iff_true]; lia
 have e:=tx_app x y
 clear hl hlim
 simp only [opM,m2L,consM,nilM,h1,h2,Option.bind_some,Option.map_some,peeks,peek]
 walk_at "eo"
theorem sl_hi {cs:List Nat} {k:Nat} (hk:k≤cs.length):Txt.slice (tx cs) none (some (k:Int)) = tx (cs.take k):=by
 have:=eq_of_beq (PyProof.Rows.slice_closes_toL (x:=tx cs) (j:=(k:Int)) (by lia) (by rw [tx_len]; lia))
 rw [this]
 simp [tx]
theorem sl_lh {cs:List Nat} {k:Nat} (hk:k + 2≤cs.length):Txt.slice (tx cs) (some (k:Int)) (some ((k:Int) + 2)) = tx ((cs.drop k).take 2):=by
 have:=eq_of_beq (PyProof.Rows.slice_closesL (x:=tx cs) (i:=(k:Int)) (j:=(k:Int) + 2) (by lia) (by lia) (by rw [tx_len]; lia))
 rw [this]
 have e:((k:Int) + 2 - (k:Int)).toNat = 2:=by lia
 rw [e]
 simp [tx]
theorem sl_lo {cs:List Nat} {k:Nat} (hk:k + 2≤cs.length):Txt.slice (tx cs) (some ((k:Int) + 2)) none = tx (cs.drop (k + 2)):=by
 have:=eq_of_beq (PyProof.Rows.slice_closes_fromL (x:=tx cs) (i:=(k:Int) + 2) (b:=(cs.length:Int)) (by lia) (by rw [tx_len]; lia) (by rw [tx_len]))
 rw [this]
 have e:((cs.length:Int) - ((k:Int) + 2)).toNat = cs.length - (k + 2):=by lia
 have e2:((k:Int) + 2).toNat = k + 2:=by lia
 rw [e,e2,tx_list,List.take_of_length_le (by rw [List.length_drop]; exact Nat.le_refl _)]
 rfl
theorem rev_tx (x:List Nat):revS (tx x) = tx x.reverse:=rfl
theorem cmin_mem (z:Str):∀ (ns:List Int) (b:Int),cmin z b ns∈b :: ns∧∀ n∈b :: ns,cAt z (cmin z b ns)≤cAt z n:=by
 intro ns
 induction ns with
 | nil=>intro b; simp [cmin]
 | cons m ns ih =>
  intro b
  simp only [cmin]
  split
  ·rename_i hlt
   obtain ⟨h1,h2⟩:=ih m
   refine ⟨List.mem_cons_of_mem _ h1,fun n hn=>?_⟩
   rcases List.mem_cons.mp hn with rfl | hn
   ·have:=h2 m List.mem_cons_self; lia
   ·exact h2 n hn
  ·rename_i hlt
   obtain ⟨h1,h2⟩:=ih b
   refine ⟨?_,fun n hn=>?_⟩
   ·rcases List.mem_cons.mp h1 with e | h1
    ·rw [e]; exact List.mem_cons_self
    ·exact List.mem_cons_of_mem _ (List.mem_cons_of_mem _ h1)
   ·rcases List.mem_cons.mp hn with rfl | hn
    ·exact h2 _ List.mem_cons_self
    ·rcases List.mem_cons.mp hn with rfl | hn
     ·have:=h2 b List.mem_cons_self; lia
     ·exact h2 n (List.mem_cons_of_mem _ hn)
theorem pl_lt {f:Nat→List Int} {cs:List Nat} {k:Nat} (hk:k∈pl f [] 0 cs):k < cs.length:=by
 have:=(pl_cut (f:=f) cs [] 0).1
 have hk2:k∈(List.range' 0 cs.length).filter fun i=>decide (i∈pl f [] 0 cs):=by rw [this]; exact hk
 have:=(List.mem_filter.mp hk2).1
 rw [List.mem_range'] at this
 obtain ⟨j,hj,e⟩:=this
 lia
theorem cAt_tx {cs:List Nat} {k:Nat} (hk:k < cs.length):cAt (tx cs) (k:Int) = cs.getD k 0:=by
 have:=sign_at (z:=tx cs) (i:=k) (j:=(k:Int)) rfl (by rw [tx_list]; exact hk)
 rw [tx_list] at this
 rw [cAt,tx_list,this]
 rfl
theorem s_place (s1 s2:Own) (h:Hs) (ok:h.Ok) (cs:List Nat) (hz:∀ c∈cs,c∈h.ls.map (·.1)) (hl:cs.length≤40) (h0:cs≠[]):∃ (k:Nat) (a1 a2:A),k = fpl h.hands cs∧k < cs.length∧cs.getD k 0 = lst (fs h.hands [] cs)∧cs.take k ++ cs.drop (k + 1) = cs.erase (lst (fs h.hands [] cs))∧fn_place_of_first [(s1,.fz h.d),(s2,.fz (.str (tx cs)))] = some (.fz (.int (k:Int)),[a1,a2]):=by
 obtain ⟨a1,a2,e1⟩:=s_front .own .own h ok cs hz hl
 have hw:∀ d∈cs,h.hands d≠[]:=fun d hd=>hands_ne ok (hz d hd)
 have pne:plI h cs≠[]:=by
  obtain ⟨c,w,rfl⟩:=List.exists_cons_of_ne_nil h0
  have:St.hit h.hands [] c = false:=by simp [St.hit]
  simp [plI,pl,this]
 obtain ⟨b,ns,eps⟩:=List.exists_cons_of_ne_nil pne
 obtain ⟨m1,m2⟩:=cmin_mem (tx cs) ns b
 rw [← eps] at m1 m2
 have mem:∀ i:Int,i∈plI h cs→∃ k:Nat,i = k∧k∈pl h.hands [] 0 cs:=fun i hi=>by
  obtain ⟨k,hk,e⟩:=List.mem_map.mp hi
  exact ⟨k,e.symm,hk⟩
 obtain ⟨k,ek,hk⟩:=mem _ m1
 have hkl:=pl_lt hk
 have efs:=(pl_cut (f:=h.hands) cs [] 0).2.1
 simp only [Nat.sub_zero] at efs
 have hlst:lst (fs h.hands [] cs) = cs.getD k 0:=by
  refine lst_eq (by rw [← efs]; exact List.mem_map.mpr ⟨k,hk,rfl⟩) fun y hy=>?_
  rw [← efs] at hy
  obtain ⟨i,hi,rfl⟩:=List.mem_map.mp hy
  have:=m2 (i:Int) (List.mem_map.mpr ⟨i,hi,rfl⟩)
  rw [ek,cAt_tx hkl,cAt_tx (pl_lt hi)] at this
  exact this
 have hpk:k = fpl h.hands cs:=by
  obtain ⟨u,v,c,e,h1,_,h3,_⟩:=pl_first (f:=h.hands) cs [] 0 k hk
  have hu:u.length = k:=by lia
  have ec:cs.getD k 0 = c:=by rw [e,← hu]; simp [List.getD_eq_getElem?_getD]
  have hc:c ∉ u:=fun z=>by
   obtain ⟨x,r,hx⟩:=List.exists_cons_of_ne_nil (hw c (by rw [e]; simp))
   exact h3 c z ⟨x,by rw [hx]; simp,by rw [hx]; simp⟩
  unfold fpl
  rw [hlst,ec,e,idx_mid hc]
  exact hu.symm
 refine ⟨k,_,_,hpk,hkl,hlst.symm,by rw [hlst]; exact (pl_erase hw hk).2,fn_ret (ρ:=[some (s1,.fz h.d),some (s2,.fz (.str (tx cs)))]) rfl ?_⟩
 show den_place_of_first [some (s1,.fz h.d),some (s2,.fz (.str (tx cs)))] = _
 unfold den_place_of_first
 refine ret_of ?_
 have hc:callM fn_front_places (consM (varM 0) (consM (varM 1) (nilM))) [some (s1,.fz h.d),some (s2,.fz (.str (tx cs)))] = some (.val (hL (plI h cs)),[some (s1,.fz h.d),some (s2,.fz (.str (tx cs)))]):=by
  clear hz hl ok hw pne eps m1 m2 mem ek hk hkl efs hlst
  generalize fn_front_places = Φ at e1 ⊢
  generalize hL (plI h cs) = A0 at e1 ⊢
  walk_at "eo"
 have hall:((plI h cs).all fun n=>decide (0≤n) && decide (n < ((tx cs).length:Int))) = true:=by
  rw [List.all_eq_true]
  intro n hn
  obtain ⟨i,rfl,hi⟩:=mem n hn
  have:=pl_lt hi
  rw [tx_len]
  simp
  exact this
 have hem:(plI h cs).isEmpty = false:=by rw [eps]; rfl
 have hcm:cmin (tx cs) ((plI h cs).headD 0) (plI h cs).tail = k:=by rw [eps]; exact ek
 generalize callM fn_front_places (consM (varM 0) (consM (varM 1) (nilM))) = Zc at hc ⊢
 simp only [opM,m2L,consM,nilM,hc,varM,List.getElem?_cons_zero,List.getElem?_cons_succ,Option.bind_some,Option.map_some,peeks,peek,minKA,strU,fzU,strV,hL_lst,intsD_iL,hall,hem,Bool.not_false,Bool.and_self,if_true,hcm]
theorem s_law_whole (st:Own) (d:D):fn__law_whole [(st,.fz d)] = some (.fz (.bl (isInt d && !isBool d)),[.fz d]):=by
 refine fn_ret (ρ:=[some (st,.fz d)]) rfl ?_
 show den__law_whole [some (st,.fz d)] = _
 unfold den__law_whole
 refine ret_of ?_
 cases d <;> walk_at "eo"
theorem sl_from {cs:List Nat} {k:Nat} {i:Int} (hi:i = k) (hk:k≤cs.length):Txt.slice (tx cs) (some i) none = tx (cs.drop k):=by
 subst hi
 have:=eq_of_beq (PyProof.Rows.slice_closes_fromL (x:=tx cs) (i:=(k:Int)) (b:=(cs.length:Int)) (by lia) (by rw [tx_len]; lia) (by rw [tx_len]))
 rw [this]
 have e:((cs.length:Int) - (k:Int)).toNat = cs.length - k:=by lia
 rw [e,Int.toNat_natCast,tx_list,List.take_of_length_le (by rw [List.length_drop]; exact Nat.le_refl _)]
 rfl
theorem sl_mid {cs:List Nat} {a b:Nat} {i j:Int} (hi:i = a) (hj:j = b) (hk:a≤b) (hb:b≤cs.length):Txt.slice (tx cs) (some i) (some j) = tx ((cs.drop a).take (b - a)):=by
 subst hi hj
 have:=eq_of_beq (PyProof.Rows.slice_closesL (x:=tx cs) (i:=(a:Int)) (j:=(b:Int)) (by lia) (by lia) (by rw [tx_len]; lia))
 rw [this]
 have e:((b:Int) - (a:Int)).toNat = b - a:=by lia
 rw [e]
 simp [tx]
theorem down_dn (d k:Nat):down (((d + k:Nat):Int) - 1) k = iL ((dn d k).map fun (i:Nat)=>(i:Int)):=by
 simp only [down,iL,dn,List.map_map]
 refine List.map_congr_left fun i hi=>?_
 have:i < k:=List.mem_range.mp hi
 simp only [Function.comp_apply]
 congr 1
 lia
theorem s_xstep {s1:Own} {h:Hs} (ok:h.Ok) {made w:List Nat} (hz:∀ c∈w,c∈h.ls.map (·.1)) (hl:made.length + w.length≤40) (h0:w≠[]) {acc:List Int} (ha:acc.length≤2000) {x4:Slot} (h4:(x4 = none∨∃ d,x4 = some (Own.own,A.fz d))) :
  ∃ y4,(y4 = none∨∃ d,y4 = some (Own.own,A.fz d))∧(seqS (asgS 4 (opM addA (m2L (varM 3) (callM fn_place_of_first (consM (varM 0) (consM (opM slLo (m2L (varM 1) (varM 3))) (nilM))))))) (seqS (extS 2 (opM lrngA (consM (opM subA (m2L (varM 4) (litM (.int 1)))) (consM (opM subA (m2L (varM 3) (litM (.int 1)))) (consM (opM negA (m1L (litM (.int 1)))) nilM))))) (asgS 1 (opM addA (m2L (opM addA (m2L (opM addA (m2L (opM slHi (m2L (varM 1) (varM 3))) (opM ixA (m2L (varM 1) (varM 4))))) (opM slLoHi (consM (varM 1) (consM (varM 3) (consM (varM 4) nilM)))))) (opM slLo (m2L (varM 1) (opM addA (m2L (varM 4) (litM (.int 1))))))))))) [some (s1,.fz h.d),some (.own,.fz (.str (tx (made ++ w)))),some (.own,hL (acc)),some (.own,.fz (.int (made.length:Int))),x4] = some (.next [some (s1,.fz h.d),some (.own,.fz (.str (tx (made ++ lst (fs h.hands [] w) :: w.erase (lst (fs h.hands [] w)))))),some (.own,hL (acc ++ (dn made.length (fpl h.hands w)).map fun (i:Nat)=>(i:Int))),some (.own,.fz (.int (made.length:Int))),y4]):=by
 obtain ⟨k,b1,b2,hp,hk,g1,g2,e1⟩:=s_place .own .own h ok w hz (by lia) h0
 rw [← hp,← g2]
 refine ⟨some (.own,.fz (.int ((made.length + k:Nat):Int))),.inr ⟨_,rfl⟩,?_⟩
 have ml:(made ++ w).length = made.length + w.length:=List.length_append
 have sf:=sl_from (cs:=made ++ w) (k:=made.length) rfl (by lia)
 rw [List.drop_left] at sf
 have ep:(made.length:Int) + (k:Int) = ((made.length + k:Nat):Int):=by lia
 have st1:asgS 4 (opM addA (m2L (varM 3) (callM fn_place_of_first (consM (varM 0) (consM (opM slLo (m2L (varM 1) (varM 3))) (nilM)))))) [some (s1,.fz h.d),some (.own,.fz (.str (tx (made ++ w)))),some (.own,hL (acc)),some (.own,.fz (.int (made.length:Int))),x4] = some (.next [some (s1,.fz h.d),some (.own,.fz (.str (tx (made ++ w)))),some (.own,hL (acc)),some (.own,.fz (.int (made.length:Int))),some (.own,.fz (.int ((made.length + k:Nat):Int)))]):=by
  clear hz hl ok ha g1 g2 hp hk ml h0
  simp only [hL]
  generalize fn_place_of_first = Φ at e1 ⊢
  generalize tx (made ++ w) = z at sf ⊢
  generalize tx w = z2 at e1 sf
  generalize iL acc = ds
  rcases h4 with rfl | ⟨d,rfl⟩ <;> walk_at "eo"
 have vr:(opM lrngA (consM (opM subA (m2L (varM 4) (litM (.int 1)))) (consM (opM subA (m2L (varM 3) (litM (.int 1)))) (consM (opM negA (m1L (litM (.int 1)))) nilM)))) [some (s1,.fz h.d),some (.own,.fz (.str (tx (made ++ w)))),some (.own,hL (acc)),some (.own,.fz (.int (made.length:Int))),some (.own,.fz (.int ((made.length + k:Nat):Int)))] = some (.val (hL ((dn made.length k).map fun (i:Nat)=>(i:Int))),[some (s1,.fz h.d),some (.own,.fz (.str (tx (made ++ w)))),some (.own,hL (acc)),some (.own,.fz (.int (made.length:Int))),some (.own,.fz (.int ((made.length + k:Nat):Int)))]):=by
  have d1:=down_dn made.length k
  have qq:k≤1000∧made.length≤1000:=by lia
  have q2:((((made.length + k:Nat):Int) - 1) - ((made.length:Int) - 1)).toNat = k:=by lia
  clear hz hl ok ha g1 g2 hp hk ml h0 st1 e1 sf h4
  have n1:opM negA (m1L (litM (.int 1))) [some (s1,.fz h.d),some (.own,.fz (.str (tx (made ++ w)))),some (.own,hL (acc)),some (.own,.fz (.int (made.length:Int))),some (.own,.fz (.int ((made.length + k:Nat):Int)))] = some (.val (.fz (.int (-1))),[some (s1,.fz h.d),some (.own,.fz (.str (tx (made ++ w)))),some (.own,hL (acc)),some (.own,.fz (.int (made.length:Int))),some (.own,.fz (.int ((made.length + k:Nat):Int)))]):=rfl
  have n2:opM subA (m2L (varM 4) (litM (.int 1))) [some (s1,.fz h.d),some (.own,.fz (.str (tx (made ++ w)))),some (.own,hL (acc)),some (.own,.fz (.int (made.length:Int))),some (.own,.fz (.int ((made.length + k:Nat):Int)))] = some (.val (.fz (.int (((made.length + k:Nat):Int) - 1))),[some (s1,.fz h.d),some (.own,.fz (.str (tx (made ++ w)))),some (.own,hL (acc)),some (.own,.fz (.int (made.length:Int))),some (.own,.fz (.int ((made.length + k:Nat):Int)))]):=rfl
  have n3:opM subA (m2L (varM 3) (litM (.int 1))) [some (s1,.fz h.d),some (.own,.fz (.str (tx (made ++ w)))),some (.own,hL (acc)),some (.own,.fz (.int (made.length:Int))),some (.own,.fz (.int ((made.length + k:Nat):Int)))] = some (.val (.fz (.int ((made.length:Int) - 1))),[some (s1,.fz h.d),some (.own,.fz (.str (tx (made ++ w)))),some (.own,hL (acc)),some (.own,.fz (.int (made.length:Int))),some (.own,.fz (.int ((made.length + k:Nat):Int)))]):=rfl
  rw [opM]
  simp only [consM,nilM,n1,n2,n3,Option.bind_some,Option.map_some,peeks,peek,lrngA]
  rw [q2,d1,if_pos ⟨trivial,by lia,by lia⟩]
  rfl
 have st2:extS 2 (opM lrngA (consM (opM subA (m2L (varM 4) (litM (.int 1)))) (consM (opM subA (m2L (varM 3) (litM (.int 1)))) (consM (opM negA (m1L (litM (.int 1)))) nilM)))) [some (s1,.fz h.d),some (.own,.fz (.str (tx (made ++ w)))),some (.own,hL (acc)),some (.own,.fz (.int (made.length:Int))),some (.own,.fz (.int ((made.length + k:Nat):Int)))] = some (.next [some (s1,.fz h.d),some (.own,.fz (.str (tx (made ++ w)))),some (.own,hL (acc ++ (dn made.length k).map fun (i:Nat)=>(i:Int))),some (.own,.fz (.int (made.length:Int))),some (.own,.fz (.int ((made.length + k:Nat):Int)))]):=by
  have a2:(acc.length + ((dn made.length k).map fun (i:Nat)=>(i:Int)).length≤LIM) = True:=by
   have hlim:10000≤LIM:=by decide
   simp only [dn,List.length_map,List.length_range,eq_iff_iff,iff_true]; lia
  generalize ((dn made.length k).map fun (i:Nat)=>(i:Int)) = bs at vr a2 ⊢
  generalize (opM lrngA (consM (opM subA (m2L (varM 4) (litM (.int 1)))) (consM (opM subA (m2L (varM 3) (litM (.int 1)))) (consM (opM negA (m1L (litM (.int 1)))) nilM)))) = Zc at vr ⊢
  have a4:(iL acc).map A.fz ++ (iL bs).map A.fz = (iL (acc ++ bs)).map A.fz:=by simp [iL]
  clear hz hl ok ha g1 g2 hp hk ml h0 st1 e1 sf h4 ep
  simp only [hL] at vr ⊢
  walk_at "eo"
 have tl:(made ++ w).take made.length = made:=List.take_left
 have s1':=sl_hi (cs:=made ++ w) (k:=made.length) (by lia)
 rw [tl] at s1'
 have s2':=sl_mid (cs:=made ++ w) (a:=made.length) (b:=made.length + k) (i:=(made.length:Int)) (j:=((made.length + k:Nat):Int)) rfl rfl (by lia) (by lia)
 rw [List.drop_left,show made.length + k - made.length = k by lia] at s2'
 have s3':=sl_from (cs:=made ++ w) (k:=made.length + k + 1) (i:=((made.length + k:Nat):Int) + 1) (by lia) (by lia)
 rw [show made.length + k + 1 = made.length + (k + 1) by lia,List.drop_append] at s3'
 rw [show (made.drop (made.length + (k + 1))) = [] by simp,List.nil_append,show made.length + (k + 1) - made.length = k + 1 by lia] at s3'
 have i1:=sign_at (z:=tx (made ++ w)) (i:=made.length + k) (j:=((made.length + k:Nat):Int)) rfl (by rw [tx_list]; lia)
 have eg:(made ++ w).getD (made.length + k) 0 = lst (fs h.hands [] w):=by
  rw [← g1,List.getD_eq_getElem?_getD,List.getD_eq_getElem?_getD,List.getElem?_append_right (by lia),show made.length + k - made.length = k by lia]
 rw [tx_list,eg] at i1
 have e0':(tx (made ++ w)).cps.toList = made ++ w:=rfl
 have v1:(opM slHi (m2L (varM 1) (varM 3))) [some (s1,.fz h.d),some (.own,.fz (.str (tx (made ++ w)))),some (.own,hL (acc ++ (dn made.length k).map fun (i:Nat)=>(i:Int))),some (.own,.fz (.int (made.length:Int))),some (.own,.fz (.int ((made.length + k:Nat):Int)))] = some (.val (.fz (.str (tx made))),[some (s1,.fz h.d),some (.own,.fz (.str (tx (made ++ w)))),some (.own,hL (acc ++ (dn made.length k).map fun (i:Nat)=>(i:Int))),some (.own,.fz (.int (made.length:Int))),some (.own,.fz (.int ((made.length + k:Nat):Int)))]):=by
  clear hz hl ok ha g1 g2 hp hk ml h0 st1 e1 sf h4 ep vr st2 s2' s3' i1 eg e0' tl
  simp only [hL]
  generalize iL _ = ds
  generalize tx (made ++ w) = z at s1' ⊢
  walk_at "eo"
 have v2:(opM ixA (m2L (varM 1) (varM 4))) [some (s1,.fz h.d),some (.own,.fz (.str (tx (made ++ w)))),some (.own,hL (acc ++ (dn made.length k).map fun (i:Nat)=>(i:Int))),some (.own,.fz (.int (made.length:Int))),some (.own,.fz (.int ((made.length + k:Nat):Int)))] = some (.val (.fz (.str (tx [lst (fs h.hands [] w)]))),[some (s1,.fz h.d),some (.own,.fz (.str (tx (made ++ w)))),some (.own,hL (acc ++ (dn made.length k).map fun (i:Nat)=>(i:Int))),some (.own,.fz (.int (made.length:Int))),some (.own,.fz (.int ((made.length + k:Nat):Int)))]):=by
  show _ = some (R.val (.fz (.str ⟨#[lst (fs h.hands [] w)]⟩)),_)
  clear hz hl ok ha g1 g2 hp hk ml h0 st1 e1 sf h4 ep vr st2 s2' s3' s1' eg tl v1
  simp only [hL]
  generalize iL _ = ds
  generalize lst (fs h.hands [] w) = a at i1 ⊢
  generalize made ++ w = mw at e0' i1 ⊢
  generalize tx mw = z at e0' ⊢
  walk_at "eo"
 have v3:(opM slLoHi (consM (varM 1) (consM (varM 3) (consM (varM 4) nilM)))) [some (s1,.fz h.d),some (.own,.fz (.str (tx (made ++ w)))),some (.own,hL (acc ++ (dn made.length k).map fun (i:Nat)=>(i:Int))),some (.own,.fz (.int (made.length:Int))),some (.own,.fz (.int ((made.length + k:Nat):Int)))] = some (.val (.fz (.str (tx (w.take k)))),[some (s1,.fz h.d),some (.own,.fz (.str (tx (made ++ w)))),some (.own,hL (acc ++ (dn made.length k).map fun (i:Nat)=>(i:Int))),some (.own,.fz (.int (made.length:Int))),some (.own,.fz (.int ((made.length + k:Nat):Int)))]):=by
  clear hz hl ok ha g1 g2 hp hk ml h0 st1 e1 sf h4 ep vr st2 s3' s1' eg tl v1 v2 i1 e0'
  simp only [hL]
  generalize iL _ = ds
  generalize tx (made ++ w) = z at s2' ⊢
  walk_at "eo"
 have v4:(opM slLo (m2L (varM 1) (opM addA (m2L (varM 4) (litM (.int 1)))))) [some (s1,.fz h.d),some (.own,.fz (.str (tx (made ++ w)))),some (.own,hL (acc ++ (dn made.length k).map fun (i:Nat)=>(i:Int))),some (.own,.fz (.int (made.length:Int))),some (.own,.fz (.int ((made.length + k:Nat):Int)))] = some (.val (.fz (.str (tx (w.drop (k + 1))))),[some (s1,.fz h.d),some (.own,.fz (.str (tx (made ++ w)))),some (.own,hL (acc ++ (dn made.length k).map fun (i:Nat)=>(i:Int))),some (.own,.fz (.int (made.length:Int))),some (.own,.fz (.int ((made.length + k:Nat):Int)))]):=by
  clear hz hl ok ha g1 g2 hp hk ml h0 st1 e1 sf h4 ep vr st2 s2' s1' eg tl v1 v2 v3 i1 e0'
  simp only [hL]
  generalize iL _ = ds
  generalize tx (made ++ w) = z at s3' ⊢
  walk_at "eo"
 have l1:(w.take k).length≤40:=by rw [List.length_take]; lia
 have l2:(w.drop (k + 1)).length≤40:=by rw [List.length_drop]; lia
 have v12:=add_tx v1 v2 (by simp; lia)
 have v123:=add_tx v12 v3 (by simp; lia)
 have v1234:=add_tx v123 v4 (by simp at l1 ⊢; lia)
 have st3:=asg_of (i:=1) v1234 rfl
 have er:made ++ [lst (fs h.hands [] w)] ++ w.take k ++ w.drop (k + 1) = made ++ lst (fs h.hands [] w) :: (w.take k ++ w.drop (k + 1)):=by simp
 rw [er] at st3
 rw [seq_next st1,seq_next st2]
 exact st3
theorem fpl_le {f:Nat→List Int} (w:List Nat):fpl f w≤w.length:=List.idxOf_le_length
theorem s_exchanges (s1:Own) (h:Hs) (ok:h.Ok) (cs:List Nat) (hz:∀ c∈cs,c∈h.ls.map (·.1)) (hl:cs.length≤40):∃ a1 a2,fn_exchanges [(s1,.fz h.d),(.own,.fz (.str (tx cs)))] = some (hL ((exs h.hands 40 0 cs).map fun (i:Nat)=>(i:Int)),[a1,a2]):=by
 have t0:=s_need_row .own .own h ok (tx cs) (tx_row (by lia) hz)
 have st0:expS (callM fn_need_row (consM (varM 0) (consM (varM 1) (nilM)))) [some (s1,.fz h.d),some (.own,.fz (.str (tx cs))),none,none,none] = some (.next [some (s1,.fz h.d),some (.own,.fz (.str (tx cs))),none,none,none]):=by
  clear hz hl ok
  generalize fn_need_row = Φ at t0 ⊢
  generalize tx cs = z at t0 ⊢
  walk_at "eo"
 have st1:asgS 2 (lstM (nilM)) [some (s1,.fz h.d),some (.own,.fz (.str (tx cs))),none,none,none] = some (.next [some (s1,.fz h.d),some (.own,.fz (.str (tx (cs)))),some (.own,hL ([])),none,none]):=by
  have l0:((0:Nat)≤LIM) = True:=by simp
  clear hz hl ok t0 st0
  simp only [hL,iL,List.map_nil]
  walk_at "eo"
 have ln:opM lenA (consM (varM 1) (nilM)) [some (s1,.fz h.d),some (.own,.fz (.str (tx (cs)))),some (.own,hL ([])),none,none] = some (.val (.fz (.int (cs.length:Int))),[some (s1,.fz h.d),some (.own,.fz (.str (tx (cs)))),some (.own,hL ([])),none,none]):=by
  have e:=tx_len cs
  clear hz hl ok t0 st0 st1
  simp only [hL]
  generalize iL [] = ds
  generalize tx cs = z at e ⊢
  rw [← e]
  walk_at "eo"
 have rg:=rng1_of ln (by lia) (by lia)
 rw [Int.toNat_natCast] at rg
 obtain ⟨ρ',f1,f2⟩:=forS_inv (is:=[3]) (one:=true) (b:=(seqS (asgS 4 (opM addA (m2L (varM 3) (callM fn_place_of_first (consM (varM 0) (consM (opM slLo (m2L (varM 1) (varM 3))) (nilM))))))) (seqS (extS 2 (opM lrngA (consM (opM subA (m2L (varM 4) (litM (.int 1)))) (consM (opM subA (m2L (varM 3) (litM (.int 1)))) (consM (opM negA (m1L (litM (.int 1)))) nilM))))) (asgS 1 (opM addA (m2L (opM addA (m2L (opM addA (m2L (opM slHi (m2L (varM 1) (varM 3))) (opM ixA (m2L (varM 1) (varM 4))))) (opM slLoHi (consM (varM 1) (consM (varM 3) (consM (varM 4) nilM)))))) (opM slLo (m2L (varM 1) (opM addA (m2L (varM 4) (litM (.int 1))))))))))))
  (fun t ρ=>∃ (made w acc:List Nat) (x3 x4:Slot),made.length = t∧t + w.length = cs.length∧(∀ c∈w,c∈h.ls.map (·.1))∧acc ++ exs h.hands (40 - t) t w = exs h.hands 40 0 cs∧acc.length≤40 * t∧(x3 = none∨∃ d,x3 = some (Own.own,A.fz d))∧(x4 = none∨∃ d,x4 = some (Own.own,A.fz d)) ∧ ρ = [some (s1,.fz h.d),some (.own,.fz (.str (tx (made ++ w)))),some (.own,hL (acc.map fun (i:Nat)=>(i:Int))),x3,x4]) rg ⟨[],cs,[],none,none,rfl,by simp,hz,rfl,by simp,.inl rfl,.inl rfl,rfl⟩ (fun t d ρ hd hI=>by
   obtain ⟨made,w,acc,x3,x4,h1,h2,hw,ea,hl2,h3,h4,rfl⟩:=hI
   obtain ⟨rfl,ht⟩:=up_get0 hd
   subst h1
   have h0:w≠[]:=by
    intro e; rw [e] at h2; simp at h2; lia
   obtain ⟨y4,k4,q⟩:=s_xstep (s1:=s1) ok hw (by lia) h0 (acc:=acc.map fun (i:Nat)=>(i:Int)) (made:=made) (by rw [List.length_map]; lia) h4
   have hm:=fs_sub w [] _ (lst_mem (fs_ne0 (f:=h.hands) h0)).1
   have le:=List.length_erase_of_mem hm
   have wl:0 < w.length:=List.length_pos_iff.mpr h0
   refine ⟨_,_,?_,.inl q,made ++ [lst (fs h.hands [] w)],w.erase (lst (fs h.hands [] w)),acc ++ dn made.length (fpl h.hands w),some (.own,.fz (.int (made.length:Int))),y4,by simp,by lia,fun c hc=>hw c (List.mem_of_mem_erase hc),?_,?_,.inr ⟨_,rfl⟩,k4,?_⟩
   ·rcases h3 with rfl | ⟨d,rfl⟩ <;> rfl
   ·rw [← ea,List.append_assoc]
    refine congrArg (acc ++ ·) ?_
    have e1:40 - made.length = (40 - (made.length + 1)) + 1:=by lia
    have e2:=exs_succ (f:=h.hands) (40 - (made.length + 1)) made.length h0
    rw [← e1] at e2
    exact e2.symm
   ·have:=fpl_le (f:=h.hands) w
    simp only [List.length_append,dn,List.length_map,List.length_range]; lia
   ·simp)
 obtain ⟨made,w,acc,x3,x4,h1,h2,_,ea,_,_,_,rfl⟩:=f2
 have hw:w = []:=List.length_eq_zero_iff.mp (by rw [up_len] at h2; lia)
 subst hw
 rw [exs_nil,List.append_nil] at ea
 subst ea
 refine ⟨_,_,fn_ret (ρ:=[some (s1,.fz h.d),some (.own,.fz (.str (tx (made ++ [])))),none,x3,x4]) rfl ?_⟩
 show den_exchanges [some (s1,.fz h.d),some (.own,.fz (.str (tx cs))),none,none,none] = _
 unfold den_exchanges
 rw [seq_next st0,seq_next st1]
 refine (seq_next f1).trans ?_
 rfl
theorem s_wstep {s1 o2:Own} {h:Hs} (ok:h.Ok) {w:List Nat} (hz:∀ c∈w,c∈h.ls.map (·.1)) (hl:w.length≤40) {p:Nat} (hp:okP h.hands p w) {ps:List Int} {x4:Slot} (h4:(x4 = none∨∃ d,x4 = some (Own.own,A.fz d))) :
  (seqS (ifS (orT (notT (tstM (callM fn__law_whole (consM (varM 3) (nilM))))) (notT (tstM (chnM leA ltA (litM (.int 0)) (varM 3) (opM subA (m2L (opM lenA (consM (varM 1) (nilM))) (litM (.int 1)))))))) (retS (litM .non)) (skipS)) (seqS (ifS (notT (tstM (callM fn__law_are_free (consM (varM 0) (consM (opM ixA (m2L (varM 1) (varM 3))) (consM (opM ixA (m2L (varM 1) (opM addA (m2L (varM 3) (litM (.int 1)))))) (nilM))))))) (retS (litM .non)) (skipS)) (seqS (asgS 4 (opM slLoHi (consM (varM 1) (consM (varM 3) (consM (opM addA (m2L (varM 3) (litM (.int 2)))) nilM))))) (asgS 1 (opM addA (m2L (opM addA (m2L (opM slHi (m2L (varM 1) (varM 3))) (opM revA (m2L (varM 4) (opM negA (m1L (litM (.int 1)))))))) (opM slLo (m2L (varM 1) (opM addA (m2L (varM 3) (litM (.int 2)))))))))))) [some (s1,.fz h.d),some (.own,.fz (.str (tx (w)))),some (o2,hL ps),some (.own,.fz (.int (p:Int))),x4] = some (.next [some (s1,.fz h.d),some (.own,.fz (.str (tx (swp p w)))),some (o2,hL ps),some (.own,.fz (.int (p:Int))),some (.own,.fz (.str (tx ((w.drop p).take 2))))]):=by
 obtain ⟨hp1,hp2⟩:=hp
 have mem:∀ i,i < w.length→w.getD i 0∈h.ls.map (·.1):=fun i hi=>hz _ (by
  rw [List.getD_eq_getElem?_getD,List.getElem?_eq_getElem hi,Option.getD_some]; exact List.getElem_mem hi)
 obtain ⟨a1,a2,a3,t1⟩:=s_are_free .own .own .own h ok (w.getD p 0) (w.getD (p + 1) 0) (mem p (by lia)) (mem (p + 1) hp1)
 rw [frB_iff.mpr hp2] at t1
 have t0:=s_law_whole .own (.int (p:Int))
 have ew:(isInt (.int (p:Int)) && !isBool (.int (p:Int))) = true:=rfl
 rw [ew] at t0
 have g1:=sign_at (z:=tx w) (i:=p) (j:=(p:Int)) rfl (by rw [tx_list]; lia)
 have g2:=sign_at (z:=tx w) (i:=p + 1) (j:=(p:Int) + 1) (by lia) (by rw [tx_list]; lia)
 rw [tx_list] at g1 g2
 have e0':(tx w).cps.toList = w:=rfl
 have c1:(orT (notT (tstM (callM fn__law_whole (consM (varM 3) (nilM))))) (notT (tstM (chnM leA ltA (litM (.int 0)) (varM 3) (opM subA (m2L (opM lenA (consM (varM 1) (nilM))) (litM (.int 1)))))))) [some (s1,.fz h.d),some (.own,.fz (.str (tx (w)))),some (o2,hL ps),some (.own,.fz (.int (p:Int))),x4] = some (false,[some (s1,.fz h.d),some (.own,.fz (.str (tx (w)))),some (o2,hL ps),some (.own,.fz (.int (p:Int))),x4]):=by
  have b1:(notT (tstM (callM fn__law_whole (consM (varM 3) (nilM))))) [some (s1,.fz h.d),some (.own,.fz (.str (tx (w)))),some (o2,hL ps),some (.own,.fz (.int (p:Int))),x4] = some (false,[some (s1,.fz h.d),some (.own,.fz (.str (tx (w)))),some (o2,hL ps),some (.own,.fz (.int (p:Int))),x4]):=by
   clear g1 g2 e0' t1 mem hp1 hp2 hz hl ok h4 ew
   simp only [hL]
   generalize fn__law_whole = Φ at t0 ⊢
   generalize iL ps = ds
   generalize tx w = z
   walk_at "eo"
  have b2:(notT (tstM (chnM leA ltA (litM (.int 0)) (varM 3) (opM subA (m2L (opM lenA (consM (varM 1) (nilM))) (litM (.int 1))))))) [some (s1,.fz h.d),some (.own,.fz (.str (tx (w)))),some (o2,hL ps),some (.own,.fz (.int (p:Int))),x4] = some (false,[some (s1,.fz h.d),some (.own,.fz (.str (tx (w)))),some (o2,hL ps),some (.own,.fz (.int (p:Int))),x4]):=by
   have q1:((0:Int)≤(p:Int)) = True:=by simp
   have q2:((p:Int) < ((tx w).length:Int) - 1) = True:=by rw [tx_len]; simp only [eq_iff_iff,iff_true]; lia
   clear g1 g2 e0' t1 mem hp1 hp2 hz hl ok h4 ew b1 t0
   simp only [hL]
   generalize iL ps = ds
   generalize tx w = z at q2 ⊢
   walk_at "eo"
  simp [orT,b1,b2]
 have c2:(notT (tstM (callM fn__law_are_free (consM (varM 0) (consM (opM ixA (m2L (varM 1) (varM 3))) (consM (opM ixA (m2L (varM 1) (opM addA (m2L (varM 3) (litM (.int 1)))))) (nilM))))))) [some (s1,.fz h.d),some (.own,.fz (.str (tx (w)))),some (o2,hL ps),some (.own,.fz (.int (p:Int))),x4] = some (false,[some (s1,.fz h.d),some (.own,.fz (.str (tx (w)))),some (o2,hL ps),some (.own,.fz (.int (p:Int))),x4]):=by
  try simp only [chD] at t1
  clear c1 mem hp1 hp2 hz hl ok h4 ew t0
  simp only [hL]
  generalize fn__law_are_free = Φ at t1 ⊢
  generalize iL ps = ds
  generalize w.getD p 0 = x at t1 g1 ⊢
  generalize w.getD (p + 1) 0 = y at t1 g2 ⊢
  generalize tx w = z at e0' ⊢
  walk_at "eo"
 have s0:=sl_lh (cs:=w) (k:=p) (by lia)
 have s1':=sl_hi (cs:=w) (k:=p) (by lia)
 have s3':=sl_lo (cs:=w) (k:=p) (by lia)
 have st4:asgS 4 (opM slLoHi (consM (varM 1) (consM (varM 3) (consM (opM addA (m2L (varM 3) (litM (.int 2)))) nilM)))) [some (s1,.fz h.d),some (.own,.fz (.str (tx (w)))),some (o2,hL ps),some (.own,.fz (.int (p:Int))),x4] = some (.next [some (s1,.fz h.d),some (.own,.fz (.str (tx (w)))),some (o2,hL ps),some (.own,.fz (.int (p:Int))),some (.own,.fz (.str (tx ((w.drop p).take 2))))]):=by
  clear c1 c2 mem hp1 hp2 hz hl ok ew t0 t1 g1 g2 e0' s1' s3'
  simp only [hL]
  generalize iL ps = ds
  generalize tx w = z at s0 ⊢
  rcases h4 with rfl | ⟨d,rfl⟩ <;> walk_at "eo"
 have v1:(opM slHi (m2L (varM 1) (varM 3))) [some (s1,.fz h.d),some (.own,.fz (.str (tx (w)))),some (o2,hL ps),some (.own,.fz (.int (p:Int))),some (.own,.fz (.str (tx ((w.drop p).take 2))))] = some (.val (.fz (.str (tx (w.take p)))),[some (s1,.fz h.d),some (.own,.fz (.str (tx (w)))),some (o2,hL ps),some (.own,.fz (.int (p:Int))),some (.own,.fz (.str (tx ((w.drop p).take 2))))]):=by
  clear c1 c2 mem hp1 hp2 hz hl ok ew t0 t1 g1 g2 e0' s0 s3' st4 h4
  simp only [hL]
  generalize iL ps = ds
  generalize tx ((w.drop p).take 2) = z2
  generalize tx w = z at s1' ⊢
  walk_at "eo"
 have v2:(opM revA (m2L (varM 4) (opM negA (m1L (litM (.int 1)))))) [some (s1,.fz h.d),some (.own,.fz (.str (tx (w)))),some (o2,hL ps),some (.own,.fz (.int (p:Int))),some (.own,.fz (.str (tx ((w.drop p).take 2))))] = some (.val (.fz (.str (tx ((w.drop p).take 2).reverse))),[some (s1,.fz h.d),some (.own,.fz (.str (tx (w)))),some (o2,hL ps),some (.own,.fz (.int (p:Int))),some (.own,.fz (.str (tx ((w.drop p).take 2))))]):=by
  have q:=rev_tx ((w.drop p).take 2)
  have q0:((-1:Int) = -1) = True:=by simp
  clear c1 c2 mem hp1 hp2 hz hl ok ew t0 t1 g1 g2 e0' s0 s3' st4 h4 v1 s1'
  simp only [hL]
  generalize iL ps = ds
  generalize tx ((w.drop p).take 2) = z2 at q ⊢
  generalize tx w = z
  walk_at "eo"
 have v3:(opM slLo (m2L (varM 1) (opM addA (m2L (varM 3) (litM (.int 2)))))) [some (s1,.fz h.d),some (.own,.fz (.str (tx (w)))),some (o2,hL ps),some (.own,.fz (.int (p:Int))),some (.own,.fz (.str (tx ((w.drop p).take 2))))] = some (.val (.fz (.str (tx (w.drop (p + 2))))),[some (s1,.fz h.d),some (.own,.fz (.str (tx (w)))),some (o2,hL ps),some (.own,.fz (.int (p:Int))),some (.own,.fz (.str (tx ((w.drop p).take 2))))]):=by
  clear c1 c2 mem hp1 hp2 hz hl ok ew t0 t1 g1 g2 e0' s0 s1' st4 h4 v1 v2
  simp only [hL]
  generalize iL ps = ds
  generalize tx ((w.drop p).take 2) = z2
  generalize tx w = z at s3' ⊢
  walk_at "eo"
 have l1:(w.take p).length≤40:=by rw [List.length_take]; lia
 have l2:(w.drop (p + 2)).length≤40:=by rw [List.length_drop]; lia
 have l3:((w.drop p).take 2).reverse.length≤2:=by rw [List.length_reverse,List.length_take]; lia
 have v12:=add_tx v1 v2 (by lia)
 have v123:=add_tx v12 v3 (by rw [List.length_append]; lia)
 have st5:=asg_of (i:=1) v123 rfl
 rw [seq_next ((if_f c1).trans rfl),seq_next ((if_f c2).trans rfl),seq_next st4]
 exact st5
theorem swp_perm {p:Nat} {w:List Nat}:(swp p w).Perm w:=by
 unfold swp
 have e:w = w.take p ++ (w.drop p).take 2 ++ w.drop (p + 2):=by
  rw [List.append_assoc,← List.drop_drop,List.take_append_drop,List.take_append_drop]
 conv=>rhs; rw [e]
 exact ((List.Perm.refl _).append (List.reverse_perm _)).append (List.Perm.refl _)
theorem s_walked (s1 o2:Own) (hne:o2 = .own∨o2 = .lent) (h:Hs) (ok:h.Ok) (cs low ps:List Nat) (hz:∀ c∈cs,c∈h.ls.map (·.1)) (hl:cs.length≤40) (hw:Walks h.hands cs ps low):∃ a1 a2,fn__law_walked [(s1,.fz h.d),(.own,.fz (.str (tx cs))),(o2,hL (ps.map fun (i:Nat)=>(i:Int)))] = some (.fz (.str (tx low)),[a1,a2,hL (ps.map fun (i:Nat)=>(i:Int))]):=by
 let qs:List Int:=ps.map fun (i:Nat)=>(i:Int)
 have it:seqI (varM 2) [some (s1,.fz h.d),some (.own,.fz (.str (tx cs))),some (o2,hL qs),none,none] = some (iL qs,some 2,[some (s1,.fz h.d),some (.own,.fz (.str (tx cs))),some (o2,hL qs),none,none]):=by
  simp [seqI,varM,peek,hL,itemsA,fzs_map,nameOf]
 obtain ⟨ρ',f1,f2⟩:=forS_inv (is:=[3]) (one:=true) (b:=(seqS (ifS (orT (notT (tstM (callM fn__law_whole (consM (varM 3) (nilM))))) (notT (tstM (chnM leA ltA (litM (.int 0)) (varM 3) (opM subA (m2L (opM lenA (consM (varM 1) (nilM))) (litM (.int 1)))))))) (retS (litM .non)) (skipS)) (seqS (ifS (notT (tstM (callM fn__law_are_free (consM (varM 0) (consM (opM ixA (m2L (varM 1) (varM 3))) (consM (opM ixA (m2L (varM 1) (opM addA (m2L (varM 3) (litM (.int 1)))))) (nilM))))))) (retS (litM .non)) (skipS)) (seqS (asgS 4 (opM slLoHi (consM (varM 1) (consM (varM 3) (consM (opM addA (m2L (varM 3) (litM (.int 2)))) nilM))))) (asgS 1 (opM addA (m2L (opM addA (m2L (opM slHi (m2L (varM 1) (varM 3))) (opM revA (m2L (varM 4) (opM negA (m1L (litM (.int 1)))))))) (opM slLo (m2L (varM 1) (opM addA (m2L (varM 3) (litM (.int 2)))))))))))))
  (fun t ρ=>t≤ps.length∧∃ (w:List Nat) (x3 x4:Slot),Walks h.hands w (ps.drop t) low∧w.Perm cs∧(x3 = none∨∃ d,x3 = some (Own.own,A.fz d))∧(x4 = none∨∃ d,x4 = some (Own.own,A.fz d)) ∧ ρ = [some (s1,.fz h.d),some (.own,.fz (.str (tx w))),some (.ro,hL qs),x3,x4]) it ⟨Nat.zero_le _,cs,none,none,hw,.refl _,.inl rfl,.inl rfl,rfl⟩ (fun t d ρ hd hI=>by
   obtain ⟨ht,w,x3,x4,hwk,pm,h3,h4,rfl⟩:=hI
   have hlt:t < ps.length:=by
    have:=(List.getElem?_eq_some_iff.mp hd).1
    simpa [iL,qs] using this
   have ed:d = .int ((ps[t]:Nat):Int):=by
    simp only [iL,qs,List.map_map,List.getElem?_map,List.getElem?_eq_getElem hlt,Option.map_some,Option.some.injEq,Function.comp_apply] at hd
    exact hd.symm
   subst ed
   rw [List.drop_eq_getElem_cons hlt] at hwk
   cases hwk with
   | cons o hwk =>
    have q:=s_wstep (s1:=s1) (o2:=.ro) ok (fun c hc=>hz c (pm.mem_iff.mp hc)) (by rw [pm.length_eq]; exact hl) o (ps:=qs) (x4:=x4) h4
    refine ⟨_,_,?_,.inl q,hlt,swp ps[t] w,_,_,hwk,swp_perm.trans pm,.inr ⟨_,rfl⟩,.inr ⟨_,rfl⟩,rfl⟩
    rcases h3 with rfl | ⟨d,rfl⟩ <;> rfl)
 obtain ⟨_,w,x3,x4,hwk,_,_,_,rfl⟩:=f2
 have ln:(iL qs).length = ps.length:=by simp [iL,qs]
 rw [ln,List.drop_length] at hwk
 cases hwk
 refine ⟨_,_,fn_ret (ρ:=[some (s1,.fz h.d),some (.own,.fz (.str (tx low))),some (o2,hL qs),x3,x4]) rfl ?_⟩
 show den__law_walked [some (s1,.fz h.d),some (.own,.fz (.str (tx cs))),some (o2,hL qs),none,none] = _
 unfold den__law_walked
 refine (seq_next f1).trans ?_
 rfl
noncomputable def cdD:D→Nat
 | .str z=>z.cps.getD 0 0
 | _=>0
theorem sl_neg {cs:List Nat} (h0:cs≠[]):Txt.slice (tx cs) none (some (-1)) = tx (cs.take (cs.length - 1)):=by
 have hl:0 < cs.length:=List.length_pos_iff.mpr h0
 have:=eq_of_beq (PyProof.Rows.slice_closes_to_neg (x:=tx cs) (j:=-1) (k:=(cs.length:Int) - 1) (by lia) (by rw [tx_len]; lia) (by rw [tx_len]; lia))
 rw [this]
 have e:((cs.length:Int) - 1 - 0).toNat = cs.length - 1:=by lia
 rw [e]
 simp [tx]
theorem fd_in {w:List Nat} {c:Nat} (h:c∈w):Txt.find (tx w) ⟨#[c]⟩ = (w.idxOf c:Int):=by
 have hi:=List.idxOf_lt_length_of_mem h
 refine find_one ?_ fun k hk e=>?_
 ·rw [tx_list,List.getElem?_eq_getElem hi]
  exact congrArg some (List.getElem_idxOf hi)
 ·rw [tx_list,List.getElem?_eq_some_iff] at e
  obtain ⟨h1,e⟩:=e
  have:=List.not_of_lt_findIdx (p:=fun x=>x == c) (xs:=w) (i:=k) hk
  simp at this
  exact this e
theorem fd_out {w:List Nat} {c:Nat} (h:c ∉ w):Txt.find (tx w) ⟨#[c]⟩ = -1:=by
 rcases PyProof.Rows.find_whole (tx w) ⟨#[c]⟩ with ⟨e,_⟩ | ⟨j,e,hj,hl⟩
 ·exact e
 ·have:=(StrLaws.subAt_one (tx w) c j).mp hj
  rw [tx_list] at this
  exact absurd (List.mem_of_getElem? this) h
theorem str_it2 {m:ME} {cs:List Nat} {ρ:Ro} (hl:cs.length≤40) (e:m ρ = some (.val (.fz (.str (tx cs))),ρ)):strI m ρ = some (cs.map chD,none,ρ):=by
 have e1:((tx cs).length≤LIM) = True:=by
  have hlim:1000≤LIM:=by decide
  rw [tx_len]; simp only [eq_iff_iff,iff_true]; lia
 simp only [strI,e,Option.bind_some,e1,if_true,signsD,tx_list]
 rfl
theorem x_loose {s1:Own} {h:Hs} (ok:h.Ok) {w u made:List Nat} {c:Nat} (hc:c∈h.ls.map (·.1)) (hu:∀ d∈u,d∈h.ls.map (·.1)) (hl:u.length≤40) {i:Int} (es:Txt.slice (tx w) none (some i) = tx u) {hd:D} {x6:Slot} :
  (compM (strI (opM slHi (m2L (varM 1) (varM 5)))) 0 (yesT) (callM fn__law_are_free (consM (varM 1) (consM (varM 4) (consM (varM 0) (nilM)))))) [some (s1,.fz h.d),some (.own,.fz (.str (tx (w)))),some (.own,.fz (.str (tx (made)))),some (.own,.fz (chD c)),some (.own,.fz hd),some (.own,.fz (.int i)),x6] = some (.val (.lst ((u.map fun d=>D.bl (frB h c d)).map A.fz)),[some (s1,.fz h.d),some (.own,.fz (.str (tx (w)))),some (.own,.fz (.str (tx (made)))),some (.own,.fz (chD c)),some (.own,.fz hd),some (.own,.fz (.int i)),x6]):=by
 have hlim:1000≤LIM:=by decide
 have v:opM slHi (m2L (varM 1) (varM 5)) [some (s1,.fz h.d),some (.own,.fz (.str (tx (w)))),some (.own,.fz (.str (tx (made)))),some (.own,.fz (chD c)),some (.own,.fz hd),some (.own,.fz (.int i)),x6] = some (.val (.fz (.str (tx u))),[some (s1,.fz h.d),some (.own,.fz (.str (tx (w)))),some (.own,.fz (.str (tx (made)))),some (.own,.fz (chD c)),some (.own,.fz hd),some (.own,.fz (.int i)),x6]):=by
  clear hc hu hl ok hlim
  simp only [chD]
  generalize tx w = z at es ⊢
  walk_at "eo"
 have hit:=str_it2 hl v
 have hcm:=compM_map (e:=(callM fn__law_are_free (consM (varM 1) (consM (varM 4) (consM (varM 0) (nilM)))))) (f:=fun d=>.bl (frB h c (cdD d))) hit (by simp only [List.length_map]; lia) (fun d hd'=>by
  obtain ⟨k,hk,rfl⟩:=List.mem_map.mp hd'
  obtain ⟨a1,a2,a3,e1⟩:=s_are_free .own .own .own h ok c k hc (hu k hk)
  refine ⟨.val (.fz (.bl (frB h c k))),?_,rfl⟩
  clear hit hd' hk hl hu hc ok hlim v es
  try simp only [chD] at e1
  simp only [chD]
  generalize fn__law_are_free = Φ at e1 ⊢
  generalize frB h c k = b at e1 ⊢
  generalize tx w = z
  generalize tx made = z2
  walk_at "eo")
 have em:(u.map chD).map (fun d=>D.bl (frB h c (cdD d))) = u.map fun d=>D.bl (frB h c d):=by
  rw [List.map_map]
  exact List.map_congr_left fun k _=>rfl
 rw [em] at hcm
 exact hcm
theorem x_all2 {ρ:Ro} {bs:List Bool} {ds:List D} (hd:ds = bs.map D.bl) (h6 : ρ[6]? = some (some (.own,.lst (ds.map A.fz)))):(tstM (opM allA (consM (varM 6) (nilM)))) ρ = some (bs.all id,ρ):=by
 subst hd
 have eb:=bools_map bs fun b=>b
 rw [List.map_id'] at eb
 refine tst_of ?_
 simp only [opM,consM,nilM,varM,h6,Option.bind_some,Option.map_some,peeks,peek,allA,lstA,fzs_map,eb]
theorem s_pre {s1:Own} {h:Hs} (ok:h.Ok) {w u made:List Nat} {c:Nat} (hc:c∈h.ls.map (·.1)) (hu:∀ d∈u,d∈h.ls.map (·.1)) (hl:u.length≤40) {i:Int} (ef:Txt.find (tx w) ⟨#[c]⟩ = i) (es:Txt.slice (tx w) none (some i) = tx u) {hd:D} {x5 x6:Slot} (h5:(x5 = none∨∃ a,x5 = some (Own.own,a))) (h6:(x6 = none∨∃ a,x6 = some (Own.own,a))) :
  (seqS (asgS 5 (smeM findF (varM 1) (m1L (varM 3)))) (seqS (asgS 6 (compM (strI (opM slHi (m2L (varM 1) (varM 5)))) 0 (yesT) (callM fn__law_are_free (consM (varM 1) (consM (varM 4) (consM (varM 0) (nilM))))))) (ifS (andT (tstM (opM geA (m2L (varM 5) (litM (.int 0))))) (tstM (opM allA (consM (varM 6) (nilM))))) (seqS (asgS 2 (opM addA (m2L (varM 2) (varM 3)))) (seqS (asgS 1 (opM addA (m2L (opM slHi (m2L (varM 1) (varM 5))) (opM slLo (m2L (varM 1) (opM addA (m2L (varM 5) (litM (.int 1))))))))) (brkS))) (skipS)))) [some (s1,.fz h.d),some (.own,.fz (.str (tx (w)))),some (.own,.fz (.str (tx (made)))),some (.own,.fz (chD c)),some (.own,.fz hd),x5,x6] = (ifS (andT (tstM (opM geA (m2L (varM 5) (litM (.int 0))))) (tstM (opM allA (consM (varM 6) (nilM))))) (seqS (asgS 2 (opM addA (m2L (varM 2) (varM 3)))) (seqS (asgS 1 (opM addA (m2L (opM slHi (m2L (varM 1) (varM 5))) (opM slLo (m2L (varM 1) (opM addA (m2L (varM 5) (litM (.int 1))))))))) (brkS))) (skipS)) [some (s1,.fz h.d),some (.own,.fz (.str (tx (w)))),some (.own,.fz (.str (tx (made)))),some (.own,.fz (chD c)),some (.own,.fz hd),some (.own,.fz (.int i)),some (.own,.lst (((u).map fun d=>D.bl (frB h c d)).map A.fz))]:=by
 have st5:asgS 5 (smeM findF (varM 1) (m1L (varM 3))) [some (s1,.fz h.d),some (.own,.fz (.str (tx (w)))),some (.own,.fz (.str (tx (made)))),some (.own,.fz (chD c)),some (.own,.fz hd),x5,x6] = some (.next [some (s1,.fz h.d),some (.own,.fz (.str (tx (w)))),some (.own,.fz (.str (tx (made)))),some (.own,.fz (chD c)),some (.own,.fz hd),some (.own,.fz (.int i)),x6]):=by
  clear hc hu hl ok es h6
  simp only [chD]
  generalize tx w = z at ef ⊢
  generalize tx made = z2
  rcases h5 with rfl | ⟨a,rfl⟩ <;> walk_at "eo"
 have st6:=asg_of (i:=6) (x_loose (s1:=s1) ok (made:=made) hc hu hl es (hd:=hd) (x6:=x6)) (by rcases h6 with rfl | ⟨a,rfl⟩ <;> rfl)
 rw [seq_next st5]
 exact seq_next st6
theorem x_ge {s1:Own} {h:Hs} {w made:List Nat} {c:Nat} {hd:D} {i:Int} {x6:Slot}:(tstM (opM geA (m2L (varM 5) (litM (.int 0))))) [some (s1,.fz h.d),some (.own,.fz (.str (tx (w)))),some (.own,.fz (.str (tx (made)))),some (.own,.fz (chD c)),some (.own,.fz hd),some (.own,.fz (.int i)),x6] = some (decide (0≤i),[some (s1,.fz h.d),some (.own,.fz (.str (tx (w)))),some (.own,.fz (.str (tx (made)))),some (.own,.fz (chD c)),some (.own,.fz hd),some (.own,.fz (.int i)),x6]):=by
 refine tst_of ?_
 simp only [chD]
 generalize tx w = z
 generalize tx made = z2
 walk_at "eo"
theorem and_tf {a b:MT} {ρ ρ1 ρ2:Ro} {x y:Bool} (h1:a ρ = some (x,ρ1)) (h2:b ρ1 = some (y,ρ2)) (hx:x = true):andT a b ρ = some (y,ρ2):=by subst hx; simp [andT,h1,h2]
theorem and_f {a b:MT} {ρ ρ1:Ro} {x:Bool} (h1:a ρ = some (x,ρ1)) (hx:x = false):andT a b ρ = some (false,ρ1):=by subst hx; simp [andT,h1]
theorem all_fr (h:Hs) (c:Nat) (u:List Nat):((u.map (frB h c)).all id = true)↔∀ d∈u,¬ Cm h.hands d c:=by
 simp only [List.all_map,List.all_eq_true,Function.comp_apply,id]
 exact forall_congr' fun d=>imp_congr_right fun _=>frB_iff.trans ⟨fun z q=>z q.symm,fun z q=>z q.symm⟩
theorem s_bad {s1:Own} {h:Hs} (ok:h.Ok) {w made:List Nat} (hz:∀ c∈w,c∈h.ls.map (·.1)) (hl:w.length≤40) (h0:w≠[]) {c:Nat} (hc:c∈h.ls.map (·.1)) (hb:c ∉ fs h.hands [] w) {hd:D} {x5 x6:Slot} (h5:(x5 = none∨∃ a,x5 = some (Own.own,a))) (h6:(x6 = none∨∃ a,x6 = some (Own.own,a))) :
  ∃ y5 y6,(y5 = none∨∃ a,y5 = some (Own.own,a))∧(y6 = none∨∃ a,y6 = some (Own.own,a))∧(seqS (asgS 5 (smeM findF (varM 1) (m1L (varM 3)))) (seqS (asgS 6 (compM (strI (opM slHi (m2L (varM 1) (varM 5)))) 0 (yesT) (callM fn__law_are_free (consM (varM 1) (consM (varM 4) (consM (varM 0) (nilM))))))) (ifS (andT (tstM (opM geA (m2L (varM 5) (litM (.int 0))))) (tstM (opM allA (consM (varM 6) (nilM))))) (seqS (asgS 2 (opM addA (m2L (varM 2) (varM 3)))) (seqS (asgS 1 (opM addA (m2L (opM slHi (m2L (varM 1) (varM 5))) (opM slLo (m2L (varM 1) (opM addA (m2L (varM 5) (litM (.int 1))))))))) (brkS))) (skipS)))) [some (s1,.fz h.d),some (.own,.fz (.str (tx (w)))),some (.own,.fz (.str (tx (made)))),some (.own,.fz (chD c)),some (.own,.fz hd),x5,x6] = some (.next [some (s1,.fz h.d),some (.own,.fz (.str (tx (w)))),some (.own,.fz (.str (tx (made)))),some (.own,.fz (chD c)),some (.own,.fz hd),y5,y6]):=by
 have hw:∀ d∈w,h.hands d≠[]:=fun d hd=>hands_ne ok (hz d hd)
 by_cases hm:c∈w
 ·have hi:=List.idxOf_lt_length_of_mem hm
  refine ⟨some (.own,.fz (.int (w.idxOf c:Int))),some (.own,.lst (((w.take (w.idxOf c)).map fun d=>D.bl (frB h c d)).map A.fz)),.inr ⟨_,rfl⟩,.inr ⟨_,rfl⟩,(s_pre (s1:=s1) ok (made:=made) hc (u:=w.take (w.idxOf c)) (fun d hd=>hz d (List.mem_of_mem_take hd)) (by rw [List.length_take]; lia) (fd_in hm) (sl_hi (by lia)) h5 h6).trans ?_⟩
  have hf:((w.take (w.idxOf c)).map (frB h c)).all id = false:=by
   rw [Bool.eq_false_iff,Ne,all_fr]
   exact fun z=>hb ((fs_good hw).mpr ⟨hm,z⟩)
  have q:=x_all2 (ρ:=[some (s1,.fz h.d),some (.own,.fz (.str (tx (w)))),some (.own,.fz (.str (tx (made)))),some (.own,.fz (chD c)),some (.own,.fz hd),some (.own,.fz (.int (w.idxOf c:Int))),some (.own,.lst (((w.take (w.idxOf c)).map fun d=>D.bl (frB h c d)).map A.fz))]) (bs:=(w.take (w.idxOf c)).map (frB h c)) (by rw [List.map_map]; rfl) rfl
  rw [hf] at q
  exact (if_f (and_tf x_ge q (by simp))).trans rfl
 ·refine ⟨some (.own,.fz (.int (-1))),some (.own,.lst (((w.take (w.length - 1)).map fun d=>D.bl (frB h c d)).map A.fz)),.inr ⟨_,rfl⟩,.inr ⟨_,rfl⟩,(s_pre (s1:=s1) ok (made:=made) hc (u:=w.take (w.length - 1)) (fun d hd=>hz d (List.mem_of_mem_take hd)) (by rw [List.length_take]; lia) (fd_out hm) (sl_neg h0) h5 h6).trans ?_⟩
  exact (if_f (and_f x_ge (by decide))).trans rfl
theorem s_good {s1:Own} {h:Hs} (ok:h.Ok) {w made:List Nat} (hz:∀ c∈w,c∈h.ls.map (·.1)) (hl:w.length≤40) (hm:made.length≤100) {c:Nat} (hb:c∈fs h.hands [] w) {hd:D} {x5 x6:Slot} (h5:(x5 = none∨∃ a,x5 = some (Own.own,a))) (h6:(x6 = none∨∃ a,x6 = some (Own.own,a))) :
  ∃ y5 y6,(y5 = none∨∃ a,y5 = some (Own.own,a))∧(y6 = none∨∃ a,y6 = some (Own.own,a))∧(seqS (asgS 5 (smeM findF (varM 1) (m1L (varM 3)))) (seqS (asgS 6 (compM (strI (opM slHi (m2L (varM 1) (varM 5)))) 0 (yesT) (callM fn__law_are_free (consM (varM 1) (consM (varM 4) (consM (varM 0) (nilM))))))) (ifS (andT (tstM (opM geA (m2L (varM 5) (litM (.int 0))))) (tstM (opM allA (consM (varM 6) (nilM))))) (seqS (asgS 2 (opM addA (m2L (varM 2) (varM 3)))) (seqS (asgS 1 (opM addA (m2L (opM slHi (m2L (varM 1) (varM 5))) (opM slLo (m2L (varM 1) (opM addA (m2L (varM 5) (litM (.int 1))))))))) (brkS))) (skipS)))) [some (s1,.fz h.d),some (.own,.fz (.str (tx (w)))),some (.own,.fz (.str (tx (made)))),some (.own,.fz (chD c)),some (.own,.fz hd),x5,x6] = some (.brk [some (s1,.fz h.d),some (.own,.fz (.str (tx (w.erase c)))),some (.own,.fz (.str (tx (made ++ [c])))),some (.own,.fz (chD c)),some (.own,.fz hd),y5,y6]):=by
 have hw:∀ d∈w,h.hands d≠[]:=fun d hd=>hands_ne ok (hz d hd)
 obtain ⟨hcw,hg⟩:=(fs_good hw).mp hb
 have hi:=List.idxOf_lt_length_of_mem hcw
 refine ⟨some (.own,.fz (.int (w.idxOf c:Int))),some (.own,.lst (((w.take (w.idxOf c)).map fun d=>D.bl (frB h c d)).map A.fz)),.inr ⟨_,rfl⟩,.inr ⟨_,rfl⟩,(s_pre (s1:=s1) ok (made:=made) (hz c hcw) (u:=w.take (w.idxOf c)) (fun d hd=>hz d (List.mem_of_mem_take hd)) (by rw [List.length_take]; lia) (fd_in hcw) (sl_hi (by lia)) h5 h6).trans ?_⟩
 have q:=x_all2 (ρ:=[some (s1,.fz h.d),some (.own,.fz (.str (tx (w)))),some (.own,.fz (.str (tx (made)))),some (.own,.fz (chD c)),some (.own,.fz hd),some (.own,.fz (.int (w.idxOf c:Int))),some (.own,.lst (((w.take (w.idxOf c)).map fun d=>D.bl (frB h c d)).map A.fz))]) (bs:=(w.take (w.idxOf c)).map (frB h c)) (by rw [List.map_map]; rfl) rfl
 rw [(all_fr h c _).mpr hg] at q
 refine (if_t (and_tf x_ge q (by simp))).trans ?_
 have m2:varM 2 [some (s1,.fz h.d),some (.own,.fz (.str (tx (w)))),some (.own,.fz (.str (tx (made)))),some (.own,.fz (chD c)),some (.own,.fz hd),some (.own,.fz (.int (w.idxOf c:Int))),some (.own,.lst (((w.take (w.idxOf c)).map fun d=>D.bl (frB h c d)).map A.fz))] = some (.val (.fz (.str (tx made))),[some (s1,.fz h.d),some (.own,.fz (.str (tx (w)))),some (.own,.fz (.str (tx (made)))),some (.own,.fz (chD c)),some (.own,.fz hd),some (.own,.fz (.int (w.idxOf c:Int))),some (.own,.lst (((w.take (w.idxOf c)).map fun d=>D.bl (frB h c d)).map A.fz))]):=rfl
 have m3:varM 3 [some (s1,.fz h.d),some (.own,.fz (.str (tx (w)))),some (.own,.fz (.str (tx (made)))),some (.own,.fz (chD c)),some (.own,.fz hd),some (.own,.fz (.int (w.idxOf c:Int))),some (.own,.lst (((w.take (w.idxOf c)).map fun d=>D.bl (frB h c d)).map A.fz))] = some (.val (.fz (.str (tx [c]))),[some (s1,.fz h.d),some (.own,.fz (.str (tx (w)))),some (.own,.fz (.str (tx (made)))),some (.own,.fz (chD c)),some (.own,.fz hd),some (.own,.fz (.int (w.idxOf c:Int))),some (.own,.lst (((w.take (w.idxOf c)).map fun d=>D.bl (frB h c d)).map A.fz))]):=rfl
 have st2:=asg_of (i:=2) (add_tx m2 m3 (by simp; lia)) rfl
 have e1:=sl_hi (cs:=w) (k:=w.idxOf c) (by lia)
 have e2:=sl_from (cs:=w) (k:=w.idxOf c + 1) (i:=(w.idxOf c:Int) + 1) (by lia) (by lia)
 have v1:(opM slHi (m2L (varM 1) (varM 5))) [some (s1,.fz h.d),some (.own,.fz (.str (tx (w)))),some (.own,.fz (.str (tx (made ++ [c])))),some (.own,.fz (chD c)),some (.own,.fz hd),some (.own,.fz (.int (w.idxOf c:Int))),some (.own,.lst (((w.take (w.idxOf c)).map fun d=>D.bl (frB h c d)).map A.fz))] = some (.val (.fz (.str (tx (w.take (w.idxOf c))))),[some (s1,.fz h.d),some (.own,.fz (.str (tx (w)))),some (.own,.fz (.str (tx (made ++ [c])))),some (.own,.fz (chD c)),some (.own,.fz hd),some (.own,.fz (.int (w.idxOf c:Int))),some (.own,.lst (((w.take (w.idxOf c)).map fun d=>D.bl (frB h c d)).map A.fz))]):=by
  clear st2 m2 m3 q hw hg hi hb hcw hz hl ok h5 h6 e2 hm
  generalize (w.take (w.idxOf c)).map (fun d=>D.bl (frB h c d)) = ds
  simp only [chD]
  generalize tx (made ++ [c]) = z2
  generalize tx w = z at e1 ⊢
  walk_at "eo"
 have v2:(opM slLo (m2L (varM 1) (opM addA (m2L (varM 5) (litM (.int 1)))))) [some (s1,.fz h.d),some (.own,.fz (.str (tx (w)))),some (.own,.fz (.str (tx (made ++ [c])))),some (.own,.fz (chD c)),some (.own,.fz hd),some (.own,.fz (.int (w.idxOf c:Int))),some (.own,.lst (((w.take (w.idxOf c)).map fun d=>D.bl (frB h c d)).map A.fz))] = some (.val (.fz (.str (tx (w.drop (w.idxOf c + 1))))),[some (s1,.fz h.d),some (.own,.fz (.str (tx (w)))),some (.own,.fz (.str (tx (made ++ [c])))),some (.own,.fz (chD c)),some (.own,.fz hd),some (.own,.fz (.int (w.idxOf c:Int))),some (.own,.lst (((w.take (w.idxOf c)).map fun d=>D.bl (frB h c d)).map A.fz))]):=by
  clear st2 m2 m3 q hw hg hi hb hcw hz hl ok h5 h6 e1 hm v1
  generalize (w.take (w.idxOf c)).map (fun d=>D.bl (frB h c d)) = ds
  simp only [chD]
  generalize tx (made ++ [c]) = z2
  generalize tx w = z at e2 ⊢
  walk_at "eo"
 have v3:=add_tx v1 v2 (by rw [List.length_take,List.length_drop]; lia)
 rw [cut_idx hcw] at v3
 have st1:=asg_of (i:=1) v3 rfl
 refine (seq_next st2).trans ?_
 exact (seq_next st1).trans rfl
theorem forL_brk {is:List Nat} {one:Bool} {b:MS} (Inv R:Ro→Prop):∀ {ds:List D} {ρ:Ro} (m:Nat),m < ds.length→Inv ρ → (∀ (j:Nat) d ρ,ds[j]? = some d→j < m→Inv ρ → ∃ ρ1 ρ2,bindS is one d ρ = some ρ1∧b ρ1 = some (.next ρ2)∧Inv ρ2)→(∀ d ρ,ds[m]? = some d→Inv ρ → ∃ ρ1 ρ2,bindS is one d ρ = some ρ1∧b ρ1 = some (.brk ρ2)∧R ρ2)→∃ ρ',forL is one b ds ρ = some (.next ρ')∧R ρ':=by
 intro ds
 induction ds with
 | nil=>intro ρ m h; simp at h
 | cons d ds ih =>
  intro ρ m h h0 hs he
  cases m with
  | zero =>
   obtain ⟨ρ1,ρ2,e1,e2,e3⟩:=he d ρ rfl h0
   exact ⟨ρ2,by simp [forL,e1,e2],e3⟩
  | succ m =>
   obtain ⟨ρ1,ρ2,e1,e2,e3⟩:=hs 0 d ρ rfl (by lia) h0
   obtain ⟨ρ',e4,e5⟩:=ih m (by simpa using h) e3 (fun j d ρ e hj hI=>hs (j + 1) d ρ (by simpa using e) (by lia) hI) (fun d ρ e hI=>he d ρ (by simpa using e) hI)
   exact ⟨ρ',by simp [forL,e1,e2,e4],e5⟩
theorem s_lowturn {s1:Own} {h:Hs} (ok:h.Ok) {w made:List Nat} (hz:∀ c∈w,c∈h.ls.map (·.1)) (hl:w.length≤40) (h0:w≠[]) (hm:made.length≤100) {x3 x4 x5 x6:Slot} (h3:(x3 = none∨∃ a,x3 = some (Own.own,a))) (h4:(x4 = none∨∃ a,x4 = some (Own.own,a))) (h5:(x5 = none∨∃ a,x5 = some (Own.own,a))) (h6:(x6 = none∨∃ a,x6 = some (Own.own,a))) :
  ∃ y3 y4 y5 y6,(y3 = none∨∃ a,y3 = some (Own.own,a))∧(y4 = none∨∃ a,y4 = some (Own.own,a))∧(y5 = none∨∃ a,y5 = some (Own.own,a))∧(y6 = none∨∃ a,y6 = some (Own.own,a))∧(forS [3,4] false (seqI (opM ixA (m2L (varM 0) (litM (.int 1))))) (seqS (asgS 5 (smeM findF (varM 1) (m1L (varM 3)))) (seqS (asgS 6 (compM (strI (opM slHi (m2L (varM 1) (varM 5)))) 0 (yesT) (callM fn__law_are_free (consM (varM 1) (consM (varM 4) (consM (varM 0) (nilM))))))) (ifS (andT (tstM (opM geA (m2L (varM 5) (litM (.int 0))))) (tstM (opM allA (consM (varM 6) (nilM))))) (seqS (asgS 2 (opM addA (m2L (varM 2) (varM 3)))) (seqS (asgS 1 (opM addA (m2L (opM slHi (m2L (varM 1) (varM 5))) (opM slLo (m2L (varM 1) (opM addA (m2L (varM 5) (litM (.int 1))))))))) (brkS))) (skipS))))) [some (s1,.fz h.d),some (.own,.fz (.str (tx (w)))),some (.own,.fz (.str (tx (made)))),x3,x4,x5,x6] = some (.next [some (s1,.fz h.d),some (.own,.fz (.str (tx (w.erase (lst (fs h.hands [] w)))))),some (.own,.fz (.str (tx (made ++ [lst (fs h.hands [] w)])))),y3,y4,y5,y6]):=by
 obtain ⟨lm,ll⟩:=lst_mem (fs_ne0 (f:=h.hands) h0)
 have lw:=fs_sub w [] _ lm
 generalize lst (fs h.hands [] w) = c at lm ll lw ⊢
 have hit:(seqI (opM ixA (m2L (varM 0) (litM (.int 1))))) [some (s1,.fz h.d),some (.own,.fz (.str (tx (w)))),some (.own,.fz (.str (tx (made)))),x3,x4,x5,x6] = some (h.ls.map ld,none,[some (s1,.fz h.d),some (.own,.fz (.str (tx (w)))),some (.own,.fz (.str (tx (made)))),x3,x4,x5,x6]):=by
  have e5:=at1 (D.int h.n) (.lst (h.ls.map ld)) []
  clear lm ll lw hz hl hm h3 h4 h5 h6 ok h0
  simp only [Hs.d]
  generalize tx w = z
  generalize tx made = z2
  walk_at "eo"
 obtain ⟨m,hm1,em⟩:=List.mem_iff_getElem.mp (hz c lw)
 rw [List.length_map] at hm1
 rw [List.getElem_map] at em
 obtain ⟨ρ',f1,f2⟩:=forL_brk (is:=[3,4]) (one:=false) (b:=(seqS (asgS 5 (smeM findF (varM 1) (m1L (varM 3)))) (seqS (asgS 6 (compM (strI (opM slHi (m2L (varM 1) (varM 5)))) 0 (yesT) (callM fn__law_are_free (consM (varM 1) (consM (varM 4) (consM (varM 0) (nilM))))))) (ifS (andT (tstM (opM geA (m2L (varM 5) (litM (.int 0))))) (tstM (opM allA (consM (varM 6) (nilM))))) (seqS (asgS 2 (opM addA (m2L (varM 2) (varM 3)))) (seqS (asgS 1 (opM addA (m2L (opM slHi (m2L (varM 1) (varM 5))) (opM slLo (m2L (varM 1) (opM addA (m2L (varM 5) (litM (.int 1))))))))) (brkS))) (skipS))))) (ds:=h.ls.map ld)
  (fun ρ=>∃ x3 x4 x5 x6,(x3 = none∨∃ a,x3 = some (Own.own,a))∧(x4 = none∨∃ a,x4 = some (Own.own,a))∧(x5 = none∨∃ a,x5 = some (Own.own,a))∧(x6 = none∨∃ a,x6 = some (Own.own,a)) ∧ ρ = [some (s1,.fz h.d),some (.own,.fz (.str (tx (w)))),some (.own,.fz (.str (tx (made)))),x3,x4,x5,x6])
  (fun ρ=>∃ x3 x4 x5 x6,(x3 = none∨∃ a,x3 = some (Own.own,a))∧(x4 = none∨∃ a,x4 = some (Own.own,a))∧(x5 = none∨∃ a,x5 = some (Own.own,a))∧(x6 = none∨∃ a,x6 = some (Own.own,a)) ∧ ρ = [some (s1,.fz h.d),some (.own,.fz (.str (tx (w.erase c)))),some (.own,.fz (.str (tx (made ++ [c])))),x3,x4,x5,x6]) m (by rw [List.length_map]; exact hm1) ⟨x3,x4,x5,x6,h3,h4,h5,h6,rfl⟩ (fun j d ρ hd hj hI=>by
   obtain ⟨x3,x4,x5,x6,h3,h4,h5,h6,rfl⟩:=hI
   have hjl:j < h.ls.length:=by lia
   rw [List.getElem?_map,List.getElem?_eq_getElem hjl,Option.map_some,Option.some.injEq] at hd
   subst hd
   have hlt:(h.ls[j]).1 < c:=by
    have:=List.pairwise_iff_getElem.mp ok.ri j m (by rw [List.length_map]; exact hjl) (by rw [List.length_map]; exact hm1) hj
    rw [List.getElem_map,List.getElem_map,em] at this
    exact this
   obtain ⟨y5,y6,k5,k6,q⟩:=s_bad (s1:=s1) ok hz hl h0 (made:=made) (c:=(h.ls[j]).1) (List.mem_map.mpr ⟨_,List.getElem_mem hjl,rfl⟩) (fun z=>by have:=ll _ z; lia) (hd:=.lst (iL (h.ls[j]).2)) h5 h6
   refine ⟨_,_,?_,q,some (.own,.fz (chD (h.ls[j]).1)),some (.own,.fz (.lst (iL (h.ls[j]).2))),y5,y6,.inr ⟨_,rfl⟩,.inr ⟨_,rfl⟩,k5,k6,rfl⟩
   rcases h3 with rfl | ⟨d,rfl⟩ <;> rcases h4 with rfl | ⟨d,rfl⟩ <;> rfl) (fun d ρ hd hI=>by
   obtain ⟨x3,x4,x5,x6,h3,h4,h5,h6,rfl⟩:=hI
   rw [List.getElem?_map,List.getElem?_eq_getElem hm1,Option.map_some,Option.some.injEq] at hd
   subst hd
   obtain ⟨y5,y6,k5,k6,q⟩:=s_good (s1:=s1) ok hz hl hm lm (hd:=.lst (iL (h.ls[m]).2)) h5 h6
   refine ⟨_,_,?_,q,some (.own,.fz (chD c)),some (.own,.fz (.lst (iL (h.ls[m]).2))),y5,y6,.inr ⟨_,rfl⟩,.inr ⟨_,rfl⟩,k5,k6,rfl⟩
   rw [← em]
   rcases h3 with rfl | ⟨d,rfl⟩ <;> rcases h4 with rfl | ⟨d,rfl⟩ <;> rfl)
 obtain ⟨y3,y4,y5,y6,k3,k4,k5,k6,rfl⟩:=f2
 refine ⟨y3,y4,y5,y6,k3,k4,k5,k6,?_⟩
 simp only [forS,hit,Option.bind_some,lock,f1,Option.map_some,unlockF,unlock]
theorem ne_empty (w:List Nat):eqD (.str (tx w)) (.str (Str.ofString "")) = w.isEmpty:=by
 cases w with
 | nil=>rfl
 | cons c w =>
  simp only [eqD]
  have:¬ (tx (c :: w) = Str.ofString ""):=fun e=>by
   have:=congrArg Str.length e
   rw [tx_len] at this
   have e2:(Str.ofString "").length = 0:=by decide +kernel
   rw [e2] at this
   simp at this
  simp [this]
theorem s_lowloop {s1:Own} {h:Hs} (ok:h.Ok):∀ (n m:Nat) (w made:List Nat) (x3 x4 x5 x6:Slot),w.length < n→w.length≤m→(∀ c∈w,c∈h.ls.map (·.1))→w.length≤40→made.length + w.length≤100→(x3 = none∨∃ a,x3 = some (Own.own,a))→(x4 = none∨∃ a,x4 = some (Own.own,a))→(x5 = none∨∃ a,x5 = some (Own.own,a))→(x6 = none∨∃ a,x6 = some (Own.own,a)) →
  ∃ y3 y4 y5 y6,whileN (tstM (opM neA (m2L (varM 1) (litM (.str (Str.ofString "")))))) (forS [3,4] false (seqI (opM ixA (m2L (varM 0) (litM (.int 1))))) (seqS (asgS 5 (smeM findF (varM 1) (m1L (varM 3)))) (seqS (asgS 6 (compM (strI (opM slHi (m2L (varM 1) (varM 5)))) 0 (yesT) (callM fn__law_are_free (consM (varM 1) (consM (varM 4) (consM (varM 0) (nilM))))))) (ifS (andT (tstM (opM geA (m2L (varM 5) (litM (.int 0))))) (tstM (opM allA (consM (varM 6) (nilM))))) (seqS (asgS 2 (opM addA (m2L (varM 2) (varM 3)))) (seqS (asgS 1 (opM addA (m2L (opM slHi (m2L (varM 1) (varM 5))) (opM slLo (m2L (varM 1) (opM addA (m2L (varM 5) (litM (.int 1))))))))) (brkS))) (skipS))))) n [some (s1,.fz h.d),some (.own,.fz (.str (tx (w)))),some (.own,.fz (.str (tx (made)))),x3,x4,x5,x6] = some (.next [some (s1,.fz h.d),some (.own,.fz (.str (tx ([])))),some (.own,.fz (.str (tx (made ++ lr h.hands m w)))),y3,y4,y5,y6]):=by
 intro n
 induction n with
 | zero=>intro m w made x3 x4 x5 x6 h1; lia
 | succ n ih =>
  intro m w made x3 x4 x5 x6 h1 h2 hz hl ha h3 h4 h5 h6
  have et:tstM (opM neA (m2L (varM 1) (litM (.str (Str.ofString ""))))) [some (s1,.fz h.d),some (.own,.fz (.str (tx (w)))),some (.own,.fz (.str (tx (made)))),x3,x4,x5,x6] = some (!w.isEmpty,[some (s1,.fz h.d),some (.own,.fz (.str (tx (w)))),some (.own,.fz (.str (tx (made)))),x3,x4,x5,x6]):=by
   have g1:shB 16 (.str (tx w)) = true:=rfl
   have g2:=ne_empty w
   refine tst_of ?_
   simp only [opM,m2L,consM,nilM,varM,litM,List.getElem?_cons_zero,List.getElem?_cons_succ,Option.bind_some,Option.map_some,peeks,peek,neA,er,g1,g2,if_true]
  by_cases h0:w = []
  ·subst h0
   have e:lr h.hands m [] = []:=by cases m <;> rfl
   rw [e,List.append_nil]
   refine ⟨x3,x4,x5,x6,?_⟩
   simp only [whileN,et]
   rfl
  ·cases m with
   | zero=>exact absurd (List.length_eq_zero_iff.mp (by lia)) h0
   | succ m =>
    obtain ⟨z3,z4,z5,z6,k3,k4,k5,k6,st⟩:=s_lowturn (s1:=s1) ok hz hl h0 (made:=made) (by lia) h3 h4 h5 h6
    have hm:=fs_sub w [] _ (lst_mem (fs_ne0 (f:=h.hands) h0)).1
    have le:=List.length_erase_of_mem hm
    have wl:0 < w.length:=List.length_pos_iff.mpr h0
    obtain ⟨y3,y4,y5,y6,e⟩:=ih m (w.erase (lst (fs h.hands [] w))) (made ++ [lst (fs h.hands [] w)]) z3 z4 z5 z6 (by lia) (by lia) (fun c hc=>hz c (List.mem_of_mem_erase hc)) (by lia) (by simp; lia) k3 k4 k5 k6
    refine ⟨y3,y4,y5,y6,?_⟩
    have eb:(!w.isEmpty) = true:=by cases w with | nil=>exact absurd rfl h0 | cons c w=>rfl
    rw [eb] at et
    simp only [whileN,et,Option.bind_some,if_true,st]
    rw [e,lr_succ m h0]
    simp
theorem s_lowest (s1:Own) (h:Hs) (ok:h.Ok) (cs:List Nat) (hz:∀ c∈cs,c∈h.ls.map (·.1)) (hl:cs.length≤40):∃ a1 a2,fn__law_lowest [(s1,.fz h.d),(.own,.fz (.str (tx cs)))] = some (.fz (.str (tx (lr h.hands 40 cs))),[a1,a2]):=by
 obtain ⟨y3,y4,y5,y6,e2⟩:=s_lowloop (s1:=s1) ok 41 40 cs [] none none none none (by lia) hl hz hl (by simp; lia) (.inl rfl) (.inl rfl) (.inl rfl) (.inl rfl)
 rw [List.nil_append] at e2
 refine ⟨_,_,fn_ret (ρ:=[some (s1,.fz h.d),some (.own,.fz (.str (tx ([])))),some (.own,.fz (.str (tx (lr h.hands 40 cs)))),y3,y4,y5,y6]) rfl ?_⟩
 show den__law_lowest [some (s1,.fz h.d),some (.own,.fz (.str (tx cs))),none,none,none,none,none] = _
 unfold den__law_lowest
 refine (seq_next (ρ1:=[some (s1,.fz h.d),some (.own,.fz (.str (tx (cs)))),some (.own,.fz (.str (tx ([])))),none,none,none,none]) ?_).trans ?_
 ·rfl
 refine (seq_next e2).trans ?_
 rfl
theorem cnt_count (c:Nat) (l:List Nat):PyProof.Rows.cnt c l = (l.count c:Int):=by
 induction l with
 | nil=>rfl
 | cons a l ih =>
  rw [PyProof.Rows.cnt_cons,ih,List.count_cons]
  by_cases e:a = c
  ·simp [e]; lia
  ·simp [e]
theorem tx_count (u:List Nat) (c:Nat):Txt.count (tx u) ⟨#[c]⟩ = (u.count c:Int):=by
 rw [PyProof.Rows.count_cnt,tx_list,cnt_count]
theorem valD_cons (k j:Key) (d:D) (kvs:List (Key × D)):valD ((k,d) :: kvs) j = if k = j then some d else valD kvs j:=by
 simp only [valD,List.find?_cons]
 by_cases e:k = j <;> simp [e]
theorem valD_put (k:Key) (d:D) (j:Key) (kvs:List (Key × D)):valD (putD kvs k d) j = if k = j then some d else valD kvs j:=by
 have hmap:∀ kvs:List (Key × D),valD (kvs.map fun kv=>if kv.1 = k then (kv.1,d) else kv) j = (valD kvs j).map fun x=>if k = j then d else x:=by
  intro kvs
  induction kvs with
  | nil=>rfl
  | cons p kvs ih =>
   obtain ⟨a,b⟩:=p
   rw [List.map_cons,valD_cons]
   dsimp only
   by_cases e:a = k
   ·subst e
    rw [if_pos rfl,valD_cons,ih]
    by_cases q:a = j <;> simp [q]
   ·rw [if_neg e,valD_cons,ih]
    by_cases q:a = j
    ·subst q; simp [Ne.symm e]
    ·simp [q]
 have hany:∀ kvs:List (Key × D),(kvs.any fun kv=>decide (kv.1 = k)) = (valD kvs k).isSome:=by
  intro kvs
  induction kvs with
  | nil=>rfl
  | cons p kvs ih =>
   obtain ⟨a,b⟩:=p
   rw [List.any_cons,valD_cons,ih]
   by_cases e:a = k <;> simp [e]
 have hsn:∀ kvs:List (Key × D),valD kvs k = none→valD (kvs ++ [(k,d)]) j = if k = j then some d else valD kvs j:=by
  intro kvs
  induction kvs with
  | nil=>intro _; rw [List.nil_append,valD_cons]
  | cons p kvs ih =>
   obtain ⟨a,b⟩:=p
   intro h
   rw [valD_cons] at h
   by_cases e:a = k
   ·simp [e] at h
   ·rw [if_neg e] at h
    rw [List.cons_append,valD_cons,valD_cons,ih h]
    by_cases q:k = j
    ·subst q; simp [e]
    ·simp [q]
 unfold putD
 rw [hany]
 cases hv:valD kvs k with
 | none=>simp only [Option.isSome_none,Bool.false_eq_true,if_false]; exact hsn kvs hv
 | some x =>
  simp only [Option.isSome_some,if_true]
  rw [hmap]
  by_cases q:k = j
  ·subst q; simp [hv]
  ·simp [q]
theorem putD_len (kvs:List (Key × D)) (k:Key) (d:D):(putD kvs k d).length≤kvs.length + 1:=by
 unfold putD; split <;> simp
theorem dput_of {i:Nat} {mk me:ME} {ρ:Ro} {st:Own} {kvs:List (Key × D)} {ds:List D} {k:Key} {kd:D} (h1:me ρ = some (.val (.lst (ds.map A.fz)),ρ)) (h0:heldD ρ i = some (st,kvs)) (h2:mk ρ = some (.val (.fz kd),ρ)) (hk:keyD kd = some k) (hl:kvs.length < LIM):dputS i mk me ρ = some (.next (ρ.set i (some (st,.dic (putD kvs k (.lst ds)))))):=by
 simp [dputS,h1,share_lst,h0,h2,hk,hl]
theorem dget_of {i:Nat} {mk me:ME} {ρ:Ro} {st:Own} {kvs:List (Key × D)} {d:D} {k:Key} {kd:D} (h0:heldD ρ i = some (st,kvs)) (h2:mk ρ = some (.val (.fz kd),ρ)) (h1:me ρ = some (.val (.fz d),ρ)) (hk:keyD kd = some k):dgetM i mk me ρ = some (.val (.fz ((valD kvs k).getD d)),ρ):=by
 simp [dgetM,h1,h0,h2,hk]
theorem s_occ {s1 s2:Own} {w low:List Nat} {kvs:List (Key × D)} {t:Nat} {c:Nat} {l:List Nat} (hv:(valD kvs (Sum.inr (⟨#[c]⟩:Str):Key)).getD (.lst []) = .lst (iL ((l).map fun (i:Nat)=>(i:Int)))) (hl:l.length≤1000) (hk:kvs.length≤1000) {x5:Slot} :
  (dputS 2 (varM 4) (opM addA (m2L (dgetM 2 (varM 4) (plainM (lstM (nilM)))) (lstM (consM (plainM (varM 3)) (nilM)))))) [some (s1,.fz (.str (tx w))),some (s2,.fz (.str (tx low))),some (.own,.dic kvs),some (.own,.fz (.int (t:Int))),some (.own,.fz (.str ⟨#[c]⟩)),x5] = some (.next [some (s1,.fz (.str (tx w))),some (s2,.fz (.str (tx low))),some (.own,.dic (putD kvs (Sum.inr (⟨#[c]⟩:Str):Key) (.lst (iL ((l ++ [t]).map fun (i:Nat)=>(i:Int)))))),some (.own,.fz (.int (t:Int))),some (.own,.fz (.str ⟨#[c]⟩)),x5]):=by
 have hlim:10000≤LIM:=by decide
 have g1:=dget_of (i:=2) (mk:=varM 4) (me:=plainM (lstM (nilM))) (ρ:=[some (s1,.fz (.str (tx w))),some (s2,.fz (.str (tx low))),some (.own,.dic kvs),some (.own,.fz (.int (t:Int))),some (.own,.fz (.str ⟨#[c]⟩)),x5]) (st:=.own) (kvs:=kvs) (d:=.lst []) (k:=(Sum.inr (⟨#[c]⟩:Str):Key)) (kd:=.str ⟨#[c]⟩) rfl rfl rfl rfl
 rw [hv] at g1
 have g2:(lstM (consM (plainM (varM 3)) (nilM))) [some (s1,.fz (.str (tx w))),some (s2,.fz (.str (tx low))),some (.own,.dic kvs),some (.own,.fz (.int (t:Int))),some (.own,.fz (.str ⟨#[c]⟩)),x5] = some (.val (.lst [A.fz (.int (t:Int))]),[some (s1,.fz (.str (tx w))),some (s2,.fz (.str (tx low))),some (.own,.dic kvs),some (.own,.fz (.int (t:Int))),some (.own,.fz (.str ⟨#[c]⟩)),x5]):=rfl
 have g3:(opM addA (m2L (dgetM 2 (varM 4) (plainM (lstM (nilM)))) (lstM (consM (plainM (varM 3)) (nilM))))) [some (s1,.fz (.str (tx w))),some (s2,.fz (.str (tx low))),some (.own,.dic kvs),some (.own,.fz (.int (t:Int))),some (.own,.fz (.str ⟨#[c]⟩)),x5] = some (.val (.lst ((iL ((l ++ [t]).map fun (i:Nat)=>(i:Int))).map A.fz)),[some (s1,.fz (.str (tx w))),some (s2,.fz (.str (tx low))),some (.own,.dic kvs),some (.own,.fz (.int (t:Int))),some (.own,.fz (.str ⟨#[c]⟩)),x5]):=by
  have l1:((((iL ((l).map fun (i:Nat)=>(i:Int))).length) + 1≤LIM)) = True:=by simp only [iL,List.length_map,eq_iff_iff,iff_true]; lia
  have e4:(iL ((l).map fun (i:Nat)=>(i:Int))) ++ [D.int (t:Int)] = (iL ((l ++ [t]).map fun (i:Nat)=>(i:Int))):=by simp [iL]
  simp only [opM,m2L,consM,nilM,g1,g2,Option.bind_some,Option.map_some,peeks,peek]
  clear g1 g2 hv hl hk hlim
  generalize (iL ((l ++ [t]).map fun (i:Nat)=>(i:Int))) = ds2 at e4 ⊢
  generalize (iL ((l).map fun (i:Nat)=>(i:Int))) = ds at l1 e4 ⊢
  simp only [addA,intU,strU,fzU,intV,strV,lstA,fzs,Option.bind_none,Option.none_or,Option.bind_some,Option.map_some,List.length_cons,List.length_nil,Nat.zero_add,l1,if_true,e4]
 exact dput_of (i:=2) g3 rfl rfl rfl (by lia)
theorem s_spot {s1 s2:Own} {w low:List Nat} {kvs:List (Key × D)} {t:Nat} {c:Nat} {l acc:List Nat} (hv:valD kvs (Sum.inr (⟨#[c]⟩:Str):Key) = some (.lst (iL ((l).map fun (i:Nat)=>(i:Int))))) (ht:t≤w.length) (hi:(w.take t).count c < l.length) (ha:acc.length≤1000) :
  (appS 5 (opM ixA (m2L (opM dixA (m2L (varM 2) (varM 4))) (smeM countF (opM slHi (m2L (varM 0) (varM 3))) (m1L (varM 4)))))) [some (s1,.fz (.str (tx w))),some (s2,.fz (.str (tx low))),some (.own,.dic kvs),some (.own,.fz (.int (t:Int))),some (.own,.fz (.str ⟨#[c]⟩)),some (.own,hL ((acc).map fun (i:Nat)=>(i:Int)))] = some (.next [some (s1,.fz (.str (tx w))),some (s2,.fz (.str (tx low))),some (.own,.dic kvs),some (.own,.fz (.int (t:Int))),some (.own,.fz (.str ⟨#[c]⟩)),some (.own,hL ((acc ++ [l.getD ((w.take t).count c) 0]).map fun (i:Nat)=>(i:Int)))]):=by
 have es:=sl_hi (cs:=w) (k:=t) ht
 have g0:opM slHi (m2L (varM 0) (varM 3)) [some (s1,.fz (.str (tx w))),some (s2,.fz (.str (tx low))),some (.own,.dic kvs),some (.own,.fz (.int (t:Int))),some (.own,.fz (.str ⟨#[c]⟩)),some (.own,hL ((acc).map fun (i:Nat)=>(i:Int)))] = some (.val (.fz (.str (tx (w.take t)))),[some (s1,.fz (.str (tx w))),some (s2,.fz (.str (tx low))),some (.own,.dic kvs),some (.own,.fz (.int (t:Int))),some (.own,.fz (.str ⟨#[c]⟩)),some (.own,hL ((acc).map fun (i:Nat)=>(i:Int)))]):=by
  clear hv ht hi ha
  simp only [hL]
  generalize (iL ((acc).map fun (i:Nat)=>(i:Int))) = ds
  generalize tx low = z2
  generalize tx w = z at es ⊢
  walk_at "eo"
 have g1:(smeM countF (opM slHi (m2L (varM 0) (varM 3))) (m1L (varM 4))) [some (s1,.fz (.str (tx w))),some (s2,.fz (.str (tx low))),some (.own,.dic kvs),some (.own,.fz (.int (t:Int))),some (.own,.fz (.str ⟨#[c]⟩)),some (.own,hL ((acc).map fun (i:Nat)=>(i:Int)))] = some (.val (.fz (.int ((w.take t).count c:Int))),[some (s1,.fz (.str (tx w))),some (s2,.fz (.str (tx low))),some (.own,.dic kvs),some (.own,.fz (.int (t:Int))),some (.own,.fz (.str ⟨#[c]⟩)),some (.own,hL ((acc).map fun (i:Nat)=>(i:Int)))]):=by
  have q:=tx_count (w.take t) c
  have v4:varM 4 [some (s1,.fz (.str (tx w))),some (s2,.fz (.str (tx low))),some (.own,.dic kvs),some (.own,.fz (.int (t:Int))),some (.own,.fz (.str ⟨#[c]⟩)),some (.own,hL ((acc).map fun (i:Nat)=>(i:Int)))] = some (.val (.fz (.str ⟨#[c]⟩)),[some (s1,.fz (.str (tx w))),some (s2,.fz (.str (tx low))),some (.own,.dic kvs),some (.own,.fz (.int (t:Int))),some (.own,.fz (.str ⟨#[c]⟩)),some (.own,hL ((acc).map fun (i:Nat)=>(i:Int)))]):=rfl
  simp only [smeM,g0,Option.bind_some,m1L,consM,nilM,v4,Option.map_some,peeks,peek,countF,q]
 have g2:(opM dixA (m2L (varM 2) (varM 4))) [some (s1,.fz (.str (tx w))),some (s2,.fz (.str (tx low))),some (.own,.dic kvs),some (.own,.fz (.int (t:Int))),some (.own,.fz (.str ⟨#[c]⟩)),some (.own,hL ((acc).map fun (i:Nat)=>(i:Int)))] = some (.val (.fz (.lst (iL ((l).map fun (i:Nat)=>(i:Int))))),[some (s1,.fz (.str (tx w))),some (s2,.fz (.str (tx low))),some (.own,.dic kvs),some (.own,.fz (.int (t:Int))),some (.own,.fz (.str ⟨#[c]⟩)),some (.own,hL ((acc).map fun (i:Nat)=>(i:Int)))]):=by
  have v2:varM 2 [some (s1,.fz (.str (tx w))),some (s2,.fz (.str (tx low))),some (.own,.dic kvs),some (.own,.fz (.int (t:Int))),some (.own,.fz (.str ⟨#[c]⟩)),some (.own,hL ((acc).map fun (i:Nat)=>(i:Int)))] = some (.ref 2,[some (s1,.fz (.str (tx w))),some (s2,.fz (.str (tx low))),some (.own,.dic kvs),some (.own,.fz (.int (t:Int))),some (.own,.fz (.str ⟨#[c]⟩)),some (.own,hL ((acc).map fun (i:Nat)=>(i:Int)))]):=rfl
  have v4:varM 4 [some (s1,.fz (.str (tx w))),some (s2,.fz (.str (tx low))),some (.own,.dic kvs),some (.own,.fz (.int (t:Int))),some (.own,.fz (.str ⟨#[c]⟩)),some (.own,hL ((acc).map fun (i:Nat)=>(i:Int)))] = some (.val (.fz (.str ⟨#[c]⟩)),[some (s1,.fz (.str (tx w))),some (s2,.fz (.str (tx low))),some (.own,.dic kvs),some (.own,.fz (.int (t:Int))),some (.own,.fz (.str ⟨#[c]⟩)),some (.own,hL ((acc).map fun (i:Nat)=>(i:Int)))]):=rfl
  simp only [opM,m2L,consM,nilM,v2,v4,Option.bind_some,Option.map_some,peeks,peek,List.getElem?_cons_zero,List.getElem?_cons_succ,dixA,keyD,hv]
 have g3:(opM ixA (m2L (opM dixA (m2L (varM 2) (varM 4))) (smeM countF (opM slHi (m2L (varM 0) (varM 3))) (m1L (varM 4))))) [some (s1,.fz (.str (tx w))),some (s2,.fz (.str (tx low))),some (.own,.dic kvs),some (.own,.fz (.int (t:Int))),some (.own,.fz (.str ⟨#[c]⟩)),some (.own,hL ((acc).map fun (i:Nat)=>(i:Int)))] = some (.val (.fz (.int ((l.getD ((w.take t).count c) 0:Nat):Int))),[some (s1,.fz (.str (tx w))),some (s2,.fz (.str (tx low))),some (.own,.dic kvs),some (.own,.fz (.int (t:Int))),some (.own,.fz (.str ⟨#[c]⟩)),some (.own,hL ((acc).map fun (i:Nat)=>(i:Int)))]):=by
  have q:atI (iL ((l).map fun (i:Nat)=>(i:Int))) ((w.take t).count c:Int) = some (.int ((l.getD ((w.take t).count c) 0:Nat):Int)):=by
   rw [atI_get (k:=(w.take t).count c) rfl (by simp only [iL,List.length_map]; exact hi)]
   simp [iL,List.getD_eq_getElem?_getD,hi]
  generalize (opM dixA (m2L (varM 2) (varM 4))) = Za at g2 ⊢
  generalize (smeM countF (opM slHi (m2L (varM 0) (varM 3))) (m1L (varM 4))) = Zb at g1 ⊢
  simp only [opM,m2L,consM,nilM,g1,g2,Option.bind_some,Option.map_some,peeks,peek,ixA,intU,strU,fzU,intV,strV,Option.bind_none,Option.none_or,itemsA,q]
 have st:=app_of (i:=5) (st:=.own) (as:=(iL ((acc).map fun (i:Nat)=>(i:Int))).map A.fz) (ρ:=[some (s1,.fz (.str (tx w))),some (s2,.fz (.str (tx low))),some (.own,.dic kvs),some (.own,.fz (.int (t:Int))),some (.own,.fz (.str ⟨#[c]⟩)),some (.own,hL ((acc).map fun (i:Nat)=>(i:Int)))]) rfl g3 (by
  have hlim:10000≤LIM:=by decide
  simp only [iL,List.length_map]; lia)
 have ea:(iL ((acc).map fun (i:Nat)=>(i:Int))).map A.fz ++ [A.fz (.int ((l.getD ((w.take t).count c) 0:Nat):Int))] = (iL ((acc ++ [l.getD ((w.take t).count c) 0]).map fun (i:Nat)=>(i:Int))).map A.fz:=by simp [iL]
 rw [ea] at st
 exact st
theorem take_sn {cs:List Nat} {j:Nat} (hj:j < cs.length):cs.take (j + 1) = cs.take j ++ [cs.getD j 0]:=by
 rw [List.take_add_one,List.getD_eq_getElem?_getD,List.getElem?_eq_getElem hj]; rfl
theorem occ_le (l:List Nat) (c:Nat):(occ 0 l c).length≤l.length:=by rw [occ_len]; exact List.count_le_length
theorem en_of {i:Nat} {cs:List Nat} {ρ:Ro} (hl:cs.length≤40) (e:varM i ρ = some (.val (.fz (.str (tx cs))),ρ)):enumI (varM i) ρ = some (numsD (tx cs),none,ρ):=by
 have hlim:1000≤LIM:=by decide
 have e3:((tx cs).length≤LIM) = True:=by rw [tx_len]; simp; lia
 simp only [enumI,e,Option.bind_some,e3,if_true]
theorem s_places (s1 s2:Own) (w low:List Nat) (hl:w.length≤40) (pm:low.Perm w):∃ a1 a2,fn__law_places [(s1,.fz (.str (tx w))),(s2,.fz (.str (tx low)))] = some (hL ((sp low [] w).map fun (i:Nat)=>(i:Int)),[a1,a2]):=by
 have hl2:low.length≤40:=by rw [pm.length_eq]; exact hl
 have it1:=en_of (i:=1) (cs:=low) (ρ:=[some (s1,.fz (.str (tx w))),some (s2,.fz (.str (tx low))),some (.own,.dic []),none,none,none]) hl2 rfl
 obtain ⟨ρ',f1,f2⟩:=forS_inv (is:=[3,4]) (one:=false) (b:=(dputS 2 (varM 4) (opM addA (m2L (dgetM 2 (varM 4) (plainM (lstM (nilM)))) (lstM (consM (plainM (varM 3)) (nilM)))))))
  (fun t ρ=>∃ (kvs:List (Key × D)) (x3 x4:Slot),t≤low.length∧kvs.length≤t∧(∀ c:Nat,(valD kvs (Sum.inr (⟨#[c]⟩:Str):Key)).getD (.lst []) = .lst (iL ((occ 0 (low.take t) c).map fun (i:Nat)=>(i:Int))))∧(x3 = none∨∃ d,x3 = some (Own.own,A.fz d))∧(x4 = none∨∃ d,x4 = some (Own.own,A.fz d)) ∧ ρ = [some (s1,.fz (.str (tx w))),some (s2,.fz (.str (tx low))),some (.own,.dic kvs),x3,x4,none]) it1 ⟨[],none,none,Nat.zero_le _,Nat.le_refl _,fun c=>rfl,.inl rfl,.inl rfl,rfl⟩ (fun t d ρ hd hI=>by
   obtain ⟨kvs,x3,x4,ht,hk,hv,h3,h4,rfl⟩:=hI
   obtain ⟨rfl,hj⟩:=num_get hd
   rw [tx_len] at hj
   have ec:(tx low).cps.getD t 0 = low.getD t 0:=by rw [getD_cps]; rfl
   rw [ec]
   have q:=s_occ (s1:=s1) (s2:=s2) (w:=w) (low:=low) (t:=t) (x5:=none) (hv (low.getD t 0)) (by have:=occ_le (low.take t) (low.getD t 0); rw [List.length_take] at this; lia) (by lia)
   refine ⟨_,_,?_,.inl q,_,_,_,hj,?_,fun c=>?_,.inr ⟨_,rfl⟩,.inr ⟨_,rfl⟩,rfl⟩
   ·rcases h3 with rfl | ⟨d,rfl⟩ <;> rcases h4 with rfl | ⟨d,rfl⟩ <;> rfl
   ·have:=putD_len kvs (Sum.inr (⟨#[low.getD t 0]⟩:Str):Key) (.lst (iL ((occ 0 (low.take t) (low.getD t 0) ++ [t]).map fun (i:Nat)=>(i:Int)))); lia
   ·rw [valD_put,take_sn hj,occ_snoc]
    have tl:(low.take t).length = t:=by rw [List.length_take]; lia
    by_cases e:low.getD t 0 = c
    ·rw [if_pos (by rw [e]),if_pos e,Option.getD_some,e,Nat.zero_add,tl]
    ·have:¬ ((Sum.inr (⟨#[low.getD t 0]⟩:Str):Key) = Sum.inr (⟨#[c]⟩:Str)):=fun z=>by
      simp at z
      exact e (by simpa using z)
     rw [if_neg this,if_neg e,List.append_nil]
     exact hv c)
 obtain ⟨kvs,x3,x4,_,_,hv,h3,h4,rfl⟩:=f2
 have nl:∀ cs:List Nat,(numsD (tx cs)).length = cs.length:=fun cs=>by simp [numsD,tx]
 rw [nl,List.take_length] at hv
 have it2:=en_of (i:=0) (cs:=w) (ρ:=[some (s1,.fz (.str (tx w))),some (s2,.fz (.str (tx low))),some (.own,.dic kvs),x3,x4,some (.own,hL ((sp low [] (w.take 0)).map fun (i:Nat)=>(i:Int)))]) hl rfl
 obtain ⟨ρ2,g1,g2⟩:=forS_inv (is:=[3,4]) (one:=false) (b:=(appS 5 (opM ixA (m2L (opM dixA (m2L (varM 2) (varM 4))) (smeM countF (opM slHi (m2L (varM 0) (varM 3))) (m1L (varM 4)))))))
  (fun t ρ=>∃ (x3 x4:Slot),(x3 = none∨∃ d,x3 = some (Own.own,A.fz d))∧(x4 = none∨∃ d,x4 = some (Own.own,A.fz d)) ∧ ρ = [some (s1,.fz (.str (tx w))),some (s2,.fz (.str (tx low))),some (.own,.dic kvs),x3,x4,some (.own,hL ((sp low [] (w.take t)).map fun (i:Nat)=>(i:Int)))]) it2 ⟨x3,x4,h3,h4,rfl⟩ (fun t d ρ hd hI=>by
   obtain ⟨x3,x4,h3,h4,rfl⟩:=hI
   obtain ⟨rfl,hj⟩:=num_get hd
   rw [tx_len] at hj
   have ec:(tx w).cps.getD t 0 = w.getD t 0:=by rw [getD_cps]; rfl
   rw [ec]
   have hc:(w.take t).count (w.getD t 0) < (occ 0 low (w.getD t 0)).length:=by
    rw [occ_len,pm.count_eq]
    have h1:(w.take (t + 1)).count (w.getD t 0)≤w.count (w.getD t 0):=(List.take_sublist _ _).count_le _
    rw [take_sn hj,List.count_append] at h1
    simp at h1
    exact h1
   have hv2:valD kvs (Sum.inr (⟨#[w.getD t 0]⟩:Str):Key) = some (.lst (iL ((occ 0 low (w.getD t 0)).map fun (i:Nat)=>(i:Int)))):=by
    have:=hv (w.getD t 0)
    cases hx:valD kvs (Sum.inr (⟨#[w.getD t 0]⟩:Str):Key) with
    | none =>
     rw [hx] at this
     rw [Option.getD_none] at this
     have e:=congrArg (fun d=>match d with | D.lst ds=>ds.length | _=>0) this
     simp only [iL,List.length_map,List.length_nil] at e
     lia
    | some d=>rw [hx] at this; exact congrArg some this
   have q:=s_spot (s1:=s1) (s2:=s2) (w:=w) (low:=low) (t:=t) (acc:=sp low [] (w.take t)) hv2 (by lia) hc (by rw [sp_len,List.length_take]; lia)
   refine ⟨_,_,?_,.inl q,some (.own,.fz (.int (t:Int))),some (.own,.fz (.str ⟨#[w.getD t 0]⟩)),.inr ⟨_,rfl⟩,.inr ⟨_,rfl⟩,?_⟩
   ·rcases h3 with rfl | ⟨d,rfl⟩ <;> rcases h4 with rfl | ⟨d,rfl⟩ <;> rfl
   ·rw [take_sn hj,sp_app]
    rfl)
 obtain ⟨y3,y4,_,_,rfl⟩:=g2
 rw [nl,List.take_length] at g1
 refine ⟨_,_,fn_ret (ρ:=[some (s1,.fz (.str (tx w))),some (s2,.fz (.str (tx low))),some (.own,.dic kvs),y3,y4,none]) rfl ?_⟩
 show den__law_places [some (s1,.fz (.str (tx w))),some (s2,.fz (.str (tx low))),none,none,none,none] = _
 unfold den__law_places
 refine (seq_next (ρ1:=[some (s1,.fz (.str (tx w))),some (s2,.fz (.str (tx low))),some (.own,.dic []),none,none,none]) rfl).trans ?_
 refine (seq_next f1).trans ?_
 refine (seq_next (ρ1:=[some (s1,.fz (.str (tx w))),some (s2,.fz (.str (tx low))),some (.own,.dic kvs),x3,x4,some (.own,hL ((sp low [] (w.take 0)).map fun (i:Nat)=>(i:Int)))]) rfl).trans ?_
 refine (seq_next g1).trans ?_
 rfl
theorem rng2_of {m1 m2:ME} {ρ ρ1 ρ2:Ro} {i j:Int} (h1:m1 ρ = some (.val (.fz (.int i)),ρ1)) (h2:m2 ρ1 = some (.val (.fz (.int j)),ρ2)) (hi:0≤i∧i≤1000000) (hj:0≤j∧j≤1000000):rngI2 m1 m2 ρ = some (upto i (j - i).toNat,none,ρ2):=by
 have e:(-(2 ^ 62)≤i∧i < 2 ^ 62 ∧ -(2 ^ 62)≤j∧j < 2 ^ 62) = True:=by simp only [eq_iff_iff,iff_true]; lia
 simp only [rngI2,m2L,consM,nilM,h1,h2,Option.bind_some,Option.map_some,e,if_true]
theorem seq_val {m:ME} {ρ ρ1:Ro} {ds:List D} (h:m ρ = some (.val (.lst (ds.map A.fz)),ρ1)):seqI m ρ = some (ds,none,ρ1):=by
 simp [seqI,h,peek,itemsA,fzs_map,nameOf]
theorem cut_take (ds:List D) (j:Nat) (hj:j≤ds.length):cutD ds none (some (j:Int)) = ds.take j:=by
 have e0:HT.sIx ds.length 0 none = 0:=rfl
 have e1:HT.sIx ds.length ds.length (some (j:Int)) = j:=by rw [HT.sIx_nat]; lia
 unfold cutD
 rw [e0,e1]
 simp
theorem or_ff {a b:MT} {ρ ρ1 ρ2:Ro} (h1:a ρ = some (false,ρ1)) (h2:b ρ1 = some (false,ρ2)):orT a b ρ = some (false,ρ2):=by simp [orT,h1,h2]
theorem er_ds (ds:List D):er (.lst (ds.map A.fz)) = some (.lst ds):=by simp only [er,ers_map,Option.map_some]
noncomputable def gtI (x:Int) (d:D):Bool:=decide (x < nD d)
theorem s_inv {ns:List Int} {h:Hs} {k:Nat} {cs low sl:List Nat} {n j:Nat} (hj:j < sl.length) (hl:sl.length≤40) {x9 x10:Slot} :
  (asgS 7 (opM addA (m2L (varM 7) (opM lenA (consM (compM (seqI (opM lslHi (m2L (varM 6) (varM 8)))) 0 (tstM (opM gtA (m2L (varM 0) (opM ixA (m2L (varM 7) (varM 9)))))) (varM 0)) (nilM)))))) [some (.ro,.scr ns),some (.own,.fz h.d),some (.own,.fz h.d),some (.own,.fz (.int (k:Int))),some (.own,.fz (.str (tx cs))),some (.own,.fz (.str (tx low))),some (.own,hL ((sl).map fun (i:Nat)=>(i:Int))),some (.own,.fz (.int ((n:Nat):Int))),some (.own,.fz (.int ((j:Nat):Int))),x9,x10] = some (.next [some (.ro,.scr ns),some (.own,.fz h.d),some (.own,.fz h.d),some (.own,.fz (.int (k:Int))),some (.own,.fz (.str (tx cs))),some (.own,.fz (.str (tx low))),some (.own,hL ((sl).map fun (i:Nat)=>(i:Int))),some (.own,.fz (.int ((n + (sl.take j).countP (fun y=>decide (sl.getD j 0 < y)):Nat):Int))),some (.own,.fz (.int ((j:Nat):Int))),x9,x10]):=by
 have hlim:1000≤LIM:=by decide
 have v:(opM lslHi (m2L (varM 6) (varM 8))) [some (.ro,.scr ns),some (.own,.fz h.d),some (.own,.fz h.d),some (.own,.fz (.int (k:Int))),some (.own,.fz (.str (tx cs))),some (.own,.fz (.str (tx low))),some (.own,hL ((sl).map fun (i:Nat)=>(i:Int))),some (.own,.fz (.int ((n:Nat):Int))),some (.own,.fz (.int ((j:Nat):Int))),x9,x10] = some (.val (.lst (((iL (sl.map fun (i:Nat)=>(i:Int))).take j).map A.fz)),[some (.ro,.scr ns),some (.own,.fz h.d),some (.own,.fz h.d),some (.own,.fz (.int (k:Int))),some (.own,.fz (.str (tx cs))),some (.own,.fz (.str (tx low))),some (.own,hL ((sl).map fun (i:Nat)=>(i:Int))),some (.own,.fz (.int ((n:Nat):Int))),some (.own,.fz (.int ((j:Nat):Int))),x9,x10]):=by
  have q:=cut_take (iL (sl.map fun (i:Nat)=>(i:Int))) j (by simp only [iL,List.length_map]; lia)
  have v6:varM 6 [some (.ro,.scr ns),some (.own,.fz h.d),some (.own,.fz h.d),some (.own,.fz (.int (k:Int))),some (.own,.fz (.str (tx cs))),some (.own,.fz (.str (tx low))),some (.own,hL ((sl).map fun (i:Nat)=>(i:Int))),some (.own,.fz (.int ((n:Nat):Int))),some (.own,.fz (.int ((j:Nat):Int))),x9,x10] = some (.ref 6,[some (.ro,.scr ns),some (.own,.fz h.d),some (.own,.fz h.d),some (.own,.fz (.int (k:Int))),some (.own,.fz (.str (tx cs))),some (.own,.fz (.str (tx low))),some (.own,hL ((sl).map fun (i:Nat)=>(i:Int))),some (.own,.fz (.int ((n:Nat):Int))),some (.own,.fz (.int ((j:Nat):Int))),x9,x10]):=rfl
  have v8:varM 8 [some (.ro,.scr ns),some (.own,.fz h.d),some (.own,.fz h.d),some (.own,.fz (.int (k:Int))),some (.own,.fz (.str (tx cs))),some (.own,.fz (.str (tx low))),some (.own,hL ((sl).map fun (i:Nat)=>(i:Int))),some (.own,.fz (.int ((n:Nat):Int))),some (.own,.fz (.int ((j:Nat):Int))),x9,x10] = some (.val (.fz (.int (j:Int))),[some (.ro,.scr ns),some (.own,.fz h.d),some (.own,.fz h.d),some (.own,.fz (.int (k:Int))),some (.own,.fz (.str (tx cs))),some (.own,.fz (.str (tx low))),some (.own,hL ((sl).map fun (i:Nat)=>(i:Int))),some (.own,.fz (.int ((n:Nat):Int))),some (.own,.fz (.int ((j:Nat):Int))),x9,x10]):=rfl
  simp only [opM,m2L,consM,nilM,v6,v8,Option.bind_some,Option.map_some,peeks,peek,List.getElem?_cons_zero,List.getElem?_cons_succ,lslHi,hL_lst,q]
 have hit:=seq_val v
 have e1:(iL (sl.map fun (i:Nat)=>(i:Int))).take j = iL ((sl.take j).map fun (i:Nat)=>(i:Int)):=by simp [iL]
 rw [e1] at hit
 have qa:atI (iL (sl.map fun (i:Nat)=>(i:Int))) (j:Int) = some (.int ((sl.getD j 0:Nat):Int)):=by
  rw [atI_get (k:=j) rfl (by simp only [iL,List.length_map]; exact hj)]
  simp [iL,List.getD_eq_getElem?_getD,hj]
 have hc:=compM_of (g:=gtI ((sl.getD j 0:Nat):Int)) (f:=fun d=>d) (c:=(tstM (opM gtA (m2L (varM 0) (opM ixA (m2L (varM 7) (varM 9))))))) (e:=varM 0) hit (by simp only [iL,List.length_map,List.length_take]; lia) (fun d hd=>by
  simp only [iL,List.map_map,List.mem_map,Function.comp_apply] at hd
  obtain ⟨y,_,rfl⟩:=hd
  show _ = some (decide (((sl.getD j 0:Nat):Int) < (y:Int)),_)
  refine tst_of ?_
  clear hit v e1 hlim hl hj
  simp only [hL]
  generalize ((sl.getD j 0:Nat):Int) = q at qa ⊢
  generalize iL (sl.map fun (i:Nat)=>(i:Int)) = ds at qa ⊢
  generalize tx cs = z
  generalize tx low = z2
  walk_at "eo") (fun d hd _=>⟨.val (.fz d),rfl,rfl⟩)
 have el:(((iL ((sl.take j).map fun (i:Nat)=>(i:Int))).filter (gtI ((sl.getD j 0:Nat):Int))).map (fun d=>d)).length = (sl.take j).countP (fun y=>decide (sl.getD j 0 < y)):=by
  rw [List.map_id',← List.countP_eq_length_filter]
  simp only [iL,List.map_map,List.countP_map]
  refine List.countP_congr fun y _=>?_
  simp [gtI,nD]
 have ll:(opM lenA (consM (compM (seqI (opM lslHi (m2L (varM 6) (varM 8)))) 0 (tstM (opM gtA (m2L (varM 0) (opM ixA (m2L (varM 7) (varM 9)))))) (varM 0)) (nilM))) [some (.ro,.scr ns),some (.own,.fz h.d),some (.own,.fz h.d),some (.own,.fz (.int (k:Int))),some (.own,.fz (.str (tx cs))),some (.own,.fz (.str (tx low))),some (.own,hL ((sl).map fun (i:Nat)=>(i:Int))),some (.own,.fz (.int ((n:Nat):Int))),some (.own,.fz (.int ((j:Nat):Int))),x9,x10] = some (.val (.fz (.int (((sl.take j).countP (fun y=>decide (sl.getD j 0 < y)):Nat):Int))),[some (.ro,.scr ns),some (.own,.fz h.d),some (.own,.fz h.d),some (.own,.fz (.int (k:Int))),some (.own,.fz (.str (tx cs))),some (.own,.fz (.str (tx low))),some (.own,hL ((sl).map fun (i:Nat)=>(i:Int))),some (.own,.fz (.int ((n:Nat):Int))),some (.own,.fz (.int ((j:Nat):Int))),x9,x10]):=by
  generalize (compM (seqI (opM lslHi (m2L (varM 6) (varM 8)))) 0 (tstM (opM gtA (m2L (varM 0) (opM ixA (m2L (varM 7) (varM 9)))))) (varM 0)) = Zc at hc ⊢
  generalize ((iL ((sl.take j).map fun (i:Nat)=>(i:Int))).filter (gtI ((sl.getD j 0:Nat):Int))).map (fun d=>d) = ds at hc el ⊢
  rw [← el]
  simp only [opM,consM,nilM,hc,Option.bind_some,Option.map_some,peeks,peek,lenA,itemsA,fzs_map]
 have v7:varM 7 [some (.ro,.scr ns),some (.own,.fz h.d),some (.own,.fz h.d),some (.own,.fz (.int (k:Int))),some (.own,.fz (.str (tx cs))),some (.own,.fz (.str (tx low))),some (.own,hL ((sl).map fun (i:Nat)=>(i:Int))),some (.own,.fz (.int ((n:Nat):Int))),some (.own,.fz (.int ((j:Nat):Int))),x9,x10] = some (.val (.fz (.int (n:Int))),[some (.ro,.scr ns),some (.own,.fz h.d),some (.own,.fz h.d),some (.own,.fz (.int (k:Int))),some (.own,.fz (.str (tx cs))),some (.own,.fz (.str (tx low))),some (.own,hL ((sl).map fun (i:Nat)=>(i:Int))),some (.own,.fz (.int ((n:Nat):Int))),some (.own,.fz (.int ((j:Nat):Int))),x9,x10]):=rfl
 have ad:(opM addA (m2L (varM 7) (opM lenA (consM (compM (seqI (opM lslHi (m2L (varM 6) (varM 8)))) 0 (tstM (opM gtA (m2L (varM 0) (opM ixA (m2L (varM 7) (varM 9)))))) (varM 0)) (nilM))))) [some (.ro,.scr ns),some (.own,.fz h.d),some (.own,.fz h.d),some (.own,.fz (.int (k:Int))),some (.own,.fz (.str (tx cs))),some (.own,.fz (.str (tx low))),some (.own,hL ((sl).map fun (i:Nat)=>(i:Int))),some (.own,.fz (.int ((n:Nat):Int))),some (.own,.fz (.int ((j:Nat):Int))),x9,x10] = some (.val (.fz (.int ((n + (sl.take j).countP (fun y=>decide (sl.getD j 0 < y)):Nat):Int))),[some (.ro,.scr ns),some (.own,.fz h.d),some (.own,.fz h.d),some (.own,.fz (.int (k:Int))),some (.own,.fz (.str (tx cs))),some (.own,.fz (.str (tx low))),some (.own,hL ((sl).map fun (i:Nat)=>(i:Int))),some (.own,.fz (.int ((n:Nat):Int))),some (.own,.fz (.int ((j:Nat):Int))),x9,x10]):=by
  generalize (opM lenA (consM (compM (seqI (opM lslHi (m2L (varM 6) (varM 8)))) 0 (tstM (opM gtA (m2L (varM 0) (opM ixA (m2L (varM 7) (varM 9)))))) (varM 0)) (nilM))) = Zc at ll ⊢
  generalize (sl.take j).countP (fun y=>decide (sl.getD j 0 < y)) = q at ll ⊢
  have e:(n:Int) + (q:Int) = ((n + q:Nat):Int):=by lia
  simp only [opM,m2L,consM,nilM,v7,ll,Option.bind_some,Option.map_some,peeks,peek,addA,intU,fzU,intV,Option.some_or,e]
 exact asg_of (i:=7) ad rfl
structure Facts (h:Hs) (cs:List Nat):Prop where
 zl:∀ c∈lr h.hands 40 cs,c∈h.ls.map (·.1)
 ll:(lr h.hands 40 cs).length = cs.length
 pm:(lr h.hands 40 cs).Perm cs
 wk:Walks h.hands cs (exs h.hands 40 0 cs) (lr h.hands 40 cs)
 ln:(exs h.hands 40 0 cs).length = inv (sp (lr h.hands 40 cs) [] cs)
 lo:exs h.hands 40 0 (lr h.hands 40 cs) = []
theorem facts {h:Hs} (ok:h.Ok) {cs:List Nat} (hz:∀ c∈cs,c∈h.ls.map (·.1)) (hl:cs.length≤40):Facts h cs:=by
 have hw:∀ d∈cs,h.hands d≠[]:=fun d hd=>hands_ne ok (hz d hd)
 have pm:=lr_perm (f:=h.hands) 40 cs hl
 refine ⟨fun c hc=>hz c (pm.mem_iff.mp hc),pm.length_eq,pm,?_,exs_len 40 cs 0 hl hw,exs_low 40 _ 0 (by rw [pm.length_eq]; exact hl) (swc_lr 40 (swc_self 40 cs hl hw)).symm⟩
 have:=exs_walk (f:=h.hands) 40 cs [] hl hw
 simpa using this
theorem ex_len {h:Hs} (cs:List Nat):∀ (t d:Nat) (w:List Nat),w.length≤40→(exs h.hands t d w).length≤40 * t:=by
 intro t
 induction t with
 | zero=>intro d w _; simp [exs]
 | succ t ih =>
  intro d w hw
  by_cases h0:w = []
  ·subst h0; rw [exs_nil]; simp
  ·rw [exs_succ t d h0,List.length_append]
   have h1:=ih (d + 1) (w.erase (lst (fs h.hands [] w))) (Nat.le_trans (List.length_erase_le ..) hw)
   have h2:=fpl_le (f:=h.hands) w
   have h3:(dn d (fpl h.hands w)).length = fpl h.hands w:=by simp [dn]
   lia
theorem x_told {Φ:Fn} {ρ:Ro} {i:Nat} {ex:List Nat} {low:List Nat} {n:Nat} {a1 a2:A} {mw:ME} (hv:varM i ρ = some (.ref i,ρ)) (hp:peek ρ (.ref i) = some (hL ((ex).map fun (i:Nat)=>(i:Int)))) (v7:varM 7 ρ = some (.val (.fz (.int (n:Int))),ρ)) (v5:varM 5 ρ = some (.val (.fz (.str (tx low))),ρ)) (hn:ex.length = n) (hw:mw ρ = some (.val (.fz (.str (tx low))),ρ)) :
  (orT (notT (tstM (opM (isiA isLst) (m1L (varM i))))) (orT (tstM (opM neA (m2L (opM lenA (consM (varM i) (nilM))) (varM 7)))) (tstM (opM neA (m2L mw (varM 5)))))) ρ = some (false,ρ):=by
 have q:=er_ds (iL (ex.map fun (i:Nat)=>(i:Int)))
 have hle:(iL (ex.map fun (i:Nat)=>(i:Int))).length = n:=by simp only [iL,List.length_map]; exact hn
 have q1:opM (isiA isLst) (m1L (varM i)) ρ = some (.val (.fz (.bl true)),ρ):=by
  simp only [hL] at hp
  simp only [opM,m1L,consM,nilM,hv,Option.bind_some,Option.map_some,peeks,hp,isiA,q,isLst]
 have q2:opM lenA (consM (varM i) (nilM)) ρ = some (.val (.fz (.int (n:Int))),ρ):=by
  simp only [hL] at hp
  simp only [opM,consM,nilM,hv,Option.bind_some,Option.map_some,peeks,hp,lenA,itemsA,fzs_map,hle]
 have q3:tstM (opM neA (m2L (opM lenA (consM (varM i) (nilM))) (varM 7))) ρ = some (false,ρ):=by
  have g1:shB 16 (.int (n:Int)) = true:=rfl
  have g2:=eqD_refl (.int (n:Int))
  generalize opM lenA (consM (varM i) (nilM)) = Zc at q2 ⊢
  refine tst_of ?_
  simp only [opM,m2L,consM,nilM,q2,v7,Option.bind_some,Option.map_some,peeks,peek,neA,er,g1,g2,if_true,Bool.not_true]
 have q4:tstM (opM neA (m2L mw (varM 5))) ρ = some (false,ρ):=by
  have g1:shB 16 (.str (tx low)) = true:=rfl
  have g2:=eqD_refl (.str (tx low))
  refine tst_of ?_
  simp only [opM,m2L,consM,nilM,hw,v5,Option.bind_some,Option.map_some,peeks,peek,neA,er,g1,g2,if_true,Bool.not_true]
 exact or_ff (not_of (tst_of (b:=true) q1)) (or_ff q3 q4)
theorem x_ex {Φ:Fn} {ns:List Int} {h:Hs} {k:Nat} {cs:List Nat} {ex:A} {a1 a2:A} {x5 x6 x7 x8 x9 x10:Slot} (t : Φ [(.own,.fz h.d),(.own,.fz (.str (tx cs)))] = some (ex,[a1,a2])) :
  (callM Φ (consM (varM 2) (consM (varM 4) (nilM)))) [some (.ro,.scr ns),some (.own,.fz h.d),some (.own,.fz h.d),some (.own,.fz (.int (k:Int))),some (.own,.fz (.str (tx cs))),x5,x6,x7,x8,x9,x10] = some (.val ex,[some (.ro,.scr ns),some (.own,.fz h.d),some (.own,.fz h.d),some (.own,.fz (.int (k:Int))),some (.own,.fz (.str (tx cs))),x5,x6,x7,x8,x9,x10]):=by
 generalize tx cs = z at t ⊢
 walk_at "eo"
theorem x_exl {Φ:Fn} {ns:List Int} {h:Hs} {k:Nat} {low:List Nat} {ex:A} {a1 a2:A} {x4 x6 x7 x8 x9 x10:Slot} (t : Φ [(.own,.fz h.d),(.own,.fz (.str (tx low)))] = some (ex,[a1,a2])) :
  (callM Φ (consM (varM 2) (consM (varM 5) (nilM)))) [some (.ro,.scr ns),some (.own,.fz h.d),some (.own,.fz h.d),some (.own,.fz (.int (k:Int))),x4,some (.own,.fz (.str (tx low))),x6,x7,x8,x9,x10] = some (.val ex,[some (.ro,.scr ns),some (.own,.fz h.d),some (.own,.fz h.d),some (.own,.fz (.int (k:Int))),x4,some (.own,.fz (.str (tx low))),x6,x7,x8,x9,x10]):=by
 generalize tx low = z at t ⊢
 walk_at "eo"
theorem x_w9 {Φ:Fn} {ns:List Int} {h:Hs} {k:Nat} {cs low:List Nat} {ex:List Nat} {a1 a2:A} {x5 x6 x7 x8 x10:Slot} (t : Φ [(.own,.fz h.d),(.own,.fz (.str (tx cs))),(.lent,hL ((ex).map fun (i:Nat)=>(i:Int)))] = some (.fz (.str (tx low)),[a1,a2,hL ((ex).map fun (i:Nat)=>(i:Int))])) :
  (callM Φ (consM (varM 1) (consM (varM 4) (consM (varM 9) (nilM))))) [some (.ro,.scr ns),some (.own,.fz h.d),some (.own,.fz h.d),some (.own,.fz (.int (k:Int))),some (.own,.fz (.str (tx cs))),x5,x6,x7,x8,some (.own,hL ((ex).map fun (i:Nat)=>(i:Int))),x10] = some (.val (.fz (.str (tx low))),[some (.ro,.scr ns),some (.own,.fz h.d),some (.own,.fz h.d),some (.own,.fz (.int (k:Int))),some (.own,.fz (.str (tx cs))),x5,x6,x7,x8,some (.own,hL ((ex).map fun (i:Nat)=>(i:Int))),x10]):=by
 simp only [hL] at t ⊢
 generalize iL (ex.map fun (i:Nat)=>(i:Int)) = ds at t ⊢
 generalize tx cs = z at t ⊢
 generalize tx low = z2 at t ⊢
 walk_at "eo"
theorem x_w10 {Φ:Fn} {ns:List Int} {h:Hs} {k:Nat} {cs low:List Nat} {ex:List Nat} {a1 a2:A} {x5 x6 x7 x8 x9:Slot} (t : Φ [(.own,.fz h.d),(.own,.fz (.str (tx cs))),(.lent,hL ((ex).map fun (i:Nat)=>(i:Int)))] = some (.fz (.str (tx low)),[a1,a2,hL ((ex).map fun (i:Nat)=>(i:Int))])) :
  (callM Φ (consM (varM 1) (consM (varM 4) (consM (varM 10) (nilM))))) [some (.ro,.scr ns),some (.own,.fz h.d),some (.own,.fz h.d),some (.own,.fz (.int (k:Int))),some (.own,.fz (.str (tx cs))),x5,x6,x7,x8,x9,some (.own,hL ((ex).map fun (i:Nat)=>(i:Int)))] = some (.val (.fz (.str (tx low))),[some (.ro,.scr ns),some (.own,.fz h.d),some (.own,.fz h.d),some (.own,.fz (.int (k:Int))),some (.own,.fz (.str (tx cs))),x5,x6,x7,x8,x9,some (.own,hL ((ex).map fun (i:Nat)=>(i:Int)))]):=by
 simp only [hL] at t ⊢
 generalize iL (ex.map fun (i:Nat)=>(i:Int)) = ds at t ⊢
 generalize tx cs = z at t ⊢
 generalize tx low = z2 at t ⊢
 walk_at "eo"
theorem s_law_step {ns:List Int} {h:Hs} (ok:h.Ok) {k:Nat} {x4 x5 x6 x7 x8 x9 x10:Slot} (h4:(x4 = none∨∃ a,x4 = some (Own.own,a))) (h5:(x5 = none∨∃ a,x5 = some (Own.own,a))) (h6:(x6 = none∨∃ a,x6 = some (Own.own,a))) (h7:(x7 = none∨∃ a,x7 = some (Own.own,a))) (h8:(x8 = none∨∃ a,x8 = some (Own.own,a))) (h9:(x9 = none∨∃ a,x9 = some (Own.own,a))) (h10:(x10 = none∨∃ a,x10 = some (Own.own,a))) :
  ∃ y4 y5 y6 y7 y8 y9 y10,(y4 = none∨∃ a,y4 = some (Own.own,a))∧(y5 = none∨∃ a,y5 = some (Own.own,a))∧(y6 = none∨∃ a,y6 = some (Own.own,a))∧(y7 = none∨∃ a,y7 = some (Own.own,a))∧(y8 = none∨∃ a,y8 = some (Own.own,a))∧(y9 = none∨∃ a,y9 = some (Own.own,a))∧(y10 = none∨∃ a,y10 = some (Own.own,a))∧(seqS (asgS 4 (callM fn__law_row (consM (callM fn__law_bag (consM (opM addA (m2L (callM fn__law_cell (consM (varM 0) (consM (varM 3) (nilM)))) (varM 3))) (nilM))) (consM (varM 1) (consM (litM (.int 12)) (nilM)))))) (seqS (asgS 5 (callM fn__law_lowest (consM (varM 1) (consM (varM 4) (nilM))))) (seqS (asgS 6 (callM fn__law_places (consM (varM 4) (consM (varM 5) (nilM))))) (seqS (asgS 7 (litM (.int 0))) (seqS (forS [8] true (rngI1 (opM lenA (consM (varM 6) (nilM)))) (asgS 7 (opM addA (m2L (varM 7) (opM lenA (consM (compM (seqI (opM lslHi (m2L (varM 6) (varM 8)))) 0 (tstM (opM gtA (m2L (varM 0) (opM ixA (m2L (varM 7) (varM 9)))))) (varM 0)) (nilM))))))) (seqS (asgS 9 (callM fn_exchanges (consM (varM 2) (consM (varM 4) (nilM))))) (seqS (ifS (orT (notT (tstM (opM (isiA isLst) (m1L (varM 9))))) (orT (tstM (opM neA (m2L (opM lenA (consM (varM 9) (nilM))) (varM 7)))) (tstM (opM neA (m2L (callM fn__law_walked (consM (varM 1) (consM (varM 4) (consM (varM 9) (nilM))))) (varM 5)))))) (retS (litM (.bl false))) (skipS)) (seqS (appS 9 (opM negA (m1L (litM (.int 1))))) (seqS (asgS 10 (callM fn_exchanges (consM (varM 2) (consM (varM 4) (nilM))))) (seqS (ifS (orT (notT (tstM (opM (isiA isLst) (m1L (varM 10))))) (orT (tstM (opM neA (m2L (opM lenA (consM (varM 10) (nilM))) (varM 7)))) (tstM (opM neA (m2L (callM fn__law_walked (consM (varM 1) (consM (varM 4) (consM (varM 10) (nilM))))) (varM 5)))))) (retS (litM (.bl false))) (skipS)) (ifS (tstM (opM neA (m2L (callM fn_exchanges (consM (varM 2) (consM (varM 5) (nilM)))) (lstM (nilM))))) (retS (litM (.bl false))) (skipS)))))))))))) [some (.ro,.scr ns),some (.own,.fz h.d),some (.own,.fz h.d),some (.own,.fz (.int (k:Int))),x4,x5,x6,x7,x8,x9,x10] = some (.next [some (.ro,.scr ns),some (.own,.fz h.d),some (.own,.fz h.d),some (.own,.fz (.int (k:Int))),y4,y5,y6,y7,y8,y9,y10]):=by
 obtain ⟨c,c2,t1⟩:=s_cell ns k
 obtain ⟨as,q1,hb,t2⟩:=s_bag .own (c + k)
 obtain ⟨z,as1,q2,q3,hz,hl,hb1,t3⟩:=s_row ok hb (by lia) 12 (by lia) (by lia)
 obtain ⟨cs,rfl⟩:∃ cs,z = tx cs:=⟨z.cps.toList,(tx_of z).symm⟩
 rw [tx_len] at hl
 have hz:=hz.2
 rw [tx_list] at hz
 obtain ⟨zl,ll,pm,wk,ln,lo⟩:=facts ok hz hl
 have el:=ex_len (h:=h) cs 40 0 cs hl
 obtain ⟨b1,b2,t4⟩:=s_lowest .own h ok cs hz hl
 obtain ⟨d1,d2,t5⟩:=s_places .own .own cs (lr h.hands 40 cs) hl pm
 obtain ⟨f1,f2,t6⟩:=s_exchanges .own h ok cs hz hl
 obtain ⟨g1,g2,t7⟩:=s_walked .own .lent (.inr rfl) h ok cs (lr h.hands 40 cs) (exs h.hands 40 0 cs) hz hl wk
 obtain ⟨j1,j2,t8⟩:=s_exchanges .own h ok (lr h.hands 40 cs) zl (by lia)
 rw [lo] at t8
 have sll:=sp_len (lr h.hands 40 cs) cs []
 clear zl ll pm wk lo hb hb1 hz
 generalize sp (lr h.hands 40 cs) [] cs = sl at t5 ln sll
 generalize exs h.hands 40 0 cs = ex at t6 t7 ln el
 generalize lr h.hands 40 cs = low at t4 t5 t7 t8
 have st4:asgS 4 (callM fn__law_row (consM (callM fn__law_bag (consM (opM addA (m2L (callM fn__law_cell (consM (varM 0) (consM (varM 3) (nilM)))) (varM 3))) (nilM))) (consM (varM 1) (consM (litM (.int 12)) (nilM))))) [some (.ro,.scr ns),some (.own,.fz h.d),some (.own,.fz h.d),some (.own,.fz (.int (k:Int))),x4,x5,x6,x7,x8,x9,x10] = some (.next [some (.ro,.scr ns),some (.own,.fz h.d),some (.own,.fz h.d),some (.own,.fz (.int (k:Int))),some (.own,.fz (.str (tx cs))),x5,x6,x7,x8,x9,x10]):=by
  clear t4 t5 t6 t7 t8 ln sll hl ok h5 h6 h7 h8 h9 h10 el
  generalize fn__law_bag = Φ at t2 ⊢
  generalize fn__law_cell = Ψ at t1 ⊢
  generalize fn__law_row = Θ at t3 ⊢
  generalize tx cs = z at t3 ⊢
  rcases h4 with rfl | ⟨a4,rfl⟩ <;> walk_at "eo"
 have st5:asgS 5 (callM fn__law_lowest (consM (varM 1) (consM (varM 4) (nilM)))) [some (.ro,.scr ns),some (.own,.fz h.d),some (.own,.fz h.d),some (.own,.fz (.int (k:Int))),some (.own,.fz (.str (tx cs))),x5,x6,x7,x8,x9,x10] = some (.next [some (.ro,.scr ns),some (.own,.fz h.d),some (.own,.fz h.d),some (.own,.fz (.int (k:Int))),some (.own,.fz (.str (tx cs))),some (.own,.fz (.str (tx low))),x6,x7,x8,x9,x10]):=by
  clear t1 t2 t3 t5 t6 t7 t8 ln sll hl ok h4 h6 h7 h8 h9 h10 el st4
  generalize fn__law_lowest = Φ at t4 ⊢
  generalize tx cs = z at t4 ⊢
  generalize tx low = z2 at t4 ⊢
  rcases h5 with rfl | ⟨a4,rfl⟩ <;> walk_at "eo"
 have st6:asgS 6 (callM fn__law_places (consM (varM 4) (consM (varM 5) (nilM)))) [some (.ro,.scr ns),some (.own,.fz h.d),some (.own,.fz h.d),some (.own,.fz (.int (k:Int))),some (.own,.fz (.str (tx cs))),some (.own,.fz (.str (tx low))),x6,x7,x8,x9,x10] = some (.next [some (.ro,.scr ns),some (.own,.fz h.d),some (.own,.fz h.d),some (.own,.fz (.int (k:Int))),some (.own,.fz (.str (tx cs))),some (.own,.fz (.str (tx low))),some (.own,hL ((sl).map fun (i:Nat)=>(i:Int))),x7,x8,x9,x10]):=by
  clear t1 t2 t3 t4 t6 t7 t8 ln sll hl ok h4 h5 h7 h8 h9 h10 el st4 st5
  generalize fn__law_places = Φ at t5 ⊢
  generalize tx cs = z at t5 ⊢
  generalize tx low = z2 at t5 ⊢
  simp only [hL] at t5 ⊢
  generalize iL (sl.map fun (i:Nat)=>(i:Int)) = ds at t5 ⊢
  rcases h6 with rfl | ⟨a4,rfl⟩ <;> walk_at "eo"
 have st7:asgS 7 (litM (.int 0)) [some (.ro,.scr ns),some (.own,.fz h.d),some (.own,.fz h.d),some (.own,.fz (.int (k:Int))),some (.own,.fz (.str (tx cs))),some (.own,.fz (.str (tx low))),some (.own,hL ((sl).map fun (i:Nat)=>(i:Int))),x7,x8,x9,x10] = some (.next [some (.ro,.scr ns),some (.own,.fz h.d),some (.own,.fz h.d),some (.own,.fz (.int (k:Int))),some (.own,.fz (.str (tx cs))),some (.own,.fz (.str (tx low))),some (.own,hL ((sl).map fun (i:Nat)=>(i:Int))),some (.own,.fz (.int ((0:Nat):Int))),x8,x9,x10]):=by
  clear t1 t2 t3 t4 t5 t6 t7 t8 ln sll hl ok h4 h5 h6 h8 h9 h10 el st4 st5 st6
  rcases h7 with rfl | ⟨a4,rfl⟩ <;> rfl
 have lnm:(opM lenA (consM (varM 6) (nilM))) [some (.ro,.scr ns),some (.own,.fz h.d),some (.own,.fz h.d),some (.own,.fz (.int (k:Int))),some (.own,.fz (.str (tx cs))),some (.own,.fz (.str (tx low))),some (.own,hL ((sl).map fun (i:Nat)=>(i:Int))),some (.own,.fz (.int ((0:Nat):Int))),x8,x9,x10] = some (.val (.fz (.int (sl.length:Int))),[some (.ro,.scr ns),some (.own,.fz h.d),some (.own,.fz h.d),some (.own,.fz (.int (k:Int))),some (.own,.fz (.str (tx cs))),some (.own,.fz (.str (tx low))),some (.own,hL ((sl).map fun (i:Nat)=>(i:Int))),some (.own,.fz (.int ((0:Nat):Int))),x8,x9,x10]):=by
  have v6:varM 6 [some (.ro,.scr ns),some (.own,.fz h.d),some (.own,.fz h.d),some (.own,.fz (.int (k:Int))),some (.own,.fz (.str (tx cs))),some (.own,.fz (.str (tx low))),some (.own,hL ((sl).map fun (i:Nat)=>(i:Int))),some (.own,.fz (.int ((0:Nat):Int))),x8,x9,x10] = some (.ref 6,[some (.ro,.scr ns),some (.own,.fz h.d),some (.own,.fz h.d),some (.own,.fz (.int (k:Int))),some (.own,.fz (.str (tx cs))),some (.own,.fz (.str (tx low))),some (.own,hL ((sl).map fun (i:Nat)=>(i:Int))),some (.own,.fz (.int ((0:Nat):Int))),x8,x9,x10]):=rfl
  have hle:(iL (sl.map fun (i:Nat)=>(i:Int))).length = sl.length:=by simp only [iL,List.length_map]
  simp only [opM,consM,nilM,v6,Option.bind_some,Option.map_some,peeks,peek,List.getElem?_cons_zero,List.getElem?_cons_succ]
  simp only [hL,lenA,itemsA,fzs_map,hle,Option.map_some]
 have rg:=rng1_of lnm (by lia) (by lia)
 rw [Int.toNat_natCast] at rg
 obtain ⟨ρ',w1,w2⟩:=forS_inv (is:=[8]) (one:=true) (b:=(asgS 7 (opM addA (m2L (varM 7) (opM lenA (consM (compM (seqI (opM lslHi (m2L (varM 6) (varM 8)))) 0 (tstM (opM gtA (m2L (varM 0) (opM ixA (m2L (varM 7) (varM 9)))))) (varM 0)) (nilM)))))))
  (fun t ρ=>∃ x8,(x8 = none∨∃ a,x8 = some (Own.own,a)) ∧ ρ = [some (.ro,.scr ns),some (.own,.fz h.d),some (.own,.fz h.d),some (.own,.fz (.int (k:Int))),some (.own,.fz (.str (tx cs))),some (.own,.fz (.str (tx low))),some (.own,hL ((sl).map fun (i:Nat)=>(i:Int))),some (.own,.fz (.int ((inv (sl.take t):Nat):Int))),x8,x9,x10]) rg ⟨x8,h8,rfl⟩ (fun t d ρ hd hI=>by
   obtain ⟨x8,h8,rfl⟩:=hI
   obtain ⟨rfl,ht⟩:=up_get0 hd
   have q:=s_inv (ns:=ns) (h:=h) (k:=k) (cs:=cs) (low:=low) (n:=inv (sl.take t)) (j:=t) ht (by lia) (x9:=x9) (x10:=x10)
   refine ⟨_,_,?_,.inl q,some (.own,.fz (.int (t:Int))),.inr ⟨_,rfl⟩,?_⟩
   ·rcases h8 with rfl | ⟨d,rfl⟩ <;> rfl
   ·rw [take_sn ht,inv_snoc])
 obtain ⟨y8,k8,rfl⟩:=w2
 rw [up_len,List.take_length,← ln] at w1
 have st9:asgS 9 (callM fn_exchanges (consM (varM 2) (consM (varM 4) (nilM)))) [some (.ro,.scr ns),some (.own,.fz h.d),some (.own,.fz h.d),some (.own,.fz (.int (k:Int))),some (.own,.fz (.str (tx cs))),some (.own,.fz (.str (tx low))),some (.own,hL ((sl).map fun (i:Nat)=>(i:Int))),some (.own,.fz (.int ((ex.length:Nat):Int))),y8,x9,x10] = some (.next [some (.ro,.scr ns),some (.own,.fz h.d),some (.own,.fz h.d),some (.own,.fz (.int (k:Int))),some (.own,.fz (.str (tx cs))),some (.own,.fz (.str (tx low))),some (.own,hL ((sl).map fun (i:Nat)=>(i:Int))),some (.own,.fz (.int ((ex.length:Nat):Int))),y8,some (.own,hL ((ex).map fun (i:Nat)=>(i:Int))),x10]):=by
  refine (asg_of (x_ex t6) ?_).trans rfl
  rcases h9 with rfl | ⟨d,rfl⟩ <;> rfl
 have c9:(orT (notT (tstM (opM (isiA isLst) (m1L (varM 9))))) (orT (tstM (opM neA (m2L (opM lenA (consM (varM 9) (nilM))) (varM 7)))) (tstM (opM neA (m2L (callM fn__law_walked (consM (varM 1) (consM (varM 4) (consM (varM 9) (nilM))))) (varM 5)))))) [some (.ro,.scr ns),some (.own,.fz h.d),some (.own,.fz h.d),some (.own,.fz (.int (k:Int))),some (.own,.fz (.str (tx cs))),some (.own,.fz (.str (tx low))),some (.own,hL ((sl).map fun (i:Nat)=>(i:Int))),some (.own,.fz (.int ((ex.length:Nat):Int))),y8,some (.own,hL ((ex).map fun (i:Nat)=>(i:Int))),x10] = some (false,[some (.ro,.scr ns),some (.own,.fz h.d),some (.own,.fz h.d),some (.own,.fz (.int (k:Int))),some (.own,.fz (.str (tx cs))),some (.own,.fz (.str (tx low))),some (.own,hL ((sl).map fun (i:Nat)=>(i:Int))),some (.own,.fz (.int ((ex.length:Nat):Int))),y8,some (.own,hL ((ex).map fun (i:Nat)=>(i:Int))),x10]):=
  x_told (Φ:=fn__law_walked) (a1:=g1) (a2:=g2) rfl rfl rfl rfl rfl (x_w9 t7)
 have st10:appS 9 (opM negA (m1L (litM (.int 1)))) [some (.ro,.scr ns),some (.own,.fz h.d),some (.own,.fz h.d),some (.own,.fz (.int (k:Int))),some (.own,.fz (.str (tx cs))),some (.own,.fz (.str (tx low))),some (.own,hL ((sl).map fun (i:Nat)=>(i:Int))),some (.own,.fz (.int ((ex.length:Nat):Int))),y8,some (.own,hL ((ex).map fun (i:Nat)=>(i:Int))),x10] = some (.next [some (.ro,.scr ns),some (.own,.fz h.d),some (.own,.fz h.d),some (.own,.fz (.int (k:Int))),some (.own,.fz (.str (tx cs))),some (.own,.fz (.str (tx low))),some (.own,hL ((sl).map fun (i:Nat)=>(i:Int))),some (.own,.fz (.int ((ex.length:Nat):Int))),y8,some (.own,.lst ((iL (ex.map fun (i:Nat)=>(i:Int))).map A.fz ++ [A.fz (.int (-1))])),x10]):=
  app_of (i:=9) (st:=.own) (as:=(iL (ex.map fun (i:Nat)=>(i:Int))).map A.fz) rfl rfl (by
   have hlim:10000≤LIM:=by decide
   simp only [iL,List.length_map]; lia)
 have st11:asgS 10 (callM fn_exchanges (consM (varM 2) (consM (varM 4) (nilM)))) [some (.ro,.scr ns),some (.own,.fz h.d),some (.own,.fz h.d),some (.own,.fz (.int (k:Int))),some (.own,.fz (.str (tx cs))),some (.own,.fz (.str (tx low))),some (.own,hL ((sl).map fun (i:Nat)=>(i:Int))),some (.own,.fz (.int ((ex.length:Nat):Int))),y8,some (.own,.lst ((iL (ex.map fun (i:Nat)=>(i:Int))).map A.fz ++ [A.fz (.int (-1))])),x10] = some (.next [some (.ro,.scr ns),some (.own,.fz h.d),some (.own,.fz h.d),some (.own,.fz (.int (k:Int))),some (.own,.fz (.str (tx cs))),some (.own,.fz (.str (tx low))),some (.own,hL ((sl).map fun (i:Nat)=>(i:Int))),some (.own,.fz (.int ((ex.length:Nat):Int))),y8,some (.own,.lst ((iL (ex.map fun (i:Nat)=>(i:Int))).map A.fz ++ [A.fz (.int (-1))])),some (.own,hL ((ex).map fun (i:Nat)=>(i:Int)))]):=by
  refine (asg_of (x_ex t6) ?_).trans rfl
  rcases h10 with rfl | ⟨d,rfl⟩ <;> rfl
 have c10:(orT (notT (tstM (opM (isiA isLst) (m1L (varM 10))))) (orT (tstM (opM neA (m2L (opM lenA (consM (varM 10) (nilM))) (varM 7)))) (tstM (opM neA (m2L (callM fn__law_walked (consM (varM 1) (consM (varM 4) (consM (varM 10) (nilM))))) (varM 5)))))) [some (.ro,.scr ns),some (.own,.fz h.d),some (.own,.fz h.d),some (.own,.fz (.int (k:Int))),some (.own,.fz (.str (tx cs))),some (.own,.fz (.str (tx low))),some (.own,hL ((sl).map fun (i:Nat)=>(i:Int))),some (.own,.fz (.int ((ex.length:Nat):Int))),y8,some (.own,.lst ((iL (ex.map fun (i:Nat)=>(i:Int))).map A.fz ++ [A.fz (.int (-1))])),some (.own,hL ((ex).map fun (i:Nat)=>(i:Int)))] = some (false,[some (.ro,.scr ns),some (.own,.fz h.d),some (.own,.fz h.d),some (.own,.fz (.int (k:Int))),some (.own,.fz (.str (tx cs))),some (.own,.fz (.str (tx low))),some (.own,hL ((sl).map fun (i:Nat)=>(i:Int))),some (.own,.fz (.int ((ex.length:Nat):Int))),y8,some (.own,.lst ((iL (ex.map fun (i:Nat)=>(i:Int))).map A.fz ++ [A.fz (.int (-1))])),some (.own,hL ((ex).map fun (i:Nat)=>(i:Int)))]):=
  x_told (Φ:=fn__law_walked) (a1:=g1) (a2:=g2) rfl rfl rfl rfl rfl (x_w10 t7)
 have cl:(tstM (opM neA (m2L (callM fn_exchanges (consM (varM 2) (consM (varM 5) (nilM)))) (lstM (nilM))))) [some (.ro,.scr ns),some (.own,.fz h.d),some (.own,.fz h.d),some (.own,.fz (.int (k:Int))),some (.own,.fz (.str (tx cs))),some (.own,.fz (.str (tx low))),some (.own,hL ((sl).map fun (i:Nat)=>(i:Int))),some (.own,.fz (.int ((ex.length:Nat):Int))),y8,some (.own,.lst ((iL (ex.map fun (i:Nat)=>(i:Int))).map A.fz ++ [A.fz (.int (-1))])),some (.own,hL ((ex).map fun (i:Nat)=>(i:Int)))] = some (false,[some (.ro,.scr ns),some (.own,.fz h.d),some (.own,.fz h.d),some (.own,.fz (.int (k:Int))),some (.own,.fz (.str (tx cs))),some (.own,.fz (.str (tx low))),some (.own,hL ((sl).map fun (i:Nat)=>(i:Int))),some (.own,.fz (.int ((ex.length:Nat):Int))),y8,some (.own,.lst ((iL (ex.map fun (i:Nat)=>(i:Int))).map A.fz ++ [A.fz (.int (-1))])),some (.own,hL ((ex).map fun (i:Nat)=>(i:Int)))]):=by
  have u:=x_exl (ns:=ns) (k:=k) (x4:=some (.own,.fz (.str (tx cs)))) (x6:=some (.own,hL ((sl).map fun (i:Nat)=>(i:Int)))) (x7:=some (.own,.fz (.int ((ex.length:Nat):Int)))) (x8:=y8) (x9:=some (.own,.lst ((iL (ex.map fun (i:Nat)=>(i:Int))).map A.fz ++ [A.fz (.int (-1))]))) (x10:=some (.own,hL ((ex).map fun (i:Nat)=>(i:Int)))) t8
  have u2:lstM (nilM) [some (.ro,.scr ns),some (.own,.fz h.d),some (.own,.fz h.d),some (.own,.fz (.int (k:Int))),some (.own,.fz (.str (tx cs))),some (.own,.fz (.str (tx low))),some (.own,hL ((sl).map fun (i:Nat)=>(i:Int))),some (.own,.fz (.int ((ex.length:Nat):Int))),y8,some (.own,.lst ((iL (ex.map fun (i:Nat)=>(i:Int))).map A.fz ++ [A.fz (.int (-1))])),some (.own,hL ((ex).map fun (i:Nat)=>(i:Int)))] = some (.val (.lst []),[some (.ro,.scr ns),some (.own,.fz h.d),some (.own,.fz h.d),some (.own,.fz (.int (k:Int))),some (.own,.fz (.str (tx cs))),some (.own,.fz (.str (tx low))),some (.own,hL ((sl).map fun (i:Nat)=>(i:Int))),some (.own,.fz (.int ((ex.length:Nat):Int))),y8,some (.own,.lst ((iL (ex.map fun (i:Nat)=>(i:Int))).map A.fz ++ [A.fz (.int (-1))])),some (.own,hL ((ex).map fun (i:Nat)=>(i:Int)))]):=rfl
  have g1:shB 16 (.lst []) = true:=rfl
  have g2:=eqD_refl (.lst [])
  refine tst_of ?_
  generalize (callM fn_exchanges (consM (varM 2) (consM (varM 5) (nilM)))) = Zc at u ⊢
  simp only [opM,m2L,consM,nilM,u,u2,Option.bind_some,Option.map_some,peeks,peek]
  simp only [neA,hL,iL,List.map_nil,er,ers,Option.map_some,Option.bind_some,g1,g2,if_true,Bool.not_true]
 refine ⟨some (.own,.fz (.str (tx cs))),some (.own,.fz (.str (tx low))),some (.own,hL ((sl).map fun (i:Nat)=>(i:Int))),some (.own,.fz (.int ((ex.length:Nat):Int))),y8,some (.own,.lst ((iL (ex.map fun (i:Nat)=>(i:Int))).map A.fz ++ [A.fz (.int (-1))])),some (.own,hL ((ex).map fun (i:Nat)=>(i:Int))),.inr ⟨_,rfl⟩,.inr ⟨_,rfl⟩,.inr ⟨_,rfl⟩,.inr ⟨_,rfl⟩,k8,.inr ⟨_,rfl⟩,.inr ⟨_,rfl⟩,?_⟩
 rw [seq_next st4,seq_next st5,seq_next st6,seq_next st7]
 refine (seq_next w1).trans ?_
 refine (seq_next st9).trans ?_
 rw [seq_next ((if_f c9).trans rfl),seq_next st10,seq_next st11,seq_next ((if_f c10).trans rfl)]
 exact (if_f cl).trans rfl
theorem law_true (ns:List Int) (hl:ns.length≤63):∃ as',fn_law [(.ro,.scr ns)] = some (.fz (.bl true),as'):=by
 obtain ⟨c,c2,t1⟩:=s_cell ns 0
 obtain ⟨as,q1,hb,t2⟩:=s_bag .own c
 obtain ⟨h,as1,ok,hb1,t3⟩:=s_house hb (by lia)
 obtain ⟨q2,t4⟩:=s_house_copy .own h ok
 have st1:asgS 1 (callM fn__law_house (consM (callM fn__law_bag (consM (callM fn__law_cell (consM (varM 0) (consM (litM (.int 0)) (nilM)))) (nilM))) (nilM))) [some (.ro,.scr ns),none,none,none,none,none,none,none,none,none,none] = some (.next [some (.ro,.scr ns),some (.own,.fz h.d),none,none,none,none,none,none,none,none,none]):=by
  clear t4 hb hb1 hl ok
  generalize fn__law_house = Φ at t3 ⊢
  generalize fn__law_bag = Ψ at t2 ⊢
  generalize fn__law_cell = Θ at t1 ⊢
  change Θ [(.ro,.scr ns),(.own,.fz (.int 0))] = _ at t1
  walk_at "eo"
 have st2:asgS 2 (callM fn__law_house_copy (consM (varM 1) (nilM))) [some (.ro,.scr ns),some (.own,.fz h.d),none,none,none,none,none,none,none,none,none] = some (.next [some (.ro,.scr ns),some (.own,.fz h.d),some (.own,.fz h.d),none,none,none,none,none,none,none,none]):=by
  clear t1 t2 t3 hb hb1 hl ok st1
  generalize fn__law_house_copy = Φ at t4 ⊢
  walk_at "eo"
 have hrg:∃ n:Nat,(rngI2 (litM (.int 1)) (opM maxA (consM (litM (.int 4)) (consM (opM minA (consM (opM lenA (consM (varM 0) (nilM))) (consM (litM (.int 9)) (nilM)))) (nilM))))) [some (.ro,.scr ns),some (.own,.fz h.d),some (.own,.fz h.d),none,none,none,none,none,none,none,none] = some (upto 1 n,none,[some (.ro,.scr ns),some (.own,.fz h.d),some (.own,.fz h.d),none,none,none,none,none,none,none,none]):=by
  have hm:∃ n:Int,0≤n∧n≤1000000∧(opM maxA (consM (litM (.int 4)) (consM (opM minA (consM (opM lenA (consM (varM 0) (nilM))) (consM (litM (.int 9)) (nilM)))) (nilM)))) [some (.ro,.scr ns),some (.own,.fz h.d),some (.own,.fz h.d),none,none,none,none,none,none,none,none] = some (.val (.fz (.int n)),[some (.ro,.scr ns),some (.own,.fz h.d),some (.own,.fz h.d),none,none,none,none,none,none,none,none]):=by
   refine ⟨if (if (9:Int) < (ns.length:Int) then (9:Int) else (ns.length:Int)) > 4 then (if (9:Int) < (ns.length:Int) then (9:Int) else (ns.length:Int)) else 4,by split <;> split <;> lia,by split <;> split <;> lia,?_⟩
   clear t1 t2 t3 t4 st1 st2 hb hb1 hl ok
   walk_at "eo"
  obtain ⟨n,n0,n1,e⟩:=hm
  exact ⟨(n - 1).toNat,rng2_of rfl e (by lia) (by lia)⟩
 obtain ⟨n,rg⟩:=hrg
 obtain ⟨ρ',f1,f2⟩:=forS_inv (is:=[3]) (one:=true) (b:=(seqS (asgS 4 (callM fn__law_row (consM (callM fn__law_bag (consM (opM addA (m2L (callM fn__law_cell (consM (varM 0) (consM (varM 3) (nilM)))) (varM 3))) (nilM))) (consM (varM 1) (consM (litM (.int 12)) (nilM)))))) (seqS (asgS 5 (callM fn__law_lowest (consM (varM 1) (consM (varM 4) (nilM))))) (seqS (asgS 6 (callM fn__law_places (consM (varM 4) (consM (varM 5) (nilM))))) (seqS (asgS 7 (litM (.int 0))) (seqS (forS [8] true (rngI1 (opM lenA (consM (varM 6) (nilM)))) (asgS 7 (opM addA (m2L (varM 7) (opM lenA (consM (compM (seqI (opM lslHi (m2L (varM 6) (varM 8)))) 0 (tstM (opM gtA (m2L (varM 0) (opM ixA (m2L (varM 7) (varM 9)))))) (varM 0)) (nilM))))))) (seqS (asgS 9 (callM fn_exchanges (consM (varM 2) (consM (varM 4) (nilM))))) (seqS (ifS (orT (notT (tstM (opM (isiA isLst) (m1L (varM 9))))) (orT (tstM (opM neA (m2L (opM lenA (consM (varM 9) (nilM))) (varM 7)))) (tstM (opM neA (m2L (callM fn__law_walked (consM (varM 1) (consM (varM 4) (consM (varM 9) (nilM))))) (varM 5)))))) (retS (litM (.bl false))) (skipS)) (seqS (appS 9 (opM negA (m1L (litM (.int 1))))) (seqS (asgS 10 (callM fn_exchanges (consM (varM 2) (consM (varM 4) (nilM))))) (seqS (ifS (orT (notT (tstM (opM (isiA isLst) (m1L (varM 10))))) (orT (tstM (opM neA (m2L (opM lenA (consM (varM 10) (nilM))) (varM 7)))) (tstM (opM neA (m2L (callM fn__law_walked (consM (varM 1) (consM (varM 4) (consM (varM 10) (nilM))))) (varM 5)))))) (retS (litM (.bl false))) (skipS)) (ifS (tstM (opM neA (m2L (callM fn_exchanges (consM (varM 2) (consM (varM 5) (nilM)))) (lstM (nilM))))) (retS (litM (.bl false))) (skipS)))))))))))))
  (fun t ρ=>∃ x3 x4 x5 x6 x7 x8 x9 x10,(x3 = none∨∃ a,x3 = some (Own.own,a))∧(x4 = none∨∃ a,x4 = some (Own.own,a))∧(x5 = none∨∃ a,x5 = some (Own.own,a))∧(x6 = none∨∃ a,x6 = some (Own.own,a))∧(x7 = none∨∃ a,x7 = some (Own.own,a))∧(x8 = none∨∃ a,x8 = some (Own.own,a))∧(x9 = none∨∃ a,x9 = some (Own.own,a))∧(x10 = none∨∃ a,x10 = some (Own.own,a)) ∧ ρ = [some (.ro,.scr ns),some (.own,.fz h.d),some (.own,.fz h.d),x3,x4,x5,x6,x7,x8,x9,x10]) rg ⟨none,none,none,none,none,none,none,none,.inl rfl,.inl rfl,.inl rfl,.inl rfl,.inl rfl,.inl rfl,.inl rfl,.inl rfl,rfl⟩ (fun t d ρ hd hI=>by
   obtain ⟨x3,x4,x5,x6,x7,x8,x9,x10,h3,h4,h5,h6,h7,h8,h9,h10,rfl⟩:=hI
   obtain ⟨rfl,ht⟩:=up_get hd
   obtain ⟨y4,y5,y6,y7,y8,y9,y10,k4,k5,k6,k7,k8,k9,k10,q⟩:=s_law_step (ns:=ns) ok (k:=t + 1) h4 h5 h6 h7 h8 h9 h10
   have et:(1:Int) + (t:Int) = ((t + 1:Nat):Int):=by lia
   rw [et]
   refine ⟨[some (.ro,.scr ns),some (.own,.fz h.d),some (.own,.fz h.d),some (.own,.fz (.int ((t + 1:Nat):Int))),x4,x5,x6,x7,x8,x9,x10],_,?_,.inl q,some (.own,.fz (.int ((t + 1:Nat):Int))),y4,y5,y6,y7,y8,y9,y10,.inr ⟨_,rfl⟩,k4,k5,k6,k7,k8,k9,k10,rfl⟩
   rcases h3 with rfl | ⟨d,rfl⟩ <;> rfl)
 obtain ⟨x3,x4,x5,x6,x7,x8,x9,x10,_,_,_,_,_,_,_,_,rfl⟩:=f2
 refine ⟨_,fn_ret (ρ:=[some (.ro,.scr ns),some (.own,.fz h.d),some (.own,.fz h.d),x3,x4,x5,x6,x7,x8,x9,x10]) rfl ?_⟩
 show den_law [some (.ro,.scr ns),none,none,none,none,none,none,none,none,none,none] = _
 unfold den_law
 rw [seq_next st1,seq_next st2]
 refine (seq_next f1).trans ?_
 refine ret_of ?_
 have g1:=sh_house h
 have g2:=eqD_refl h.d
 show opM eqA (m2L (varM 2) (varM 1)) [some (.ro,.scr ns),some (.own,.fz h.d),some (.own,.fz h.d),x3,x4,x5,x6,x7,x8,x9,x10] = some (.val (.fz (.bl true)),[some (.ro,.scr ns),some (.own,.fz h.d),some (.own,.fz h.d),x3,x4,x5,x6,x7,x8,x9,x10])
 simp only [opM,m2L,consM,nilM,varM,List.getElem?_cons_zero,List.getElem?_cons_succ,Option.bind_some,Option.map_some,peeks,peek,eqA,er,g1,g2,if_true]
end Gk13
end
section
set_option Elab.async false
set_option linter.all false
set_option maxRecDepth 100000
set_option maxHeartbeats 4000000
namespace Gk13
open PySem PySem.Spec PyProof.Rows L2 J
noncomputable def Fe (K:PySem.W.Frag) (n:Str) (st:Stmt):Prop:=∃ (f:Addr) (fd:FuncData),PySem.W.nsIn K mainGlobals n = some (some (.ref f))∧Fun K n n st f fd
theorem fe_mk {K:PySem.W.Frag} {n:Str} {st:Stmt} {f:Addr} {oc:Value} {od an:Option Addr} {sl:Array (Option Value)} {kV dc pm cd ct:Value} (a:PySem.W.nsIn K mainGlobals n = some (some (.ref f))) (l:K.lookup f = some ⟨oc,od,.func (PySem.W.fnOf n n (defArgs st) (defBody st) (defScope st) .none kV dc pm an cd ct),sl⟩) (c:PySem.W.codeIn K cd n = true) (k:PySem.W.keepIn K (.ref f) = true):Fe K n st:=⟨f,_,a,fun_mk l c k⟩
theorem df (P:Program) (w:World) {K:PySem.W.Frag} {h:Heap} {mg:Str→Option Value} {N:Nat} {n:Str} {st:Stmt} {ps:List Str} {sp:Sp} (X:K.In h) (G:h.Ns mainGlobals mg) (e:Fe K n st) (ok:∀ {f fd},Fun K n n st f fd→∀ base,FnOk P w K mg base CX0 N f fd ps sp)
  (hb:∀ (kV doc pm:Value) (an:Option Addr) (cdv ct:Value) (us:List Value),us.length = ps.length→bindArgs (PySem.W.fnOf n n (defArgs st) (defBody st) (defScope st) .none kV doc pm an cdv ct) ⟨us,[]⟩ = pure (ps.zip us)):∀ base,Def P w K mg base CX0 N n ps sp:=by
 obtain ⟨f,fd,a,F⟩:=e
 exact fun base=>⟨f,fd,PySem.W.mg_of X G a,F.kp,F.binds hb,ok F base⟩
theorem dfL (P:Program) (w:World) {K:PySem.W.Frag} {h:Heap} {mg:Str→Option Value} {N:Nat} {st:Stmt} {ps:List Str} {sp:Sp} (X:K.In h) (G:h.Ns mainGlobals mg) (e:Fe K lamDef st) (ok:∀ {f fd},PySem.W.nsIn K mainGlobals lamDef = some (some (.ref f))→Fun K lamDef lamDef st f fd→∀ base,FnOk P w K mg base CX0 N f fd ps sp)
  (hb:∀ (kV doc pm:Value) (an:Option Addr) (cdv ct:Value) (us:List Value),us.length = ps.length→bindArgs (PySem.W.fnOf lamDef lamDef (defArgs st) (defBody st) (defScope st) .none kV doc pm an cdv ct) ⟨us,[]⟩ = pure (ps.zip us)):∀ base,Def P w K mg base CX0 N lamDef ps sp:=by
 obtain ⟨f,fd,a,F⟩:=e
 exact fun base=>⟨f,fd,PySem.W.mg_of X G a,F.kp,F.binds hb,ok a F base⟩
theorem ar1 {α:Type} {P:List α → Prop} (h:∀ a,P [a]) (us:List α) (e:us.length = 1):P us:=by
 obtain ⟨a,rfl⟩:=len1 e
 exact h a
theorem ar2 {α:Type} {P:List α → Prop} (h:∀ a b,P [a,b]) (us:List α) (e:us.length = 2):P us:=by
 obtain ⟨a,b,rfl⟩:=len2 e
 exact h a b
theorem ar3 {α:Type} {P:List α → Prop} (h:∀ a b c,P [a,b,c]) (us:List α) (e:us.length = 3):P us:=by
 cases us with
 | nil=>cases e
 | cons a t=>exact ar2 (P:=fun t=>P (a :: t)) (h a) t (Nat.succ.inj e)
theorem all_mk {l:PySem.W.OpenLaw} {w:World} {K:PySem.W.Frag} {h:Heap} {mg:Str→Option Value} {fa:Addr} (X:K.In h) (G:h.Ns mainGlobals mg) (hfa:mg "law" = some (.ref fa))
  (e0:Fe K "_law_take" (top 33))
  (e1:Fe K "_law_house" (top 34))
  (e2:Fe K "_law_house_copy" (top 39))
  (e3:Fe K "_law_bag" (top 32))
  (e4:Fe K "_law_row" (top 35))
  (e5:Fe K "_law_are_free" (top 37))
  (e6:Fe K "_law_lowest" (top 38))
  (e7:Fe K "_law_places" (top 41))
  (e8:Fe K "is_pair" (top 3))
  (e9:Fe K "is_whole" (top 1))
  (e10:Fe K "is_count_of_hands" (top 16))
  (e11:Fe K "is_number_below" (top 2))
  (e12:Fe K "are_numbers_below" (top 5))
  (e13:Fe K "is_list_of_numbers_below" (top 4))
  (e14:Fe K "is_rising_list_below" (top 6))
  (e15:Fe K "is_small_letter" (top 19))
  (e16:Fe K "is_entry" (top 18))
  (e17:Fe K "are_entries" (top 17))
  (e18:Fe K "is_house" (top 15))
  (e19:Fe K "need_house" (top 20))
  (e20:Fe K "letters_of" (top 21))
  (e21:Fe K "is_row" (top 24))
  (e22:Fe K "need_row" (top 25))
  (e23:Fe K "hands_of" (top 22))
  (e24:Fe K "is_hand_in_both" (top 23))
  (e25:Fe K "front_places" (top 28))
  (e26:Fe K "place_of_first" (top 27))
  (e27:Fe K "exchanges" (top 29))
  (e28:Fe K "_law_cell" (top 31))
  (e29:Fe K "_law_whole" (top 36))
  (e30:Fe K "_law_walked" (top 40))
  (e31:Fe K "law" (top 42))
  {t_FEWEST_HANDS:Tok} (i_FEWEST_HANDS:PySem.W.nsIn K mainGlobals "FEWEST_HANDS" = some (some (.int 2 t_FEWEST_HANDS)))
  {t_MOST_HANDS:Tok} (i_MOST_HANDS:PySem.W.nsIn K mainGlobals "MOST_HANDS" = some (some (.int 4 t_MOST_HANDS)))
  {t_MOST_LETTERS:Tok} (i_MOST_LETTERS:PySem.W.nsIn K mainGlobals "MOST_LETTERS" = some (some (.int 6 t_MOST_LETTERS)))
  (z_isinstance:PySem.W.nsIn K mainGlobals "isinstance" = some none)
  (z_len:PySem.W.nsIn K mainGlobals "len" = some none)
  (z_all:PySem.W.nsIn K mainGlobals "all" = some none)
  (z_any:PySem.W.nsIn K mainGlobals "any" = some none)
  (z_range:PySem.W.nsIn K mainGlobals "range" = some none)
  (z_list:PySem.W.nsIn K mainGlobals "list" = some none)
  (z_int:PySem.W.nsIn K mainGlobals "int" = some none)
  (z_bool:PySem.W.nsIn K mainGlobals "bool" = some none)
  (z_tuple:PySem.W.nsIn K mainGlobals "tuple" = some none)
  (z_str:PySem.W.nsIn K mainGlobals "str" = some none)
  (z_abs:PySem.W.nsIn K mainGlobals "abs" = some none)
  (z_max:PySem.W.nsIn K mainGlobals "max" = some none)
  (z_min:PySem.W.nsIn K mainGlobals "min" = some none)
  (z_dict:PySem.W.nsIn K mainGlobals "dict" = some none)
  (z_sorted:PySem.W.nsIn K mainGlobals "sorted" = some none)
  (z_set:PySem.W.nsIn K mainGlobals "set" = some none)
  (z_enumerate:PySem.W.nsIn K mainGlobals "enumerate" = some none)
  {c b:Addr} (ht:PySem.W.tabIn K lamDef = some (c,b)) (hh:PySem.W.codeHdIn K c b = true)
  : ∃ fd:FuncData,(∀ (s:Shared) (v:Value),BindsTo s fd ⟨[v],[]⟩ [("_law_script",v)])∧∀ base:Heap,K.In base→base.Ns mainGlobals mg→FnOk l.prog w K mg base CX0 13 fa fd ["_law_script"] (spJ K fn_law 1):=by
 have z {n:Str} (e:PySem.W.nsIn K mainGlobals n = some none):=PySem.W.mg_none_of X G e
 have B:Blt mg K:=⟨z z_isinstance,z z_len,z z_all,z z_any,z z_range,z z_list,z z_int,z z_bool,z z_tuple,z z_str,z z_abs,z z_max,z z_min,z z_dict⟩
 have B2:Blt2 mg:=⟨z z_sorted,z z_set,z z_enumerate⟩
 have g_FEWEST_HANDS:GInt mg "FEWEST_HANDS" 2:=⟨⟨_,PySem.W.mg_of X G i_FEWEST_HANDS⟩⟩
 have g_MOST_HANDS:GInt mg "MOST_HANDS" 4:=⟨⟨_,PySem.W.mg_of X G i_MOST_HANDS⟩⟩
 have g_MOST_LETTERS:GInt mg "MOST_LETTERS" 6:=⟨⟨_,PySem.W.mg_of X G i_MOST_LETTERS⟩⟩
 have D__law_take:=df l.prog w X G e0 (fun F s=>ok__law_take F B B2) fun _ _ _ _ _ _=>ar2 fun _ _=>rfl
 have D__law_house:=df l.prog w X G e1 (fun F s=>ok__law_house F B B2 (D__law_take s)) fun _ _ _ _ _ _=>ar1 fun _=>rfl
 have D__law_house_copy:=df l.prog w X G e2 (fun F s=>ok__law_house_copy F B B2) fun _ _ _ _ _ _=>ar1 fun _=>rfl
 have D__law_bag:=df l.prog w X G e3 (fun F s=>ok__law_bag F B B2) fun _ _ _ _ _ _=>ar1 fun _=>rfl
 have D__law_row:=df l.prog w X G e4 (fun F s=>ok__law_row F B B2 (D__law_take s)) fun _ _ _ _ _ _=>ar3 fun _ _ _=>rfl
 have D__law_are_free:=df l.prog w X G e5 (fun F s=>ok__law_are_free F B B2) fun _ _ _ _ _ _=>ar3 fun _ _ _=>rfl
 have D__law_lowest:=df l.prog w X G e6 (fun F s=>ok__law_lowest F B B2 (D__law_are_free s)) fun _ _ _ _ _ _=>ar2 fun _ _=>rfl
 have D__law_places:=df l.prog w X G e7 (fun F s=>ok__law_places F B B2) fun _ _ _ _ _ _=>ar2 fun _ _=>rfl
 have D_is_pair:=df l.prog w X G e8 (fun F s=>ok_is_pair F B B2) fun _ _ _ _ _ _=>ar1 fun _=>rfl
 have D_is_whole:=df l.prog w X G e9 (fun F s=>ok_is_whole F B B2) fun _ _ _ _ _ _=>ar1 fun _=>rfl
 have D_is_count_of_hands:=df l.prog w X G e10 (fun F s=>ok_is_count_of_hands F B B2 (D_is_whole s) g_FEWEST_HANDS g_MOST_HANDS) fun _ _ _ _ _ _=>ar1 fun _=>rfl
 have D_is_number_below:=df l.prog w X G e11 (fun F s=>ok_is_number_below F B B2 (D_is_whole s)) fun _ _ _ _ _ _=>ar2 fun _ _=>rfl
 have D_are_numbers_below:=df l.prog w X G e12 (fun F s=>ok_are_numbers_below F B B2 (D_is_number_below s)) fun _ _ _ _ _ _=>ar2 fun _ _=>rfl
 have D_is_list_of_numbers_below:=df l.prog w X G e13 (fun F s=>ok_is_list_of_numbers_below F B B2 (D_are_numbers_below s)) fun _ _ _ _ _ _=>ar2 fun _ _=>rfl
 have D_is_rising_list_below:=df l.prog w X G e14 (fun F s=>ok_is_rising_list_below F B B2 (D_is_list_of_numbers_below s)) fun _ _ _ _ _ _=>ar2 fun _ _=>rfl
 have D_is_small_letter:=df l.prog w X G e15 (fun F s=>ok_is_small_letter F B B2) fun _ _ _ _ _ _=>ar1 fun _=>rfl
 have D_is_entry:=df l.prog w X G e16 (fun F s=>ok_is_entry F B B2 (D_is_rising_list_below s) (D_is_pair s) (D_is_small_letter s)) fun _ _ _ _ _ _=>ar2 fun _ _=>rfl
 have D_are_entries:=df l.prog w X G e17 (fun F s=>ok_are_entries F B B2 (D_is_entry s) g_MOST_LETTERS) fun _ _ _ _ _ _=>ar2 fun _ _=>rfl
 have D_is_house:=df l.prog w X G e18 (fun F s=>ok_is_house F B B2 (D_is_pair s) (D_is_count_of_hands s) (D_are_entries s)) fun _ _ _ _ _ _=>ar1 fun _=>rfl
 have D_need_house:=df l.prog w X G e19 (fun F s=>ok_need_house F B B2 (D_is_house s)) fun _ _ _ _ _ _=>ar1 fun _=>rfl
 have D_letters_of:=df l.prog w X G e20 (fun F s=>ok_letters_of F B B2) fun _ _ _ _ _ _=>ar1 fun _=>rfl
 have D_is_row:=df l.prog w X G e21 (fun F s=>ok_is_row F B B2 (D_need_house s) (D_letters_of s)) fun _ _ _ _ _ _=>ar2 fun _ _=>rfl
 have D_need_row:=df l.prog w X G e22 (fun F s=>ok_need_row F B B2 (D_is_row s)) fun _ _ _ _ _ _=>ar2 fun _ _=>rfl
 have D_hands_of:=df l.prog w X G e23 (fun F s=>ok_hands_of F B B2 (D_letters_of s)) fun _ _ _ _ _ _=>ar2 fun _ _=>rfl
 have D_is_hand_in_both:=df l.prog w X G e24 (fun F s=>ok_is_hand_in_both F B B2) fun _ _ _ _ _ _=>ar2 fun _ _=>rfl
 have D_front_places:=df l.prog w X G e25 (fun F s=>ok_front_places F B B2 (D_hands_of s) (D_is_hand_in_both s)) fun _ _ _ _ _ _=>ar2 fun _ _=>rfl
 have D_place_of_first:=dfL l.prog w X G e26 (fun a F s=>ok_place_of_first F a ht hh B B2 (D_front_places s)) fun _ _ _ _ _ _=>ar2 fun _ _=>rfl
 have D_exchanges:=df l.prog w X G e27 (fun F s=>ok_exchanges F B B2 (D_need_row s) (D_place_of_first s)) fun _ _ _ _ _ _=>ar2 fun _ _=>rfl
 have D__law_cell:=df l.prog w X G e28 (fun F s=>ok__law_cell F B B2) fun _ _ _ _ _ _=>ar2 fun _ _=>rfl
 have D__law_whole:=df l.prog w X G e29 (fun F s=>ok__law_whole F B B2) fun _ _ _ _ _ _=>ar1 fun _=>rfl
 have D__law_walked:=df l.prog w X G e30 (fun F s=>ok__law_walked F B B2 (D__law_are_free s) (D__law_whole s)) fun _ _ _ _ _ _=>ar3 fun _ _ _=>rfl
 obtain ⟨f,fd,a,F⟩:=e31
 cases hfa.symm.trans (PySem.W.mg_of X G a)
 refine ⟨fd,?_,fun s _ _=>ok_law F B B2 (D__law_house s) (D__law_house_copy s) (D__law_bag s) (D__law_row s) (D__law_lowest s) (D__law_places s) (D_exchanges s) (D__law_cell s) (D__law_walked s)⟩
 obtain ⟨_,_,_,_,_,_,_,_,_,rfl,_,_⟩:=F.ex
 exact fun s v=>.of_eq rfl
theorem walk {l:PySem.W.OpenLaw} {q:Program} {loose:List Str} {XP:(Str→Option Value)→Heap→Prop} {YP:World→Heap→Prop} {d:DefRec} {K:Params→PySem.W.Frag} (hn:l.most = some 63) (hdf:d.params.defaults = [])
  (hY:∀ (w:World) (h:Heap),YP w h→(K w.params).In h)
  (F:∀ (w:World) (mg:Str→Option Value) (fa:Addr) (h:Heap),(K w.params).In h→h.Ns mainGlobals mg→mg d.name = some (.ref fa) →
   ∃ fd:FuncData,(∀ (s:Shared) (u:Value),BindsTo s fd ⟨[u],[]⟩ [("_law_script",u)])∧∀ base:Heap,(K w.params).In base→base.Ns mainGlobals mg→FnOk l.prog w (K w.params) mg base CX0 13 fa fd ["_law_script"] (spJ (K w.params) fn_law 1)) (hT:∀ (w:World) (c b:Addr),PySem.W.tabIn (K w.params) lamDef = some (c,b)→(∃ d2,(recsOf q).find? (fun e=>e.name == lamDef) = some d2)∧(K w.params).lookup b = none) :
  PySem.W.WalkO q loose XP YP l.row.toRowW d [] (fun f vs=>PySem.call f vs):=
 L2.walk_of (n:=63) (k:=13) (x := "_law_script") (CX:=fun _=>CX0) (sp:=fun w=>spJ (K w.params) fn_law 1) hn (by decide) hdf ⟨rfl,by decide,by decide⟩ hY F (fun _ H a ns hl hO hS=>let ⟨_,e⟩:=law_true ns hl; law_sp hl hO hS e) (fun _ _ _ _ _ z=>z) hT
noncomputable def fo (n:Str) (i:Nat) (m:Str) (t:Tok) (c:Addr):Obj:={ cls:=.type "function",data:=.func (PySem.W.fnOf n n (defArgs (top i)) (defBody (top i)) (defScope (top i)) .none .none .none (.str m t) none (.ref c) .none) }
noncomputable def co (n:Str) (t:Nat) (l k:Int) (r:Nat) (x y:Value) (q:Nat) (u:Int) (v:Nat):Obj:={ cls:=.type "code",data:=.fields #[.str n t,.str n (t + 1),.str "/claim/cut.py" (t + 2),.int l 0,.int k 0,.int 0 0,.int 0 0,.int 3 0,.ref r,.bool true,.int 181 0,.ref (r + 1),.none,x,y,.ref q,.int u 0,.int l 0,.str "/claim/cut.py" v] }
noncomputable def en (P:Params) (n:Str) (t:Tok) (v:Value):DictEntry:=⟨PyData.keyHash P n,.str n t,v⟩
noncomputable def gE (P:Params):List DictEntry:=[en P "__name__" 165 (.str "law_handsapart_k13_exchanges" 402),
 en P "__doc__" 166 .none,
 en P "__package__" 167 .none,
 en P "__loader__" 168 (.builtin "__main__.__loader__#opaque"),
 en P "__spec__" 169 .none,
 en P "__annotations__" 170 (.ref 6),
 en P "__builtins__" 171 (.ref 4),
 en P "__file__" 173 (.str "/claim/cut.py" 172),
 en P "__cached__" 174 .none,
 en P "is_whole" 195 (.ref 21),
 en P "is_number_below" 203 (.ref 28),
 en P "is_pair" 210 (.ref 35),
 en P "is_list_of_numbers_below" 218 (.ref 42),
 en P "are_numbers_below" 224 (.ref 47),
 en P "is_rising_list_below" 230 (.ref 52),
 en P "HandError" 250 (.ref 62),
 en P "NoHouse" 266 (.ref 75),
 en P "NoRow" 282 (.ref 87),
 en P "FEWEST_HANDS" 286 (.int 2 285),
 en P "MOST_HANDS" 288 (.int 4 287),
 en P "MOST_LETTERS" 290 (.int 6 289),
 en P "is_house" 297 (.ref 96),
 en P "is_count_of_hands" 304 (.ref 103),
 en P "are_entries" 310 (.ref 108),
 en P "is_entry" 318 (.ref 115),
 en P "is_small_letter" 325 (.ref 122),
 en P "need_house" 332 (.ref 129),
 en P "letters_of" 338 (.ref 134),
 en P "hands_of" 346 (.ref 141),
 en P "is_hand_in_both" 352 (.ref 146),
 en P "is_row" 358 (.ref 151),
 en P "need_row" 366 (.ref 158),
 en P "place_of_first" 377 (.ref 165),
 en P "front_places" 390 (.ref 172),
 en P "exchanges" 401 (.ref 179),
 en P "_law_cell" 411 (.ref 186),
 en P "_law_bag" 418 (.ref 193),
 en P "_law_take" 427 (.ref 200),
 en P "_law_house" 433 (.ref 205),
 en P "_law_row" 445 (.ref 212),
 en P "_law_whole" 452 (.ref 219),
 en P "_law_are_free" 458 (.ref 224),
 en P "_law_lowest" 464 (.ref 229),
 en P "_law_house_copy" 470 (.ref 234),
 en P "_law_walked" 481 (.ref 241),
 en P "_law_places" 493 (.ref 248),
 en P "law" 499 (.ref 253)]
noncomputable def gD (P:Params):Obj:={ cls:=.type "dict",data:=.dict (gE P).toArray 47 }
noncomputable def Kf:Params→PySem.W.Frag:=fun P=>(nat_lit 3,gD P) ::
 (nat_lit 20,co "is_whole" 189 2 1 15 (.ref 17) (.ref 18) 19 193 194) ::
 (nat_lit 21,fo "is_whole" 1 "handsapart.checks" 187 20) ::
 (nat_lit 27,co "is_number_below" 196 4 2 22 (.ref 24) (.ref 25) 26 201 202) ::
 (nat_lit 28,fo "is_number_below" 2 "handsapart.checks" 187 27) ::
 (nat_lit 34,co "is_pair" 204 6 1 29 (.ref 31) (.ref 32) 33 208 209) ::
 (nat_lit 35,fo "is_pair" 3 "handsapart.checks" 187 34) ::
 (nat_lit 41,co "is_list_of_numbers_below" 211 8 2 36 (.ref 38) (.ref 39) 40 216 217) ::
 (nat_lit 42,fo "is_list_of_numbers_below" 4 "handsapart.checks" 187 41) ::
 (nat_lit 46,co "are_numbers_below" 219 10 2 43 .none .none 45 222 223) ::
 (nat_lit 47,fo "are_numbers_below" 5 "handsapart.checks" 187 46) ::
 (nat_lit 51,co "is_rising_list_below" 225 12 2 48 .none .none 50 228 229) ::
 (nat_lit 52,fo "is_rising_list_below" 6 "handsapart.checks" 187 51) ::
 (nat_lit 95,co "is_house" 291 27 1 90 (.ref 92) (.ref 93) 94 295 296) ::
 (nat_lit 96,fo "is_house" 15 "handsapart.houses" 283 95) ::
 (nat_lit 102,co "is_count_of_hands" 298 31 1 97 (.ref 99) (.ref 100) 101 302 303) ::
 (nat_lit 103,fo "is_count_of_hands" 16 "handsapart.houses" 283 102) ::
 (nat_lit 107,co "are_entries" 305 33 2 104 .none .none 106 308 309) ::
 (nat_lit 108,fo "are_entries" 17 "handsapart.houses" 283 107) ::
 (nat_lit 114,co "is_entry" 311 39 2 109 (.ref 111) (.ref 112) 113 316 317) ::
 (nat_lit 115,fo "is_entry" 18 "handsapart.houses" 283 114) ::
 (nat_lit 121,co "is_small_letter" 319 43 1 116 (.ref 118) (.ref 119) 120 323 324) ::
 (nat_lit 122,fo "is_small_letter" 19 "handsapart.houses" 283 121) ::
 (nat_lit 128,co "need_house" 326 45 1 123 (.ref 125) (.ref 126) 127 330 331) ::
 (nat_lit 129,fo "need_house" 20 "handsapart.houses" 283 128) ::
 (nat_lit 133,co "letters_of" 333 48 1 130 .none .none 132 336 337) ::
 (nat_lit 134,fo "letters_of" 21 "handsapart.houses" 283 133) ::
 (nat_lit 140,co "hands_of" 339 50 2 135 (.ref 137) (.ref 138) 139 344 345) ::
 (nat_lit 141,fo "hands_of" 22 "handsapart.houses" 283 140) ::
 (nat_lit 145,co "is_hand_in_both" 347 52 2 142 .none .none 144 350 351) ::
 (nat_lit 146,fo "is_hand_in_both" 23 "handsapart.houses" 283 145) ::
 (nat_lit 150,co "is_row" 353 54 2 147 .none .none 149 356 357) ::
 (nat_lit 151,fo "is_row" 24 "handsapart.houses" 283 150) ::
 (nat_lit 157,co "need_row" 359 60 2 152 (.ref 154) (.ref 155) 156 364 365) ::
 (nat_lit 158,fo "need_row" 25 "handsapart.houses" 283 157) ::
 (nat_lit 164,co "place_of_first" 369 64 2 159 (.ref 161) (.ref 162) 163 375 376) ::
 (nat_lit 165,fo "place_of_first" 27 "handsapart.rows" 367 164) ::
 (nat_lit 171,co "front_places" 378 66 2 166 (.ref 168) (.ref 169) 170 388 389) ::
 (nat_lit 172,fo "front_places" 28 "handsapart.rows" 367 171) ::
 (nat_lit 178,co "exchanges" 391 75 2 173 (.ref 175) (.ref 176) 177 399 400) ::
 (nat_lit 179,fo "exchanges" 29 "handsapart.rows" 367 178) ::
 (nat_lit 185,co "_law_cell" 404 84 2 180 (.ref 182) (.ref 183) 184 409 410) ::
 (nat_lit 186,fo "_law_cell" 31 "law_handsapart_k13_exchanges" 402 185) ::
 (nat_lit 192,co "_law_bag" 412 88 1 187 (.ref 189) (.ref 190) 191 416 417) ::
 (nat_lit 193,fo "_law_bag" 32 "law_handsapart_k13_exchanges" 402 192) ::
 (nat_lit 199,co "_law_take" 419 92 2 194 (.ref 196) (.ref 197) 198 425 426) ::
 (nat_lit 200,fo "_law_take" 33 "law_handsapart_k13_exchanges" 402 199) ::
 (nat_lit 204,co "_law_house" 428 100 1 201 .none .none 203 431 432) ::
 (nat_lit 205,fo "_law_house" 34 "law_handsapart_k13_exchanges" 402 204) ::
 (nat_lit 211,co "_law_row" 434 114 3 206 (.ref 208) (.ref 209) 210 443 444) ::
 (nat_lit 212,fo "_law_row" 35 "law_handsapart_k13_exchanges" 402 211) ::
 (nat_lit 218,co "_law_whole" 446 122 1 213 (.ref 215) (.ref 216) 217 450 451) ::
 (nat_lit 219,fo "_law_whole" 36 "law_handsapart_k13_exchanges" 402 218) ::
 (nat_lit 223,co "_law_are_free" 453 124 3 220 .none .none 222 456 457) ::
 (nat_lit 224,fo "_law_are_free" 37 "law_handsapart_k13_exchanges" 402 223) ::
 (nat_lit 228,co "_law_lowest" 459 129 2 225 .none .none 227 462 463) ::
 (nat_lit 229,fo "_law_lowest" 38 "law_handsapart_k13_exchanges" 402 228) ::
 (nat_lit 233,co "_law_house_copy" 465 140 1 230 .none .none 232 468 469) ::
 (nat_lit 234,fo "_law_house_copy" 39 "law_handsapart_k13_exchanges" 402 233) ::
 (nat_lit 240,co "_law_walked" 471 142 3 235 (.ref 237) (.ref 238) 239 479 480) ::
 (nat_lit 241,fo "_law_walked" 40 "law_handsapart_k13_exchanges" 402 240) ::
 (nat_lit 247,co "_law_places" 482 151 2 242 (.ref 244) (.ref 245) 246 491 492) ::
 (nat_lit 248,fo "_law_places" 41 "law_handsapart_k13_exchanges" 402 247) ::
 (nat_lit 252,co "law" 494 159 1 249 .none .none 251 497 498) ::
 (nat_lit 253,fo "law" 42 "law_handsapart_k13_exchanges" 402 252) :: []
theorem tab_at (P:Params):PySem.W.tabIn (Kf P) lamDef = some (nat_lit 164,nat_lit 160):=by kernel_rfl
theorem hd_at (P:Params):PySem.W.codeHdIn (Kf P) (nat_lit 164) (nat_lit 160) = true:=by kernel_rfl
theorem no_at (P:Params):(Kf P).lookup (nat_lit 160) = none:=by kernel_rfl
end Gk13
open PySem PySem.W PyProof.Rows
set_option maxRecDepth 100000 in
set_option maxHeartbeats 0 in
theorem PySem.Challenge.cw_handsapart_k13_exchanges_holds : PySem.Challenge.rw_handsapart_k13_exchanges.Holds := by
 w_on; o_law; o_head (PySem.W.kHook Gk13.Kf (nat_lit 3 :: nat_lit 20 :: nat_lit 21 :: nat_lit 27 :: nat_lit 28 :: nat_lit 34 :: nat_lit 35 :: nat_lit 41 :: nat_lit 42 :: nat_lit 46 :: nat_lit 47 :: nat_lit 51 :: nat_lit 52 :: nat_lit 95 :: nat_lit 96 :: nat_lit 102 :: nat_lit 103 :: nat_lit 107 :: nat_lit 108 :: nat_lit 114 :: nat_lit 115 :: nat_lit 121 :: nat_lit 122 :: nat_lit 128 :: nat_lit 129 :: nat_lit 133 :: nat_lit 134 :: nat_lit 140 :: nat_lit 141 :: nat_lit 145 :: nat_lit 146 :: nat_lit 150 :: nat_lit 151 :: nat_lit 157 :: nat_lit 158 :: nat_lit 164 :: nat_lit 165 :: nat_lit 171 :: nat_lit 172 :: nat_lit 178 :: nat_lit 179 :: nat_lit 185 :: nat_lit 186 :: nat_lit 192 :: nat_lit 193 :: nat_lit 199 :: nat_lit 200 :: nat_lit 204 :: nat_lit 205 :: nat_lit 211 :: nat_lit 212 :: nat_lit 218 :: nat_lit 219 :: nat_lit 223 :: nat_lit 224 :: nat_lit 228 :: nat_lit 229 :: nat_lit 233 :: nat_lit 234 :: nat_lit 240 :: nat_lit 241 :: nat_lit 247 :: nat_lit 248 :: nat_lit 252 :: nat_lit 253 :: []) (fun _=>by kernel_rfl)); (case hw=>w_witness2)
 k_fill
 refine Gk13.walk (l:=PySem.Challenge.rw_handsapart_k13_exchanges) rfl rfl (fun w h Y=>PySem.W.kIn_of Y) ?F (fun w c b e=>by
  rw [Gk13.tab_at w.params] at e
  cases e
  exact ⟨Option.isSome_iff_exists.mp (by kernel_rfl),Gk13.no_at w.params⟩)
 case F =>
  intro w mg fa h KX G hmg
  refine' Gk13.all_mk KX G hmg ?_ ?_ ?_ ?_ ?_ ?_ ?_ ?_ ?_ ?_ ?_ ?_ ?_ ?_ ?_ ?_ ?_ ?_ ?_ ?_ ?_ ?_ ?_ ?_ ?_ ?_ ?_ ?_ ?_ ?_ ?_ ?_ ?_ ?_ ?_ ?_ ?_ ?_ ?_ ?_ ?_ ?_ ?_ ?_ ?_ ?_ ?_ ?_ ?_ ?_ ?_ ?_ (Gk13.tab_at w.params) (Gk13.hd_at w.params)
  all_goals first | k_is | (refine' Gk13.fe_mk ?a ?l ?c ?k; (case a=>k_is); (case l=>k_is); (case c=>k_is); (case k=>k_is)) | skip
end
