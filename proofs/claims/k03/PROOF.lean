import PyProof.Rows.All
import Wide.All
import OpenK.AllK
import Wide.FinOn
import KE.KLam
import KE.KNestM
import Lean
import PyProof.EqAt
import PyProof.EqKinds
import PyProof.TupleCall
import PyProof.StationsW
import PyProof.Rows.Catch
import PyProof.NeKinds
import PyProof.Rows.SortShell
import PyProof.Rows.SortWalk
import PyProof.StrBlockI
import PyProof.Rows.Range3
import KE.KDictOf
import PyProof.AttrMissHeap
import PyProof.ConsumeWalk
import KE.KStateDown
import PyProof.EnumMake
import PyProof.Draws
import PyProof.IsRules
import PyProof.Rows.EnumRows
import PyProof.SetScanFacts
import PyProof.SetKind
import PyProof.DictKinds
import PyProof.CollectWalk
import PyProof.FactsAll.set
import PyProof.MakeMany
import PyProof.Rows.SetFrom
import PyProof.ZipIter
import PyProof.StrWalks
import PyProof.Rows.SortStr
import PyProof.Conv_int_bool
import KE.KRevSl
import KE.KMinKey
import PyProof.Rows.StrRules
import KE.KxWritten
import PyProof.ListRange
import PyProof.Rows.CatchOwn
import PyProof.ExcClass
import KE.KDictList
import PyProof.WalkInts
import PyProof.ExcArgsOwn
import PyProof.IsiH_list
import KE.KIsNot
import KE.KIsAll
import PyProof.ExcAttrAll.ValueError
import PyProof.TupleOfSeq
import PySem.Challenge.RW_handsapart_k03_machines_known
open PySem.W (Frag)
open Option (bind_eq_some_iff map_eq_some_iff)
set_option Elab.async false
set_option linter.all false
set_option maxRecDepth 100000
set_option maxHeartbeats 4000000
theorem dK {p:Prop} (h:p:=by decide +kernel):p:=h
section
namespace L2
open PySem PySem.Spec PyProof.Rows
noncomputable abbrev Key:=Sum Int Str
noncomputable def O1:Key→Value→Bool
 | .inl k,v=>Value.isInt k v
 | .inr x,v=>Value.isStrOf x v
noncomputable def Si (w:World):Key→Int
 | .inl k=>hashInt k
 | .inr x=>hashStr w x
theorem BQ:∀ {k:Key} {v:Value},O1 k v = true→(∃ i t,k = Sum.inl i∧v = Value.int i t)∨(∃ x t,k = Sum.inr x∧v = Value.str x t)
 | .inl i,v,h=>by
  obtain ⟨t,e⟩:=Value.isInt_shape (k:=i) (v:=v) h
  exact .inl ⟨i,t,rfl,e⟩
 | .inr x,v,h=>by
  obtain ⟨t,e⟩:=Value.isStrOf_shape (x:=x) (v:=v) h
  exact .inr ⟨x,t,rfl,e⟩
theorem PN (a b:Int):decide ((Sum.inl a:Key) = Sum.inl b) = (a == b):=by
 by_cases e:a = b
 ·subst e; simp
 ·have h:¬ (Sum.inl a:Key) = Sum.inl b:=fun q=>e (Sum.inl.inj q)
  rw [decide_eq_false h]
  exact (beq_eq_false_iff_ne.mpr e).symm
theorem PU (a b:Str):decide ((Sum.inr a:Key) = Sum.inr b) = decide (a = b):=by
 by_cases e:a = b
 ·subst e; simp
 ·have h:¬ (Sum.inr a:Key) = Sum.inr b:=fun q=>e (Sum.inr.inj q)
  rw [decide_eq_false h,decide_eq_false e]
theorem PQ (a:Int) (b:Str):decide ((Sum.inl a:Key) = Sum.inr b) = false:=decide_eq_false (fun q=>nomatch q)
theorem PR (a:Str) (b:Int):decide ((Sum.inr a:Key) = Sum.inl b) = false:=decide_eq_false (fun q=>nomatch q)
noncomputable def KW (prog:Program) (w:World):PySem.KeyKind prog w Key where
 is:=O1
 hash:=Si w
 inj:=fun v a b ha hb=>by
  rcases BQ ha with ⟨i,t,rfl,rfl⟩ | ⟨x,t,rfl,rfl⟩
  ·rcases BQ hb with ⟨j,u,rfl,e⟩ | ⟨y,u,rfl,e⟩
   ·injection e with e1 _; rw [e1]
   ·exact nomatch e
  ·rcases BQ hb with ⟨j,u,rfl,e⟩ | ⟨y,u,rfl,e⟩
   ·exact nomatch e
   ·injection e with e1 _; rw [e1]
 byValue:=fun k v h=>by
  rcases BQ h with ⟨i,t,rfl,rfl⟩ | ⟨x,t,rfl,rfl⟩ <;> rfl
 pyHash:=fun hv h=>by
  rcases BQ hv with ⟨i,t,rfl,rfl⟩ | ⟨x,t,rfl,rfl⟩
  ·exact wpAny_pyHash_int h
  ·exact wpAny_pyHash_str h
 eqBool:=fun hu hv h=>by
  rcases BQ hu with ⟨i,t,rfl,rfl⟩ | ⟨x,t,rfl,rfl⟩
  ·rcases BQ hv with ⟨j,u,rfl,rfl⟩ | ⟨y,u,rfl,rfl⟩
   ·rw [PN] at h; exact wpAny_eqBool_int h
   ·rw [PQ] at h; exact SeqAt.EqAt.int_str i t y u _ _ _ _ h
  ·rcases BQ hv with ⟨j,u,rfl,rfl⟩ | ⟨y,u,rfl,rfl⟩
   ·rw [PR] at h; exact SeqAt.EqAt.str_int x t j u _ _ _ _ h
   ·rw [PU] at h; exact wpAny_eqBool_str h
 «strs»:=fun k x t v h=>by
  rcases BQ h with ⟨i,u,rfl,e⟩ | ⟨y,u,rfl,e⟩
  ·exact nomatch e
  ·injection e with e1 _
   subst e1
   cases v <;> rfl
end L2
namespace L2
open PySem PySem.Spec PyProof.Rows
inductive V where
 | non | bl (b:Bool) | int (i:Int) | str (x:Str) | byt (b:Array UInt8) | flt (b:UInt64) | ref (a:Addr) | ty (n:String)
 deriving DecidableEq
noncomputable def RelV:V→Value→Prop
 | .non,u=>u = Value.none
 | .bl b,u=>u = Value.bool b
 | .int i,u=>∃ t,u = Value.int i t
 | .str x,u=>∃ t,u = Value.str x t
 | .byt b,u=>∃ t,u = Value.bytes b t
 | .flt b,u=>∃ t,u = Value.float b t
 | .ref a,u=>u = Value.ref a
 | .ty n,u=>u = Value.type n
noncomputable abbrev Vals:List V→List Value→Prop:=Paired RelV
theorem Vals.length {xs:List V} {us:List Value} (r:Vals xs us):xs.length = us.length:=Paired.length r
theorem Vals.get:∀ {xs:List V} {us:List Value} {i:Nat} {x:V},Vals xs us→xs[i]? = some x→∃ u,us[i]? = some u∧RelV x u
 | _,_,_,_,.nil,e=>by simp at e
 | _,_,0,_,.cons r _,e=>by simp at e; subst e; exact ⟨_,rfl,r⟩
 | _,_,i + 1,x,.cons _ t,e=>by
  obtain ⟨u,h1,h2⟩:=Vals.get (i:=i) (x:=x) t (by simpa using e)
  exact ⟨u,by simpa using h1,h2⟩
theorem Vals.set {x:V} {u:Value} (r:RelV x u):∀ {xs:List V} {us:List Value} (i:Nat),Vals xs us→Vals (xs.set i x) (us.set i u)
 | _,_,_,.nil=>.nil
 | _,_,0,.cons _ t=>.cons r t
 | _,_,i + 1,.cons q t=>.cons q (Vals.set r i t)
theorem Vals.append {xs ys:List V} {us ws:List Value} (h:Vals xs us) (s:Vals ys ws):Vals (xs ++ ys) (us ++ ws):=by
 induction h with
 | nil=>exact s
 | cons r t ih=>exact .cons r ih
theorem Vals.take:∀ {xs:List V} {us:List Value} (n:Nat),Vals xs us→Vals (xs.take n) (us.take n)
 | _,_,0,_=>.nil
 | _,_,_ + 1,.nil=>.nil
 | _,_,n + 1,.cons r t=>.cons r (Vals.take n t)
theorem Vals.drop:∀ {xs:List V} {us:List Value} (n:Nat),Vals xs us→Vals (xs.drop n) (us.drop n)
 | _,_,0,r=>r
 | _,_,_ + 1,.nil=>.nil
 | _,_,n + 1,.cons _ t=>Vals.drop n t
noncomputable def Pf:Option V→Option Value→Prop
 | some v,some u=>RelV v u
 | none,none=>True
 | _,_=>False
noncomputable def KV {κ:Type}:List (κ × V)→List (κ × Value)→Prop:=Paired fun (p : κ × V) (q : κ × Value)=>p.1 = q.1∧RelV p.2 q.2
noncomputable def kV:Key→V
 | .inl i=>.int i
 | .inr x=>.str x
inductive HO where
 /-- a list -/
 | lst (xs:List V)
 /-- a tuple (never changes) -/
 | tup (xs:List V)
 /-- a dict whose keys are ints and texts; one whose keys are tuples of ints and texts (the empty one is both) -/
 | dK (kvs:List (Key × V)) | dT (kvs:List (List Key × V))
 /-- a set of ints: its members,its size -/
 | set (S:Int→Bool) (n:Nat)
 /-- an instance of the class at C,its dict at dx,its attributes -/
 | ins (C dx:Addr) (fs:List (Str × V))
 /-- the dict of the instance at x -/
 | own (x:Addr)
 /-- the dict of an exception -/
 | xd (fs:List (Str × V))
 /-- a bound method,f of x -/
 | met (f x:Addr)
 /-- a range object lo,lo + 1,.. below hi -/
 | rng (lo hi:Int)
 /-- a thing that is known to the object (the script; a dict while a loop walks it): read,never written while it is so -/
 | frz (o:Obj) (u:HO)
 /-- a code object's table -/
 | tbl (ps:Array Value)
 /-- any other thing,by what is true of its one object (a def of one's own: SetO a S n:=HO.ext fun h=>..) -/
 | ext (φ : Heap→Prop)
noncomputable abbrev Hp:=Addr→Option HO
noncomputable def upd (H:Hp) (a:Addr) (o:HO):Hp:=fun b=>if b = a then some o else H b
theorem AV {H:Hp} {a:Addr} {o:HO}:upd H a o a = some o:=by unfold upd; rw [if_pos rfl]
theorem Ax {H:Hp} {a b:Addr} {o:HO} (h:b≠a):upd H a o b = H b:=by unfold upd; rw [if_neg h]
theorem CW {H:Hp} {a b:Addr} {o:HO} (h:H a = some o) (h':H b = none):a≠b:=by
 intro e; subst e; rw [h] at h'; cases h'
noncomputable abbrev Bp:Str := "law"
noncomputable abbrev Bv:Str := "law.<locals>.<lambda>"
noncomputable def Rf (H:Hp) (h:Heap) (a:Addr) (ps:Array Value):Prop:=∃ qs:Array Value,h.get? a = some { cls:=.none,data:=.fields qs }∧TriplesOk qs.toList ∧
 ∀ pos c,codeAmong pos qs.toList = some c→∃ c' oc vs t q,c = .ref c'∧H c' = some (.own a)∧h.get? c' = some oc∧oc.data = .fields vs∧vs[1]? = some (.str q t)∧ps[0]? = some (.str q 0)
noncomputable def Ll (K:Frag) (H:Hp):Prop:=∀ c P,PySem.W.tabIn K Bp = some (c,P)→∃ ps,H P = some (.tbl ps)∧ps[0]? = some (.str Bv 0)
section
variable (P:Program) (w:World)
noncomputable def B7 (H:Hp) (h:Heap) (a:Addr):HO→Prop
 | .lst xs=>xs.length≤sizeLine∧∃ (its:List Value) (n:Nat),Vals xs its∧h.get? a = some { cls:=.type "list",data:=.seq its.toArray n }
 | .tup xs=>xs.length≤sizeLine∧∃ its:List Value,Vals xs its∧IsTup h a its.toArray
 | .dK kvs=>kvs.length≤sizeLine∧(a == sysModules) = false∧∃ vs,KV kvs vs∧h.DictOf (KW P w) a vs
 | .dT kvs=>kvs.length≤sizeLine∧(a == sysModules) = false∧∃ xs:List (List Key × Addr × Value),
   Paired (fun (p:List Key × V) (q:List Key × Addr × Value)=>p.1 = q.1∧H q.2.1 = some (.tup (p.1.map kV))∧RelV p.2 q.2.2) kvs xs ∧
   ∃ o es ep,h.get? a = some o∧o.ExactDict∧o.data = .dict es ep∧es.toList = xs.map (entryOfKey (tupleKind (KW P w)))∧(xs.map (·.1)).Nodup
 | .set S n=>h.SetOf (intKind P w) a S n
 | .ins C dx fs=>H dx = some (.own a)∧fs.length≤1000∧dx≠a∧h.get? a = some (PySem.W.instObj C dx) ∧
   ∃ mA,h.Ns1 dx mA∧(∀ f,Pf (fs.lookup f) (mA f))∧PySem.Within mA (fs.map (·.1))
 | .own _=>∃ o,h.get? a = some o
 | .xd fs=>∃ mA,h.Ns1 a mA∧∀ f,Pf (fs.lookup f) (mA f)
 | .rng lo hi=>∃ t u v,h.get? a = some { cls:=.type "range",data:=.fields #[.int lo t,.int hi u,.int 1 v] }
 | .frz o u=>h.get? a = some o∧B7 H h a u
 | .tbl ps=>Rf H h a ps
 | .met f x=>h.get? a = some (PySem.W.methodObj (.ref f) (.ref x))
 | .ext φ=>φ h∧(∃ o,h.get? a = some o)∧∀ h1 h2:Heap,φ h1→(∀ o,h1.get? a = some o→h2.get? a = some o) → φ h2
noncomputable def HOk (H:Hp) (h:Heap):Prop:=∀ a o,H a = some o→B7 P w H h a o
end
section
variable {P:Program} {w:World} {H H':Hp} {h h':Heap} {a:Addr} {o:HO}
theorem B7.lt (x:B7 P w H h a o):a < h.objs.size:=by
 cases o with
 | lst xs=>obtain ⟨_,_,_,_,e⟩:=x; exact Heap.lt_size e
 | tup xs=>obtain ⟨_,_,_,p⟩:=x; exact p.lt
 | dK kvs=>obtain ⟨_,_,_,_,o,_,_,e,_⟩:=x; exact Heap.lt_size e
 | dT kvs=>obtain ⟨_,_,_,_,o,_,_,e,_⟩:=x; exact Heap.lt_size e
 | set S n=>obtain ⟨o,_,_,_,e,_⟩:=x; exact Heap.lt_size e
 | ins C dx fs=>obtain ⟨_,_,_,e,_⟩:=x; exact Heap.lt_size e
 | own y=>obtain ⟨_,e⟩:=x; exact Heap.lt_size e
 | xd fs=>obtain ⟨_,⟨_,_,_,e,_⟩,_⟩:=x; exact Heap.lt_size e
 | rng lo hi=>obtain ⟨_,_,_,e⟩:=x; exact Heap.lt_size e
 | frz ob u=>obtain ⟨e,_⟩:=x; exact Heap.lt_size e
 | tbl ps=>obtain ⟨_,e,_⟩:=x; exact Heap.lt_size e
 | met f y=>exact Heap.lt_size (show h.get? a = some _ from x)
 | ext φ=>obtain ⟨_,⟨_,e⟩,_⟩:=x; exact Heap.lt_size e
theorem Paired.mapP {α β:Type} {F G:α → β → Prop} {l₁:List α} {l₂:List β} (h:Paired F l₁ l₂) (f:∀ a b,F a b→G a b):Paired G l₁ l₂:=by
 induction h with
 | nil=>exact .nil
 | cons r t ih=>exact .cons (f _ _ r) ih
theorem B7.stay (x:B7 P w H h a o) (k:∀ b u,(b = a∨H b = some (.own a))→h.get? b = some u→h'.get? b = some u)
  (ho:∀ b,H b = some (.own a)→H' b = some (.own a)) (ht:∀ b xs,H b = some (.tup xs)→H' b = some (.tup xs)):B7 P w H' h' a o:=by
 induction o with
 | lst xs=>obtain ⟨z,its,n,r,e⟩:=x; exact ⟨z,its,n,r,k _ _ (.inl rfl) e⟩
 | tup xs=>obtain ⟨z,its,r,ob,e,c⟩:=x; exact ⟨z,its,r,ob,k _ _ (.inl rfl) e,c⟩
 | dK kvs=>obtain ⟨z,y,vs,r,ob,es,ep,e,c⟩:=x; exact ⟨z,y,vs,r,ob,es,ep,k _ _ (.inl rfl) e,c⟩
 | dT kvs =>
  obtain ⟨z,y,xs,r,ob,es,ep,e,c⟩:=x
  exact ⟨z,y,xs,Paired.mapP r fun p q z=>⟨z.1,ht _ _ z.2.1,z.2.2⟩,ob,es,ep,k _ _ (.inl rfl) e,c⟩
 | set S n=>obtain ⟨ob,es,ep,t,e,c⟩:=x; exact ⟨ob,es,ep,t,k _ _ (.inl rfl) e,c⟩
 | ins C dx fs =>
  obtain ⟨d,z,ne,e,mA,⟨od,es,ep,e2,c⟩,r⟩:=x
  exact ⟨ho _ d,z,ne,k _ _ (.inl rfl) e,mA,⟨od,es,ep,k _ _ (.inr d) e2,c⟩,r⟩
 | own y=>obtain ⟨ob,e⟩:=x; exact ⟨ob,k _ _ (.inl rfl) e⟩
 | xd fs=>obtain ⟨mA,⟨od,es,ep,e,c⟩,r⟩:=x; exact ⟨mA,⟨od,es,ep,k _ _ (.inl rfl) e,c⟩,r⟩
 | rng lo hi=>obtain ⟨t,u,v,e⟩:=x; exact ⟨t,u,v,k _ _ (.inl rfl) e⟩
 | frz ob u ih=>obtain ⟨e,q⟩:=x; exact ⟨k _ _ (.inl rfl) e,ih q⟩
 | tbl ps =>
  obtain ⟨qs,e,tr,f⟩:=x
  refine ⟨qs,k _ _ (.inl rfl) e,tr,fun pos c hc=>?_⟩
  obtain ⟨c',oc,vs,t,q,e1,e2,e3,e4⟩:=f pos c hc
  exact ⟨c',oc,vs,t,q,e1,ho _ e2,k _ _ (.inr e2) e3,e4⟩
 | met f y =>
  have e:h.get? a = some (PySem.W.methodObj (.ref f) (.ref y)):=x
  show h'.get? a = some (PySem.W.methodObj (.ref f) (.ref y))
  exact k a _ (.inl rfl) e
 | ext φ=>obtain ⟨p,⟨o,e⟩,st⟩:=x; exact ⟨st _ _ p fun o q=>k _ _ (.inl rfl) q,⟨o,k _ _ (.inl rfl) e⟩,st⟩
theorem HOk.lt (x:HOk P w H h) (e:H a = some o):a < h.objs.size:=(x a o e).lt
theorem HOk.fresh (x:HOk P w H h) (e:h.objs.size≤a):H a = none:=by
 cases q:H a with
 | none=>rfl
 | some u=>exact absurd (Nat.lt_of_lt_of_le (x.lt q) e) (Nat.lt_irrefl _)
theorem HOk.kept (x:HOk P w H h) (k:∀ b u,h.get? b = some u→h'.get? b = some u):HOk P w H h':=fun a o e =>
 (x a o e).stay (fun b u _ q=>k b u q) (fun _ q=>q) fun _ _ q=>q
theorem HOk.laid (x:HOk P w H h) (k:∀ b u,h.get? b = some u→h'.get? b = some u) (hp:h.objs.size≤a) (new:B7 P w (upd H a o) h' a o):HOk P w (upd H a o) h':=fun b u e=>by
 have hn:=x.fresh hp
 by_cases hb:b = a
 ·subst hb; rw [AV] at e; cases e; exact new
 ·rw [Ax hb] at e
  exact (x b u e).stay (fun c v _ q=>k c v q) (fun c q=>by rw [Ax (CW q hn)]; exact q) fun c xs q=>by rw [Ax (CW q hn)]; exact q
end
noncomputable def Rd (H:Hp) (a:Addr) (u:HO):Prop:=H a = some u∨∃ o,H a = some (.frz o u)
theorem Rd.ok {P:Program} {w:World} {H:Hp} {h:Heap} {a:Addr} {u:HO} (r:Rd H a u) (x:HOk P w H h):B7 P w H h a u:=by
 rcases r with r | ⟨o,r⟩
 ·exact x a u r
 ·obtain ⟨_,q⟩:=x a _ r
  exact q
noncomputable def Mut:Option HO→Prop
 | some (.lst _)=>True
 | some (.dK _)=>True
 | some (.dT _)=>True
 | some (.set _ _)=>True
 | some (.ins _ _ _)=>True
 | some (.ext _)=>True
 | _=>False
section
variable {P:Program} {w:World} {H:Hp} {h h':Heap} {x e:Addr} {o':HO}
theorem HOk.write (ok:HOk P w H h) (mu:Mut (H x)) (he:e = x∨H e = some (.own x)) (k:∀ b u,b≠e→h.get? b = some u→h'.get? b = some u) (heo:∃ u,h'.get? e = some u)
  (new:B7 P w (upd H x o') h' x o'):HOk P w (upd H x o') h':=fun b u q=>by
 have nown:∀ c y,H c = some (.own y)→c≠x:=fun c y r z=>by subst z; rw [r] at mu; exact mu
 have ntup:∀ c xs,H c = some (.tup xs)→c≠x:=fun c xs r z=>by subst z; rw [r] at mu; exact mu
 by_cases hb:b = x
 ·subst hb; rw [AV] at q; cases q; exact new
 ·rw [Ax hb] at q
  by_cases hbe:b = e
  ·have q':H b = some (.own x):=by
    rcases he with z | z
    ·exact absurd (hbe.trans z) hb
    ·rw [hbe]; exact z
   rw [q] at q'; cases q'
   obtain ⟨v,hv⟩:=heo
   exact ⟨v,by rw [hbe]; exact hv⟩
  ·refine (ok b u q).stay (fun c v hc r=>k c v ?_ r) (fun c r=>by rw [Ax (nown c b r)]; exact r) fun c xs r=>by rw [Ax (ntup c xs r)]; exact r
   rcases hc with rfl | hc
   ·exact hbe
   ·rintro rfl
    rcases he with z | z
    ·exact nown c b hc z
    ·rw [hc] at z; cases z; exact hb rfl
end
structure Un (fs ex:List Addr) (H H':Hp) (h h':Heap):Prop where
 keep:∀ b o,h.get? b = some o→H b = none→b ∉ fs→b ∉ ex→h'.get? b = some o
 slot:∀ b o,h.get? b = some o→H b = none→b∈fs→b ∉ ex→∃ sl,h'.get? b = some { o with slots:=sl }
 free:∀ b o,h.get? b = some o→H b = none→b ∉ ex→H' b = none
 there:∀ b o,h.get? b = some o→b ∉ ex→∃ o',h'.get? b = some o'
 tups:∀ b xs,H b = some (.tup xs)→H' b = some (.tup xs)
 frzs:∀ b o u,H b = some (.frz o u)→H' b = some (.frz o u)
 tbls:∀ b ps,H b = some (.tbl ps)→∃ more,H' b = some (.tbl (ps ++ more))
section
variable {fs fs' ex ex':List Addr} {H H1 H2:Hp} {h h1 h2 h':Heap} {a x e:Addr} {o:HO}
theorem Un.any (u:Un fs ex H H1 h h1) {b:Addr} {ob:Obj} (q:h.get? b = some ob) (n:H b = none) (hx:b ∉ ex):∃ sl,h1.get? b = some { ob with slots:=sl }:=by
 by_cases hb:b∈fs
 ·exact u.slot b ob q n hb hx
 ·exact ⟨ob.slots,u.keep b ob q n hb hx⟩
theorem Un.kept (k:∀ b u,h.get? b = some u→h'.get? b = some u):Un fs ex H H h h':=
 ⟨fun b ob q _ _ _=>k b ob q,fun b ob q _ _ _=>⟨ob.slots,k b ob q⟩,fun _ _ _ n _=>n,fun b ob q _=>⟨ob,k b ob q⟩,fun _ _ q=>q,fun _ _ _ q=>q,fun _ ps q=>⟨#[],by rw [q]; simp⟩⟩
theorem Un.refl:Un fs ex H H h h:=Un.kept fun _ _ q=>q
theorem Un.laid (k:∀ b u,h.get? b = some u→h'.get? b = some u) (hp:h.objs.size≤a) (hn:H a = none):Un fs ex H (upd H a o) h h' where
 keep:=fun b u q _ _ _=>k b u q
 slot:=fun b u q _ _ _=>⟨u.slots,k b u q⟩
 free:=fun b u q n _=>by rw [Ax (Nat.ne_of_lt (Nat.lt_of_lt_of_le (Heap.lt_size q) hp))]; exact n
 there:=fun b u q _=>⟨u,k b u q⟩
 tups:=fun b xs q=>by rw [Ax (CW q hn)]; exact q
 frzs:=fun b u xs q=>by rw [Ax (CW q hn)]; exact q
 tbls:=fun b ps q=>⟨#[],by rw [Ax (CW q hn),q]; simp⟩
theorem Un.write (mu:Mut (H x)) (he:e = x∨H e = some (.own x)) (k:∀ b u,b≠e→h.get? b = some u→h'.get? b = some u) (heo:∃ u,h'.get? e = some u):Un fs ex H (upd H x o) h h':=by
 have hx:∀ b,H b = none→b≠x:=fun b n z=>by subst z; rw [n] at mu; exact mu
 have hb:∀ b,H b = none→b≠e:=fun b n z=>by
  subst z
  rcases he with r | r
  ·exact hx b n r
  ·rw [n] at r; cases r
 have hm:∀ b u,H b = some u→¬ Mut (some u)→b≠x:=fun b u q nm z=>by subst z; rw [q] at mu; exact nm mu
 refine ⟨fun b u q n _ _=>k b u (hb b n) q,fun b u q n _ _=>⟨u.slots,k b u (hb b n) q⟩,fun b u q n _=>by rw [Ax (hx b n)]; exact n,fun b u q _=>?_,
  fun b xs q=>by rw [Ax (hm b _ q fun z=>z)]; exact q,fun b u xs q=>by rw [Ax (hm b _ q fun z=>z)]; exact q,fun b ps q=>⟨#[],by rw [Ax (hm b _ q fun z=>z),q]; simp⟩⟩
 by_cases hbe:b = e
 ·subst hbe; exact heo
 ·exact ⟨u,k b u hbe q⟩
end
noncomputable def trk (h:Heap) (H:Hp):List Addr:=(List.range h.objs.size).filter fun a=>(H a).isSome
noncomputable def Hg (h:Heap) (H:Hp):Heap:=PySem.W.hideAll h (trk h H)
theorem Lq (h:Heap) (H:Hp):(Hg h H).objs.size = h.objs.size:=PySem.W.hideAll_size _ _
theorem Ms {h:Heap} {H:Hp} {b:Addr} {o:Obj} (e:h.get? b = some o) (n:H b = none):(Hg h H).get? b = some o:=
 PySem.W.hideAll_get _ e fun hm=>by
  have q:(H b).isSome = true:=(List.mem_filter.mp hm).2
  rw [n] at q; simp at q
theorem Oa {h:Heap} {H:Hp} {b:Addr} {o:Obj} (e:(Hg h H).get? b = some o):h.get? b = some o∧H b = none:=by
 have e':h.get? b = some o:=PySem.W.of_hideAll (trk h H) e
 refine ⟨e',?_⟩
 cases q:H b with
 | none=>rfl
 | some x =>
  have hm:b∈trk h H:=List.mem_filter.mpr ⟨List.mem_range.mpr (Heap.lt_size e'),by simp [q]⟩
  have z:(Hg h H).get? b = none:=PySem.W.hideAll_none (trk h H) hm
  rw [z] at e; cases e
noncomputable def NJ (g h:Heap) (L:Addr):List (Addr × Obj):=(List.range h.objs.size).filterMap fun a=>if a = L∨(g.get? a).isSome = true then none else (h.get? a).map fun o=>(a,o)
noncomputable def rest (g h:Heap) (L d:Addr):List (Addr × Obj):=(NJ g h L).filter fun p=>decide (p.1≠d)
end L2
namespace L2
open PySem PySem.Spec PyProof.Rows
structure Mod (K:Frag) (mg:Str→Option Value) (base:Heap):Prop where
 kin:K.In base
 glob:base.Ns mainGlobals mg
 blt:∃ mb,base.Ns builtinsNs mb∧∀ x:Str,x ≠ "__name__" → mb x = bootBuiltins x
 nolimit:base.NoLimit
 bmain:∃ bm ob,mg "__builtins__" = some (.ref bm)∧bm≠builtinsNs∧base.get? bm = some ob∧ob.cls = .type "module" ∧ ob.dict = some builtinsNs∧ob.data = .plain
structure Cx where
 prog:Program
 w:World
 K:Frag
 mg:Str→Option Value
 base:Heap
 A:Around
 N:List Str
 s₀:Shared
 H₀:Hp
 env:Env
 outer:List Env
 stack:List Env
 ex:List Addr
 fn:Str→Bool
 calm:Bool
 pn:List (Addr × Obj)
 xe:Value→Shared→Prop
noncomputable def frs (l:List Env):List Addr:=l.filterMap (·.frame)
noncomputable abbrev Cx.fs (X:Cx):List Addr:=frs X.outer
noncomputable def Vis (sc:Scope) (x:Str):Prop:=sc.names.lookup x = some .local∨sc.names.lookup x = some .cell∨sc.names.lookup x = some .free
noncomputable def Loc (sc:Scope) (x:Str):Prop:=sc.names.lookup x = some .local∨sc.names.lookup x = some .cell
noncomputable def Look (env:Env) (h:Heap) (m:Str→Option Value) (x:Str) (u:Value):Prop:=
 (env.kindOf x = some .local∧m x = some u)∨((env.kindOf x = some .cell∨env.kindOf x = some .free)∧∃ c,env.cells.lookup x = some c∧h.IsCell c (some u))
structure Cx.Ok (X:Cx):Prop where
 mod:Mod X.K X.mg X.base
 kind:X.env.scope.kind = .function
 glob:X.env.globals = mainGlobals
 blt:X.env.builtins = builtinsNs
 above:X.s₀.heap.objs.size≤X.env.locals
 inj:∀ x y c,X.env.cells.lookup x = some c→X.env.cells.lookup y = some c→x = y
 has:∀ x,(X.env.kindOf x = some .cell∨X.env.kindOf x = some .free)→∃ c,X.env.cells.lookup x = some c
 cab:∀ x c,X.fn x = true→X.env.cells.lookup x = some c→X.s₀.heap.objs.size≤c
 hd:X.calm = true→X.A.handled = none
 frames:X.A.frames = some X.stack
 stk:X.stack = X.outer∨(X.stack = X.env :: X.outer∧X.env.frame = some X.env.locals)
 exf:∀ b∈X.ex,b≠X.env.locals∧∀ x c,X.env.cells.lookup x = some c→c≠b
 bs:∀ b o,X.base.get? b = some o→X.s₀.heap.get? b = some o∧X.H₀ b = none
 bsz:X.base.objs.size≤X.s₀.heap.objs.size
 noex:∀ b o,X.base.get? b = some o→b ∉ X.ex
 exfs:∀ b∈X.ex,b ∉ X.fs
 funs:X.s₀.heap.FunFrames X.base X.outer
 frf:∀ b∈X.fs,X.H₀ b = none
 tb:Ll X.K X.H₀
structure Inv (X:Cx) (pins:List (Addr × Obj)) (σ:List (Option V)) (H:Hp) (s:Shared):Prop where
 ok:X.Ok
 os:s.os = X.s₀.os
 bare:AllBare s.gens
 base:Un X.fs X.ex X.H₀ H X.s₀.heap s.heap
 loc:∃ m,s.heap.Ns X.env.locals m∧∀ (i:Nat) (x:Str) (v:V),X.N[i]? = some x → σ[i]? = some (some v)→Vis X.env.scope x→∃ u,RelV v u∧Look X.env s.heap m x u
 cell:∀ x c,X.env.cells.lookup x = some c→∃ v,s.heap.IsCell c v
 free:H X.env.locals = none
 freeC:∀ x c,X.env.cells.lookup x = some c→H c = none
 pin:∀ p∈X.pn ++ pins,s.heap.get? p.1 = some p.2∧H p.1 = none∧p.1≠X.env.locals∧p.1 ∉ X.fs∧∀ v,p.2.data ≠ .cell v
 hok:HOk X.prog X.w H s.heap
 len : σ.length = X.N.length
section
variable {X:Cx} {pins:List (Addr × Obj)} {σ:List (Option V)} {H H':Hp} {s:Shared} {h':Heap}
theorem Cx.Ok.nofr (ok:X.Ok) {b:Addr} {o:Obj} (e:X.base.get? b = some o):b ∉ X.fs:=fun hb=>by
 have:=(ok.funs.mem hb).1
 rw [e] at this; cases this
theorem Ll.grow {K:Frag} {H H':Hp} (x:Ll K H) (h:∀ b ps,H b = some (.tbl ps)→∃ more,H' b = some (.tbl (ps ++ more))):Ll K H':=fun c P e=>by
 obtain ⟨ps,e1,e2⟩:=x c P e
 obtain ⟨more,e3⟩:=h P ps e1
 refine ⟨ps ++ more,e3,?_⟩
 have hl:0 < ps.size:=by
  cases hs:ps[0]? with
  | none=>rw [hs] at e2; cases e2
  | some v=>exact (Array.getElem?_eq_some_iff.mp hs).1
 rw [Array.getElem?_append_left hl]
 exact e2
theorem Inv.tabs (I:Inv X pins σ H s):Ll X.K H:=I.ok.tb.grow I.base.tbls
theorem Inv.bs (I:Inv X pins σ H s):∀ b o,X.base.get? b = some o→s.heap.get? b = some o∧H b = none:=fun b o e =>
 ⟨I.base.keep b o (I.ok.bs b o e).1 (I.ok.bs b o e).2 (I.ok.nofr e) (I.ok.noex b o e),I.base.free b o (I.ok.bs b o e).1 (I.ok.bs b o e).2 (I.ok.noex b o e)⟩
theorem Inv.bk (I:Inv X pins σ H s):∀ b o,X.base.get? b = some o→s.heap.get? b = some o:=fun b o e=>(I.bs b o e).1
theorem Inv.mod (I:Inv X pins σ H s):Mod X.K X.mg X.base:=I.ok.mod
theorem Inv.kIn (I:Inv X pins σ H s):X.K.In s.heap:=I.ok.mod.kin.keeps I.bk
theorem Inv.lt (I:Inv X pins σ H s):X.env.locals < s.heap.objs.size:=let ⟨_,hn,_⟩:=I.loc; hn.lt
theorem Inv.sz (I:Inv X pins σ H s):X.s₀.heap.objs.size≤s.heap.objs.size:=Nat.le_trans I.ok.above (Nat.le_of_lt I.lt)
theorem Inv.nofs (I:Inv X pins σ H s) {a:Addr} (h:s.heap.objs.size≤a):a ∉ X.fs:=fun hb=>by
 obtain ⟨_,o,ho,_⟩:=I.ok.funs.mem hb
 exact absurd (Nat.lt_of_lt_of_le (Heap.lt_size ho) (Nat.le_trans I.sz h)) (Nat.lt_irrefl _)
theorem Inv.cne (I:Inv X pins σ H s):∀ x c,X.env.cells.lookup x = some c→c≠X.env.locals:=fun x c e z=>by
 obtain ⟨v,o,ho,hd⟩:=I.cell x c e
 obtain ⟨m,⟨o',es,ep,ho',hd',_⟩,_⟩:=I.loc
 rw [z,ho'] at ho; cases ho; rw [hd'] at hd; cases hd
theorem Inv.funs (I:Inv X pins σ H s):s.heap.FunFrames X.base X.outer:=by
 have all:∀ (l:List Env),(∀ b∈frs l,b∈X.fs)→X.s₀.heap.FunFrames X.base l→s.heap.FunFrames X.base l:=by
  intro l
  induction l with
  | nil=>intro _ _; trivial
  | cons env r ih =>
   intro hs hl
   obtain ⟨hk,⟨L,o,hf,hn,ho,hd⟩,hr⟩:=hl
   have hL:L∈X.fs:=hs L (by unfold frs; rw [List.filterMap_cons,hf]; exact List.mem_cons_self)
   obtain ⟨sl,e⟩:=I.base.slot L o ho (I.ok.frf L hL) hL fun z=>I.ok.exfs L z hL
   exact ⟨hk,⟨L,_,hf,hn,e,hd⟩,ih (fun b hb=>hs b (by unfold frs; rw [List.filterMap_cons,hf]; exact List.mem_cons_of_mem _ hb)) hr⟩
 exact all X.outer (fun _ hb=>hb) I.ok.funs
theorem Inv.stack (I:Inv X pins σ H s):s.heap.FunFrames X.base X.stack:=by
 rcases I.ok.stk with e | ⟨e,hf⟩
 ·rw [e]; exact I.funs
 ·rw [e]
  obtain ⟨m,hn,_⟩:=I.loc
  refine .cons (by rw [I.ok.kind]; decide) hf hn ?_ I.funs
  exact Heap.get?_none_of_le (Nat.le_trans I.ok.bsz I.ok.above)
theorem Inv.stkSub (I:Inv X pins σ H s):∀ b∈frs X.stack,b∈X.env.locals :: X.fs:=fun b hb=>by
 rcases I.ok.stk with e | ⟨e,hf⟩
 ·rw [e] at hb; exact List.mem_cons_of_mem _ hb
 ·rw [e] at hb
  unfold frs at hb
  rw [List.filterMap_cons,hf] at hb
  exact hb
theorem Inv.stkFree (I:Inv X pins σ H s):∀ b∈frs X.stack,H b = none:=fun b hb=>by
 rcases List.mem_cons.mp (I.stkSub b hb) with e | hb
 ·rw [e]; exact I.free
 ·obtain ⟨_,o,ho,_⟩:=I.ok.funs.mem hb
  exact I.base.free b o ho (I.ok.frf b hb) fun z=>I.ok.exfs b z hb
theorem Inv.step {g':Array GenState} {t':Nat} {d':Drawn} {ch:List Addr} (I:Inv X pins σ H s)
  (hch:∀ b∈ch,(b∈X.ex∨X.s₀.heap.objs.size≤b)∧b≠X.env.locals∧(∀ x c,X.env.cells.lookup x = some c→c≠b)∧∀ p∈X.pn ++ pins,p.1≠b)
  (keep:∀ b o,b≠X.env.locals→b ∉ X.fs→b ∉ ch→s.heap.get? b = some o→H b = none→h'.get? b = some o)
  (slot:∀ b o,b≠X.env.locals→b∈X.fs→b ∉ ch→s.heap.get? b = some o→H b = none→∃ sl,h'.get? b = some { o with slots:=sl }) (free:∀ b o,b ∉ ch→s.heap.get? b = some o→H b = none→H' b = none)
  (there:∀ b o,b ∉ ch→s.heap.get? b = some o→∃ o',h'.get? b = some o')
  (tups:∀ b xs,H b = some (.tup xs)→H' b = some (.tup xs)) (frzs:∀ b o u,H b = some (.frz o u)→H' b = some (.frz o u)) (tbls:∀ b ps,H b = some (.tbl ps)→∃ more,H' b = some (.tbl (ps ++ more)))
  (ns:∀ m,s.heap.Ns X.env.locals m→h'.Ns X.env.locals m) (hok:HOk X.prog X.w H' h') (hg:AllBare g') :
  Inv X pins σ H' { s with heap:=h',gens:=g',drawn:=d',toks:=t' }:=by
 have neL:∀ b o,X.s₀.heap.get? b = some o→b≠X.env.locals:=fun b o e=>Nat.ne_of_lt (Nat.lt_of_lt_of_le (Heap.lt_size e) I.ok.above)
 have neC:∀ b o,X.s₀.heap.get? b = some o→b ∉ X.ex→b ∉ ch:=fun b o e hx hb=>by
  rcases (hch b hb).1 with z | z
  ·exact hx z
  ·exact absurd (Nat.lt_of_lt_of_le (Heap.lt_size e) z) (Nat.lt_irrefl _)
 have cellK:∀ x c,X.env.cells.lookup x = some c→∀ v,s.heap.IsCell c v→h'.IsCell c v:=fun x c e v ⟨o,ho,hd⟩=>by
  have nch:c ∉ ch:=fun z=>(hch c z).2.2.1 x c e rfl
  by_cases hc:c∈X.fs
  ·obtain ⟨sl,q⟩:=slot c o (I.cne x c e) hc nch ho (I.freeC x c e)
   exact ⟨_,q,hd⟩
  ·exact ⟨o,keep c o (I.cne x c e) hc nch ho (I.freeC x c e),hd⟩
 refine ⟨I.ok,I.os,hg,⟨fun b o e n hb hx=>?_,fun b o e n hb hx=>?_,fun b o e n hx=>?_,fun b o e hx=>?_,fun b xs e=>tups b xs (I.base.tups b xs e),fun b o xs e=>frzs b o xs (I.base.frzs b o xs e),fun b ps e=>?_⟩,?_,fun x c e=>?_,?_,fun x c e=>?_,fun p hp=>?_,hok,I.len⟩
 ·exact keep b o (neL b o e) hb (neC b o e hx) (I.base.keep b o e n hb hx) (I.base.free b o e n hx)
 ·obtain ⟨sl,e1⟩:=I.base.slot b o e n hb hx
  obtain ⟨sl',e2⟩:=slot b _ (neL b o e) hb (neC b o e hx) e1 (I.base.free b o e n hx)
  exact ⟨sl',e2⟩
 ·obtain ⟨o',e1⟩:=I.base.there b o e hx
  exact free b o' (neC b o e hx) e1 (I.base.free b o e n hx)
 ·obtain ⟨o',e1⟩:=I.base.there b o e hx
  exact there b o' (neC b o e hx) e1
 ·obtain ⟨m1,e1⟩:=I.base.tbls b ps e
  obtain ⟨m2,e2⟩:=tbls b _ e1
  exact ⟨m1 ++ m2,by rw [e2,Array.append_assoc]⟩
 ·obtain ⟨m,hn,hl⟩:=I.loc
  refine ⟨m,ns m hn,fun i x v e1 e2 e3=>?_⟩
  obtain ⟨u,r,l⟩:=hl i x v e1 e2 e3
  refine ⟨u,r,?_⟩
  rcases l with l | ⟨k,c,e,z⟩
  ·exact .inl l
  ·exact .inr ⟨k,c,e,cellK x c e _ z⟩
 ·obtain ⟨v,z⟩:=I.cell x c e
  exact ⟨v,cellK x c e v z⟩
 ·obtain ⟨m,⟨o,_,_,ho,_⟩,_⟩:=I.loc
  exact free _ o (fun z=>(hch _ z).2.1 rfl) ho I.free
 ·obtain ⟨v,o,ho,hd⟩:=I.cell x c e
  exact free c o (fun z=>(hch c z).2.2.1 x c e rfl) ho (I.freeC x c e)
 ·obtain ⟨e,n,ne,nf,d⟩:=I.pin p hp
  have nch:p.1 ∉ ch:=fun z=>(hch p.1 z).2.2.2 p hp rfl
  exact ⟨keep p.1 p.2 ne nf nch e n,free p.1 p.2 nch e n,ne,nf,d⟩
theorem Inv.un {t':Nat} (I:Inv X pins σ H s) (u:Un X.fs [] H H' s.heap h') (hok:HOk X.prog X.w H' h'):Inv X pins σ H' { s with heap:=h',toks:=t' }:=by
 obtain ⟨m,⟨o,es,ep,ho,r⟩,_⟩:=id I.loc
 obtain ⟨sl,hL⟩:=u.any ho I.free (by simp)
 exact I.step (g':=s.gens) (d':=s.drawn) (ch:=[]) (fun _ z=>nomatch z) (fun b o _ hb _ e n=>u.keep b o e n hb (by simp)) (fun b o _ hb _ e n=>u.slot b o e n hb (by simp)) (fun b o _ e n=>u.free b o e n (by simp)) (fun b o _ e=>u.there b o e (by simp)) u.tups u.frzs u.tbls (fun m' hm=>by
  obtain ⟨o',es',ep',ho',r'⟩:=hm
  rw [ho] at ho'; cases ho'
  exact ⟨_,es',ep',hL,r'⟩) hok I.bare
theorem Inv.call {g':Array GenState} {t':Nat} {d':Drawn} {ch:List Addr} (I:Inv X pins σ H s) (u:Un (frs X.stack) ch H H' s.heap h') (hok:HOk X.prog X.w H' h') (hg:AllBare g')
  (hch:∀ b∈ch,(b∈X.ex∨X.s₀.heap.objs.size≤b)∧b≠X.env.locals∧(∀ x c,X.env.cells.lookup x = some c→c≠b)∧∀ p∈X.pn ++ pins,p.1≠b) :
  Inv X pins σ H' { s with heap:=h',gens:=g',drawn:=d',toks:=t' }:=by
 obtain ⟨m,⟨o,es,ep,ho,r⟩,_⟩:=id I.loc
 obtain ⟨sl,hL⟩:=u.any ho I.free fun z=>(hch _ z).2.1 rfl
 exact I.step (ch:=ch) hch (fun b o hL hb hc e n=>u.keep b o e n (fun z=>(List.mem_cons.mp (I.stkSub b z)).elim hL hb) hc) (fun b o _ _ hc e n=>u.any e n hc) (fun b o hc e n=>u.free b o e n hc) (fun b o hc e=>u.there b o e hc) u.tups u.frzs u.tbls (fun m' hm=>by
  obtain ⟨o',es',ep',ho',r'⟩:=hm
  rw [ho] at ho'; cases ho'
  exact ⟨_,es',ep',hL,r'⟩) hok hg
theorem Inv.turned {t':Nat} {it:Addr} (I:Inv X pins σ H s) (k:∀ b o,b≠it→s.heap.get? b = some o→h'.get? b = some o) (hn:H it = none) (hL:it≠X.env.locals)
  (h1:it∈X.ex∨X.s₀.heap.objs.size≤it) (h2:∀ x c,X.env.cells.lookup x = some c→c≠it) (h3:∀ p∈X.pn ++ pins,p.1≠it):Inv X pins σ H { s with heap:=h',toks:=t' }:=by
 have nit:∀ b u,H b = some u→b≠it:=fun b u e z=>by rw [z,hn] at e; cases e
 refine I.step (g':=s.gens) (d':=s.drawn) (ch:=[it]) (fun b hb=>?_) (fun b o _ _ hc e _=>k b o (fun z=>hc (by simp [z])) e) (fun b o _ _ hc e _=>⟨o.slots,k b o (fun z=>hc (by simp [z])) e⟩) (fun _ _ _ _ n=>n)
  (fun b o hc e=>⟨o,k b o (fun z=>hc (by simp [z])) e⟩) (fun _ _ e=>e) (fun _ _ _ e=>e) (fun b ps e=>⟨#[],by rw [e]; simp⟩) (fun m hm=>?_) (fun b u e=>?_) I.bare
 ·have e:b = it:=by simpa using hb
  subst e
  exact ⟨h1,hL,h2,h3⟩
 ·obtain ⟨o,es,ep,ho,r⟩:=hm
  exact ⟨o,es,ep,k _ o (Ne.symm hL) ho,r⟩
 ·refine (I.hok b u e).stay (fun c v hc q=>k c v ?_ q) (fun _ q=>q) fun _ _ q=>q
  rcases hc with z | z
  ·rw [z]; exact nit b u e
  ·exact nit c _ z
theorem Inv.tok (I:Inv X pins σ H s) (t:Nat):Inv X pins σ H { s with toks:=t }:=I.un (h':=s.heap) (t':=t) Un.refl I.hok
theorem Inv.kept {t':Nat} (I:Inv X pins σ H s) (k:∀ b u,s.heap.get? b = some u→h'.get? b = some u):Inv X pins σ H { s with heap:=h',toks:=t' }:=I.un (Un.kept k) (I.hok.kept k)
theorem Inv.laid {a:Addr} {o:HO} {t':Nat} (I:Inv X pins σ H s) (k:∀ b u,s.heap.get? b = some u→h'.get? b = some u) (hp:s.heap.objs.size≤a) (new:B7 X.prog X.w (upd H a o) h' a o) :
  Inv X pins σ (upd H a o) { s with heap:=h',toks:=t' }:=I.un (Un.laid k hp (I.hok.fresh hp)) (I.hok.laid k hp new)
theorem Inv.write {x e:Addr} {o:HO} {t':Nat} (I:Inv X pins σ H s) (mu:Mut (H x)) (he:e = x∨H e = some (.own x)) (k:∀ b u,b≠e→s.heap.get? b = some u→h'.get? b = some u) (heo:∃ u,h'.get? e = some u)
  (new:B7 X.prog X.w (upd H x o) h' x o):Inv X pins σ (upd H x o) { s with heap:=h',toks:=t' }:=I.un (Un.write mu he k heo) (I.hok.write mu he k heo new)
theorem Inv.pins_of {pins':List (Addr × Obj)} (I:Inv X pins σ H s) (h:∀ p∈pins',s.heap.get? p.1 = some p.2∧H p.1 = none∧p.1≠X.env.locals∧p.1 ∉ X.fs∧∀ v,p.2.data ≠ .cell v):Inv X pins' σ H s:=
 ⟨I.ok,I.os,I.bare,I.base,I.loc,I.cell,I.free,I.freeC,fun p hp=>(List.mem_append.mp hp).elim (fun z=>I.pin p (List.mem_append_left _ z)) (h p),I.hok,I.len⟩
theorem Ji {N:List Str} (hN:N.Nodup) {i j:Nat} {x:Str} (a:N[i]? = some x) (b:N[j]? = some x):i = j:=by
 obtain ⟨h1,e1⟩:=List.getElem?_eq_some_iff.mp a
 obtain ⟨h2,e2⟩:=List.getElem?_eq_some_iff.mp b
 exact (List.getElem_inj hN).mp (e1.trans e2.symm)
theorem LW {M:Model} {A:Around} {E:Value→Shared→Prop} {i:Nat} {x:Str} {v:V} {u:Value} {Q:Unit→Shared→Prop} (I:Inv X pins σ H s) (hN:X.N.Nodup) (hi:X.N[i]? = some x) (hx:Loc X.env.scope x) (r:RelV v u)
  (h:∀ s',Inv X pins (σ.set i (some v)) H s'→(∃ a,Heap.SameBut a s.heap s'.heap∧(a = X.env.locals∨X.env.cells.lookup x = some a))→Q () s') (hf:X.fn x = true∨X.env.scope.names.lookup x = some .local:=by first | exact .inl rfl | exact .inr rfl | assumption):wpAny M A (storeName X.env x u) Q E s:=by
 obtain ⟨m,hn,hl⟩:=id I.loc
 have hcls:(X.env.scope.kind == .class || (X.env.scope.kind == .module && X.env.locals != X.env.globals)) = false:=by rw [I.ok.kind]; rfl
 have hiσ:i < σ.length:=by rw [I.len]; exact (List.getElem?_eq_some_iff.mp hi).1
 have cne:=I.cne
 have tracked:∀ {a:Addr} {h':Heap},(∃ o,s.heap.get? a = some o∧H a = none)→Heap.SameBut a s.heap h'→HOk X.prog X.w H h':=fun {a h'} ha hs b ob e=>by
  obtain ⟨_,_,hfree⟩:=ha
  refine (I.hok b ob e).stay (fun c w' hc q=>(hs.2 c ?_).trans q) (fun _ q=>q) fun _ _ q=>q
  rintro rfl
  rcases hc with rfl | hc
  ·rw [hfree] at e; cases e
  ·rw [hfree] at hc; cases hc
 rcases hx with hk | hk
 ·refine wpAny_storeName_local hk hn (fun h' hn' hs=>?_) hcls
  obtain ⟨oL,_,_,hoL,_⟩:=id hn
  refine h _ ⟨I.ok,I.os,I.bare,⟨fun b o e n hb hx=>?_,fun b o e n hb hx=>?_,I.base.free,fun b o e hx=>?_,I.base.tups,I.base.frzs,I.base.tbls⟩,⟨_,hn',fun j y v' e1 e2 e3=>?_⟩,fun y c e=>?_,I.free,I.freeC,fun p hp=>?_,tracked ⟨oL,hoL,I.free⟩ hs,by simpa using I.len⟩ ⟨_,hs,.inl rfl⟩
  ·exact (hs.2 b (Nat.ne_of_lt (Nat.lt_of_lt_of_le (Heap.lt_size e) I.ok.above))).trans (I.base.keep b o e n hb hx)
  ·obtain ⟨sl,e1⟩:=I.base.slot b o e n hb hx
   exact ⟨sl,(hs.2 b (Nat.ne_of_lt (Nat.lt_of_lt_of_le (Heap.lt_size e) I.ok.above))).trans e1⟩
  ·obtain ⟨o',e1⟩:=I.base.there b o e hx
   exact ⟨o',(hs.2 b (Nat.ne_of_lt (Nat.lt_of_lt_of_le (Heap.lt_size e) I.ok.above))).trans e1⟩
  ·by_cases hj:j = i
   ·subst hj
    rw [hi] at e1; cases e1
    rw [List.getElem?_set_self hiσ] at e2
    cases e2
    exact ⟨u,r,.inl ⟨hk,by simp⟩⟩
   ·rw [List.getElem?_set_ne (Ne.symm hj)] at e2
    obtain ⟨u',r',q⟩:=hl j y v' e1 e2 e3
    refine ⟨u',r',?_⟩
    rcases q with ⟨k,e⟩ | ⟨k,c,e,z⟩
    ·refine .inl ⟨k,?_⟩
     have:y≠x:=fun e=>hj (Ji hN e1 (e ▸ hi))
     simp [this,e]
    ·exact .inr ⟨k,c,e,z.sameBut hs (cne y c e)⟩
  ·obtain ⟨w',z⟩:=I.cell y c e
   exact ⟨w',z.sameBut hs (cne y c e)⟩
  ·obtain ⟨e,n,ne,nf,d⟩:=I.pin p hp
   exact ⟨(hs.2 p.1 ne).trans e,n,ne,nf,d⟩
 ·have hfn:X.fn x = true:=by
   rcases hf with z | z
   ·exact z
   ·rw [z] at hk; cases hk
  obtain ⟨c,hc⟩:=I.ok.has x (.inl hk)
  obtain ⟨w',z⟩:=I.cell x c hc
  refine wpAny_storeName_cell I.ok.kind hk hc z (fun h' hc' hs=>?_)
  obtain ⟨oc,hoc,hocd⟩:=id z
  refine h { s with heap:=h' } ⟨I.ok,I.os,I.bare,⟨fun b o e n hb hx=>?_,fun b o e n hb hx=>?_,I.base.free,fun b o e hx=>?_,I.base.tups,I.base.frzs,I.base.tbls⟩,⟨m,hn.sameBut hs (Ne.symm (cne x c hc)),fun j y v' e1 e2 e3=>?_⟩,fun y c' e=>?_,I.free,I.freeC,fun p hp=>?_,tracked ⟨oc,hoc,I.freeC x c hc⟩ hs,by simpa using I.len⟩ ⟨c,hs,.inr hc⟩
  ·exact (hs.2 b (Nat.ne_of_lt (Nat.lt_of_lt_of_le (Heap.lt_size e) (I.ok.cab x c hfn hc)))).trans (I.base.keep b o e n hb hx)
  ·obtain ⟨sl,e1⟩:=I.base.slot b o e n hb hx
   exact ⟨sl,(hs.2 b (Nat.ne_of_lt (Nat.lt_of_lt_of_le (Heap.lt_size e) (I.ok.cab x c hfn hc)))).trans e1⟩
  ·obtain ⟨o',e1⟩:=I.base.there b o e hx
   exact ⟨o',(hs.2 b (Nat.ne_of_lt (Nat.lt_of_lt_of_le (Heap.lt_size e) (I.ok.cab x c hfn hc)))).trans e1⟩
  ·by_cases hj:j = i
   ·subst hj
    rw [hi] at e1; cases e1
    rw [List.getElem?_set_self hiσ] at e2
    cases e2
    exact ⟨u,r,.inr ⟨.inl hk,c,hc,hc'⟩⟩
   ·rw [List.getElem?_set_ne (Ne.symm hj)] at e2
    obtain ⟨u',r',q⟩:=hl j y v' e1 e2 e3
    refine ⟨u',r',?_⟩
    rcases q with q | ⟨k,c',e,z'⟩
    ·exact .inl q
    ·refine .inr ⟨k,c',e,z'.sameBut hs ?_⟩
     rintro rfl
     exact hj (Ji hN e1 (I.ok.inj _ _ _ e hc ▸ hi))
  ·by_cases hcc:c' = c
   ·subst hcc; exact ⟨_,hc'⟩
   ·obtain ⟨w2,z2⟩:=I.cell y c' e
    exact ⟨w2,z2.sameBut hs hcc⟩
  ·obtain ⟨e,n,ne,nf,d⟩:=I.pin p hp
   refine ⟨(hs.2 p.1 ?_).trans e,n,ne,nf,d⟩
   intro q
   rw [q,hoc] at e
   have q':oc = p.2:=Option.some.inj e
   exact d w' (by rw [← q']; exact hocd)
theorem Ez {M:Model} {A:Around} {E:Value→Shared→Prop} {i:Nat} {x:Str} {v:V} {u:Value} {Q:Unit→Shared→Prop} (I:Inv X pins σ H s) (hN:X.N.Nodup) (hi:X.N[i]? = some x) (hx:Loc X.env.scope x) (r:RelV v u)
  (h:∀ s',Inv X pins (σ.set i (some v)) H s'→Q () s') (hf:X.fn x = true∨X.env.scope.names.lookup x = some .local:=by first | exact .inl rfl | exact .inr rfl | assumption):wpAny M A (storeName X.env x u) Q E s:=
 LW I hN hi hx r (fun s' I' _=>h s' I') hf
theorem Inv.call' {s':Shared} {ch:List Addr} (I:Inv X pins σ H s) (ho:s'.os = s.os) (u:Un (frs X.stack) ch H H' s.heap s'.heap) (hok:HOk X.prog X.w H' s'.heap) (hg:AllBare s'.gens)
  (hch:∀ b∈ch,(b∈X.ex∨X.s₀.heap.objs.size≤b)∧b≠X.env.locals∧(∀ x c,X.env.cells.lookup x = some c→c≠b)∧∀ p∈X.pn ++ pins,p.1≠b):Inv X pins σ H' s':=by
 obtain ⟨h',g',d',t',o'⟩:=s'
 have e:o' = s.os:=ho
 subst e
 exact I.call (g':=g') (t':=t') (d':=d') u hok hg hch
end
noncomputable abbrev XK:=Value→Option Addr→Hp→Prop
noncomputable abbrev St:=List (Option V)
noncomputable abbrev VK:=V→Hp→Prop
noncomputable abbrev TE:=St→Hp→VK→Prop
noncomputable abbrev TT:=St→Hp→(Bool→Hp→Prop)→Prop
noncomputable abbrev TA:=St→Hp→(List V→Hp→Prop)→Prop
structure Ends where
 nx:St→Hp→Prop
 rt:VK
 bk:St→Hp→Prop:=fun _ _=>False
 ct:St→Hp→Prop:=fun _ _=>False
noncomputable abbrev TS:=Ends→St→Hp→Prop
noncomputable def EP (X:Cx) (pins:List (Addr × Obj)) (σ:St) (Q:VK) (u:Value) (s':Shared):Prop:=∃ v H',Inv X pins σ H' s'∧RelV v u∧Q v H'
noncomputable def TP (X:Cx) (pins:List (Addr × Obj)) (σ:St) (Q:Bool→Hp→Prop) (b:Bool) (s':Shared):Prop:=∃ H',Inv X pins σ H' s'∧Q b H'
noncomputable def AP (X:Cx) (pins:List (Addr × Obj)) (σ:St) (Q:List V→Hp→Prop) (us:List Value) (s':Shared):Prop:=∃ vs H',Inv X pins σ H' s'∧Vals vs us∧Q vs H'
noncomputable def SP (X:Cx) (pins:List (Addr × Obj)) (D:Ends) (f:Flow) (s':Shared):Prop:=
 match f with
 | .next=>∃ σ' H',Inv X pins σ' H' s'∧D.nx σ' H'
 | .brk=>∃ σ' H',Inv X pins σ' H' s'∧D.bk σ' H'
 | .cont=>∃ σ' H',Inv X pins σ' H' s'∧D.ct σ' H'
 | .ret u=>∃ v σ' H',Inv X pins σ' H' s'∧RelV v u∧D.rt v H'
noncomputable def PE (X:Cx) (e:Expr) (t:TE):Prop:=
 ∀ (pins:List (Addr × Obj)) (s:Shared) (σ:St) (H:Hp) (Q:VK),Inv X pins σ H s→t σ H Q→wpAny (model X.prog X.w) X.A (eval e X.env) (EP X pins σ Q) X.xe s
noncomputable def PT (X:Cx) (e:Expr) (t:TT):Prop:=
 ∀ (pins:List (Addr × Obj)) (s:Shared) (σ:St) (H:Hp) (Q:Bool→Hp→Prop),Inv X pins σ H s→t σ H Q→wpAny (model X.prog X.w) X.A (isTrue e X.env (eval e X.env)) (TP X pins σ Q) X.xe s
noncomputable def PW (X:Cx) (e:Expr) (t:TT):Prop:=
 ∀ (whole:Sem Value) (pins:List (Addr × Obj)) (s:Shared) (σ:St) (H:Hp) (Q:Bool→Hp→Prop),Inv X pins σ H s→t σ H Q→wpAny (model X.prog X.w) X.A (isTrue e X.env whole) (TP X pins σ Q) X.xe s
theorem PW.pt {X:Cx} {e:Expr} {t:TT} (h:PW X e t):PT X e t:=h _
noncomputable def PA (X:Cx) (es:List Expr) (t:TA):Prop:=
 ∀ (pos:Pos) (pins:List (Addr × Obj)) (s:Shared) (σ:St) (H:Hp) (Q:List V→Hp→Prop),Inv X pins σ H s→t σ H Q→wpAny (model X.prog X.w) X.A (spliced (backTo pos (starEach es X.env))) (AP X pins σ Q) X.xe s
noncomputable def PS (X:Cx) (st:Stmt) (t:TS):Prop:=
 ∀ (pins:List (Addr × Obj)) (s:Shared) (σ:St) (H:Hp) (D:Ends),Inv X pins σ H s→t D σ H→wpAny (model X.prog X.w) X.A (exec st X.env) (SP X pins D) X.xe s
noncomputable def PSs (X:Cx) (st:List Stmt) (t:TS):Prop:=
 ∀ (pins:List (Addr × Obj)) (s:Shared) (σ:St) (H:Hp) (D:Ends),Inv X pins σ H s→t D σ H→wpAny (model X.prog X.w) X.A (execs st X.env) (SP X pins D) X.xe s
theorem thn {α:Type} {t:Sem α} {Q Q':α → Shared→Prop} {M:Model} {A:Around} {E:Value→Shared→Prop} {s:Shared} (h:wpAny M A t Q E s) (hQ:∀ a s,Q a s→Q' a s):wpAny M A t Q' E s:=wpAny_mono h hQ fun _ _ x=>x
end L2
namespace L2
open PySem PySem.Spec PyProof.Rows
section
variable {X:Cx}
noncomputable def OQ (i:Nat):TE:=fun σ H Q=>∃ v,σ[i]? = some (some v)∧Q v H
noncomputable def tC (v:V):TE:=fun _ H Q=>Q v H
theorem Kj {i:Nat} {x:Str} {pos:Pos} (hN:X.N[i]? = some x) (hv:Vis X.env.scope x) (hd:(x == ("__debug__" : Str)) = false:=by decide) (hcd:(x == ("__classdict__" : Str)) = false:=by decide):PE X (.Name x pos) (OQ i):=by
 intro pins s σ H Q I h
 obtain ⟨v,e,h⟩:=h
 obtain ⟨m,hn,hl⟩:=I.loc
 obtain ⟨u,r,l⟩:=hl i x v hN e hv
 have fin:EP X pins σ Q u s:=⟨v,H,I,r,h⟩
 rcases l with ⟨hk,hm⟩ | ⟨hk,c,hc,hcell⟩
 ·exact wpAny_Name (wpAny_loadName_local I.ok.kind hk hn hm fin) hd
 ·rcases hk with hk | hk
  ·exact wpAny_Name (wpAny_loadName_cell I.ok.kind hk hc hcell fin) hd
  ·exact wpAny_Name (wpAny_loadName_free I.ok.kind hk hc hcell fin hcd) hd
theorem Qf {i j pos}:PE X (.Constant (.int i) j pos) (tC (.int i)):=fun _ _ _ H _ I h=>wpAny_Constant_int ⟨.int i,H,I.tok _,⟨_,rfl⟩,h⟩
theorem RE {b j pos}:PE X (.Constant (.bool b) j pos) (tC (.bl b)):=fun _ _ _ H _ I h=>Constant_bool ⟨.bl b,H,I,rfl,h⟩
theorem Qo {j pos}:PE X (.Constant .none j pos) (tC .non):=fun _ _ _ H _ I h=>Constant_none ⟨.non,H,I,rfl,h⟩
theorem Qr {x j pos}:PE X (.Constant (.str x) j pos) (tC (.str x)):=fun _ _ _ H _ I h=>Calls.Constant_str ⟨.str x,H,I.tok _,⟨_,rfl⟩,h⟩
noncomputable def Gl (X:Cx) (x:Str):Prop:=X.env.kindOf x = some .globalImplicit
theorem ED {E:Value→Shared→Prop} {pins:List (Addr × Obj)} {s:Shared} {σ:St} {H:Hp} {x:Str} {u:Value} {pos:Pos} {Q:Value→Shared→Prop} (I:Inv X pins σ H s) (hg:Gl X x) (hm:X.mg x = some u) (h:Q u s)
  (hd:(x == ("__debug__" : Str)) = false:=by decide):wpAny (model X.prog X.w) X.A (eval (.Name x pos) X.env) Q E s:=
 Calls.Name_function_global I.ok.kind hg (Calls.loadGlobal_global (by rw [I.ok.glob]; exact I.mod.glob.keeps I.bk) hm h) hd
theorem FH {E:Value→Shared→Prop} {pins:List (Addr × Obj)} {s:Shared} {σ:St} {H:Hp} {x:Str} {u:Value} {pos:Pos} {Q:Value→Shared→Prop} (I:Inv X pins σ H s) (hg:Gl X x) (hm:X.mg x = none) (hv:bootBuiltins x = some u) (h:Q u s)
  (hn:x ≠ "__name__" := by decide) (hd:(x == ("__debug__" : Str)) = false:=by decide):wpAny (model X.prog X.w) X.A (eval (.Name x pos) X.env) Q E s:=by
 obtain ⟨mb,h1,h2⟩:=I.mod.blt
 exact Calls.Name_function_global I.ok.kind hg (Calls.loadGlobal_builtin (by rw [I.ok.glob]; exact I.mod.glob.keeps I.bk) hm (by rw [I.ok.blt]; exact h1.keeps I.bk) ((h2 x hn).trans hv) h) hd
theorem K4 {x:Str} {v:V} {u:Value} {pos:Pos} (hg:Gl X x) (hm:X.mg x = some u) (r:RelV v u) (hd:(x == ("__debug__" : Str)) = false:=by decide):PE X (.Name x pos) (tC v):=
 fun _ _ _ H _ I h=>ED I hg hm ⟨v,H,I,r,h⟩ hd
theorem EF {x:Str} {v:V} {u:Value} {pos:Pos} (hg:Gl X x) (hm:X.mg x = none) (hv:bootBuiltins x = some u) (r:RelV v u) (hn:x ≠ "__name__" := by decide) (hd:(x == ("__debug__" : Str)) = false:=by decide):PE X (.Name x pos) (tC v):=
 fun _ _ _ H _ I h=>FH I hg hm hv ⟨v,H,I,r,h⟩ hn hd
variable {a b:Expr} {ta tb:TE} {pos:Pos}
noncomputable def tB (t:TE):TT:=fun σ H Q=>t σ H fun x H1=>∃ c,x = .bl c∧Q c H1
theorem Qy {e:Expr} {t:TE} (h:PE X e t) (he:∀ whole,isTrue e X.env whole = (do let v ← whole; standAt e.pos; holding [v] (truthy v)):=by intro _; rfl):PT X e (tB t):=by
 intro pins s σ H Q I hw
 refine isTrue_plain (thn (h pins s σ H _ I hw) fun v s1 ⟨x,H1,I1,r1,q1⟩=>?_) (he _)
 obtain ⟨d,rfl,q⟩:=q1
 cases r1
 exact wpAny_truthy_bool ⟨H1,I1,q⟩
variable {tA tB':TT} {rest:List Expr}
noncomputable def tOr (t u:TT):TT:=fun σ H Q=>t σ H fun c H1=>if c = true then Q true H1 else u σ H1 Q
noncomputable def Su (t:TT):TT:=fun σ H Q=>t σ H fun c H1=>Q (!c) H1
theorem Qz (ha:PT X a tA):PW X (.BoolOp .Or [a] pos) tA:=by
 intro wh pins s σ H Q I h
 refine isTrue_or (thn (ha pins s σ H Q I h) fun c s1 e=>?_)
 cases c with
 | false=>exact isTrue_or_nil e
 | true=>exact e
theorem RK (ha:PT X a tA) (hb:PW X (.BoolOp .Or (b :: rest) pos) tB'):PW X (.BoolOp .Or (a :: b :: rest) pos) (tOr tA tB'):=by
 intro wh pins s σ H Q I h
 refine isTrue_or (thn (ha pins s σ H _ I h) fun c s1 yy=>?_)
 obtain ⟨H1,I1,q1⟩:=yy
 cases c with
 | true=>exact ⟨H1,I1,q1⟩
 | false=>exact hb wh pins s1 σ H1 Q I1 q1
theorem Qx (ha:PT X a tA):PT X (.UnaryOp .Not a pos) (Su tA):=by
 intro pins s σ H Q I h
 exact isTrue_not (ha pins s σ H (fun c H1=>Q (!c) H1) I h)
noncomputable def RV (ta tb:TE):TE:=fun σ H Q=>ta σ H fun x H1=>∃ c,x = .bl c∧if c = true then tb σ H1 Q else Q (.bl false) H1
noncomputable def RY (ta:TE):TE:=fun σ H Q=>ta σ H fun x H1=>∃ c,x = .bl c∧Q (.bl (!c)) H1
theorem Qq {op} {t:TE} (h:PE X a t):PE X (.BoolOp op [a] pos) t:=fun pins s σ H Q I hw=>BoolOp_one (h pins s σ H Q I hw)
theorem Qe (ha:PE X a ta) (hb:PE X (.BoolOp .And (b :: rest) pos) tb):PE X (.BoolOp .And (a :: b :: rest) pos) (RV ta tb):=by
 intro pins s σ H Q I h
 refine BoolOp_and (thn (ha pins s σ H _ I h) fun v s1 yy=>?_)
 obtain ⟨x,H1,I1,r1,q1⟩:=yy
 obtain ⟨c,rfl,q1⟩:=q1
 cases r1
 refine wpAny_truthy_bool ?_
 cases c with
 | true=>exact hb pins s1 σ H1 Q I1 q1
 | false=>exact ⟨.bl false,H1,I1,rfl,q1⟩
theorem Qp (ha:PE X a ta):PE X (.UnaryOp .Not a pos) (RY ta):=by
 intro pins s σ H Q I h
 refine UnaryOp_ (thn (ha pins s σ H _ I h) fun v s1 yy=>?_)
 obtain ⟨x,H1,I1,r1,q1⟩:=yy
 obtain ⟨c,rfl,q1⟩:=q1
 cases r1
 exact not_of (wpAny_truthy_bool ⟨.bl (!c),H1,I1,rfl,q1⟩)
end
end L2
namespace L2
open PySem PySem.Spec PyProof.Rows
noncomputable def SqL (K:Frag) (H:Hp) (a:Addr) (xs:List V):Prop:=
 Rd H a (.lst xs) ∨
  ∃ (o:Obj) (its:Array Value) (n:Nat),K.lookup a = some o∧o.cls = .type "list" ∧ o.dict = none∧o.data = .seq its n∧its.size≤sizeLine∧Vals xs its.toList
noncomputable def SqT (K:Frag) (H:Hp) (a:Addr) (xs:List V):Prop:=
 Rd H a (.tup xs) ∨
  ∃ (o:Obj) (its:Array Value) (n:Nat),K.lookup a = some o∧o.cls = .type "tuple" ∧ o.data = .seq its n∧its.size≤sizeLine∧Vals xs its.toList
noncomputable def R8:Value→Option V
 | .none=>some .non
 | .bool b=>some (.bl b)
 | .int i _=>some (.int i)
 | .str x _=>some (.str x)
 | .bytes b _=>some (.byt b)
 | .float b _=>some (.flt b)
 | .ref a=>some (.ref a)
 | .type n=>some (.ty n)
 | _=>none
theorem RelV.abs {x:V} {u:Value} (r:RelV x u):R8 u = some x:=by
 cases x with
 | non=>cases r; rfl
 | bl _=>cases r; rfl
 | int _=>obtain ⟨t,rfl⟩:=r; rfl
 | str _=>obtain ⟨t,rfl⟩:=r; rfl
 | byt _=>obtain ⟨t,rfl⟩:=r; rfl
 | flt _=>obtain ⟨t,rfl⟩:=r; rfl
 | ref _=>cases r; rfl
 | ty _=>cases r; rfl
theorem RelV.inj {x y:V} {u:Value} (r:RelV x u) (q:RelV y u):x = y:=Option.some.inj (r.abs.symm.trans q.abs)
theorem Vals.inj {xs ys:List V} {us:List Value} (h:Vals xs us):Vals ys us→xs = ys:=by
 induction h generalizing ys with
 | nil=>intro q; cases q; rfl
 | cons r t ih =>
  intro q
  cases q with
  | cons r' t'=>rw [r.inj r',ih t']
section
variable {X:Cx} {pins:List (Addr × Obj)} {σ:St} {H:Hp} {s:Shared} {a:Addr} {xs ys:List V}
theorem Inv.list (I:Inv X pins σ H s) (h:SqL X.K H a xs):∃ its:List Value,Vals xs its∧PlainL s.heap a its.toArray∧xs.length≤sizeLine:=by
 rcases h with h | ⟨o,its,n,hk,hc,hd,hs,hz,r⟩
 ·obtain ⟨z,its,n,r,e⟩:=h.ok I.hok
  exact ⟨its,r,⟨_,n,e,rfl,rfl,rfl⟩,z⟩
 ·refine ⟨its.toList,r,⟨o,n,I.kIn a o hk,hc,hd,by simpa using hs⟩,?_⟩
  have e:=r.length
  simp only [Array.length_toList] at e
  lia
theorem Inv.tuple (I:Inv X pins σ H s) (h:SqT X.K H a xs):∃ its:List Value,Vals xs its∧IsTup s.heap a its.toArray∧xs.length≤sizeLine:=by
 rcases h with h | ⟨o,its,n,hk,hc,hs,hz,r⟩
 ·obtain ⟨z,its,r,p⟩:=h.ok I.hok
  exact ⟨its,r,p,z⟩
 ·refine ⟨its.toList,r,⟨o,I.kIn a o hk,hc,n,by simpa using hs⟩,?_⟩
  have e:=r.length
  simp only [Array.length_toList] at e
  lia
theorem Inv.list_inj (I:Inv X pins σ H s) (h:SqL X.K H a xs) (h':SqL X.K H a ys):xs = ys:=by
 obtain ⟨its,r,⟨o,n,e,_,_,d⟩,_⟩:=I.list h
 obtain ⟨its',r',⟨o',n',e',_,_,d'⟩,_⟩:=I.list h'
 rw [e] at e'; cases e'
 rw [d] at d'
 injection d' with d1 _
 have:its = its':=by simpa using congrArg Array.toList d1
 subst this
 exact r.inj r'
theorem Inv.tuple_inj (I:Inv X pins σ H s) (h:SqT X.K H a xs) (h':SqT X.K H a ys):xs = ys:=by
 obtain ⟨its,r,⟨o,e,_,n,d⟩,_⟩:=I.tuple h
 obtain ⟨its',r',⟨o',e',_,n',d'⟩,_⟩:=I.tuple h'
 rw [e] at e'; cases e'
 rw [d] at d'
 injection d' with d1 _
 have:its = its':=by simpa using congrArg Array.toList d1
 subst this
 exact r.inj r'
end
noncomputable abbrev Cx.wish (X:Cx) (E:Value→Shared→Prop):Cx:={ X with xe:=E }
noncomputable abbrev Cx.nox (X:Cx):Cx:=X.wish fun _ _=>False
theorem Cx.Ok.wish {X:Cx} (ok:X.Ok) (E:Value→Shared→Prop):(X.wish E).Ok:=
 ⟨ok.mod,ok.kind,ok.glob,ok.blt,ok.above,ok.inj,ok.has,ok.cab,ok.hd,ok.frames,ok.stk,ok.exf,ok.bs,ok.bsz,ok.noex,ok.exfs,ok.funs,ok.frf,ok.tb⟩
theorem Cx.Ok.unwish {X:Cx} {E:Value→Shared→Prop} (ok:(X.wish E).Ok):X.Ok:=
 ⟨ok.mod,ok.kind,ok.glob,ok.blt,ok.above,ok.inj,ok.has,ok.cab,ok.hd,ok.frames,ok.stk,ok.exf,ok.bs,ok.bsz,ok.noex,ok.exfs,ok.funs,ok.frf,ok.tb⟩
section
variable {X:Cx} {pins:List (Addr × Obj)} {σ:St} {H:Hp} {s:Shared} {E:Value→Shared→Prop}
theorem Inv.wish (I:Inv X pins σ H s) (E:Value→Shared→Prop):Inv (X.wish E) pins σ H s:=⟨I.ok.wish E,I.os,I.bare,I.base,I.loc,I.cell,I.free,I.freeC,I.pin,I.hok,I.len⟩
theorem Inv.unwish (I:Inv (X.wish E) pins σ H s):Inv X pins σ H s:=⟨I.ok.unwish,I.os,I.bare,I.base,I.loc,I.cell,I.free,I.freeC,I.pin,I.hok,I.len⟩
theorem SP.unwish {D:Ends} {f:Flow} {s':Shared} (h:SP (X.wish E) pins D f s'):SP X pins D f s':=by
 cases f with
 | next=>obtain ⟨σ',H',I,q⟩:=h; exact ⟨σ',H',I.unwish,q⟩
 | brk=>obtain ⟨σ',H',I,q⟩:=h; exact ⟨σ',H',I.unwish,q⟩
 | cont=>obtain ⟨σ',H',I,q⟩:=h; exact ⟨σ',H',I.unwish,q⟩
 | ret u=>obtain ⟨v,σ',H',I,r,q⟩:=h; exact ⟨v,σ',H',I.unwish,r,q⟩
theorem PSs.nox {st:List Stmt} {t:TS} (h:PSs X.nox st t):PSs X st t:=fun pins s σ H D I hw =>
 wpAny_mono (h pins s σ H D (I.wish _) hw) (fun _ _ q=>q.unwish) fun _ _ z=>False.elim z
end
section
variable {X:Cx} {st:Stmt} {rest:List Stmt} {t u:TS} {e:Expr} {te:TE} {pos:Pos}
noncomputable def O9:TS:=fun D σ H=>D.nx σ H
noncomputable def Q0 (t u:TS):TS:=fun D σ H=>t { D with nx:=u D } σ H
theorem Ot:PSs X [] O9:=fun _ _ σ H _ I h=>wpAny_execs_nil ⟨σ,H,I,h⟩
theorem GY (h1:PS X st t) (h2:PSs X rest u):PSs X (st :: rest) (Q0 t u):=by
 intro pins s σ H D I h
 refine wpAny_execs_cons (thn (h1 pins s σ H { D with nx:=u D } I h) fun f s1 q=>?_)
 cases f with
 | next =>
  obtain ⟨σ',H',I',q⟩:=q
  exact h2 pins s1 σ' H' D I' q
 | ret v=>exact q
 | brk=>exact q
 | cont=>exact q
theorem Ou (h1:PS X st t):PSs X [st] t:=by
 intro pins s σ H D I h
 refine wpAny_execs_cons (thn (h1 pins s σ H D I h) fun f s1 q=>?_)
 cases f with
 | next=>exact wpAny_execs_nil q
 | ret v=>exact q
 | brk=>exact q
 | cont=>exact q
theorem Inv.quiet {pins:List (Addr × Obj)} {σ:St} {H:Hp} {s:Shared} (I:Inv X pins σ H s):interactive X.env = false:=by simp [interactive,I.ok.kind]
noncomputable def Ld (te:TE):TS:=fun D σ H=>te σ H fun _ H1=>D.nx σ H1
theorem Iu (he:PE X e te) (hs:swapsWith e none pos.line X.env = pure false:=by rfl):PS X (.Expr e pos) (Ld te):=by
 intro pins s σ H D I h
 exact wpAny_Expr_any (thn (he pins s σ H _ I h) fun v s1 ⟨x,H1,I1,r1,q1⟩=>⟨σ,H1,I1,q1⟩) I.quiet hs
noncomputable def R1 (te:TE):TS:=fun D σ H=>te σ H D.rt
theorem Nd (he:PE X e te):PS X (.Return (some e) pos) (R1 te):=by
 intro pins s σ H D I h
 exact wpAny_Return_some (thn (he pins s σ H _ I h) fun v s1 ⟨x,H1,I1,r1,q1⟩=>⟨x,σ,H1,I1,r1,q1⟩)
noncomputable def QR (c:TT) (t u:TS):TS:=fun D σ H=>c σ H fun b H1=>if b = true then t D σ H1 else u D σ H1
theorem O4 {c:Expr} {a b:List Stmt} {tc:TT} (hc:PT X c tc) (ha:PSs X a t) (hb:PSs X b u):PS X (.If c a b pos) (QR tc t u):=by
 intro pins s σ H D I h
 refine wpAny_If (thn (hc pins s σ H _ I h) fun d s1 yy=>?_)
 obtain ⟨H1,I1,q1⟩:=yy
 cases d with
 | true=>exact ha pins s1 σ H1 D I1 q1
 | false=>exact hb pins s1 σ H1 D I1 q1
end
noncomputable abbrev TG:=V→St→Hp→(St→Hp→Prop)→Prop
noncomputable abbrev TGs:=List V→St→Hp→(St→Hp→Prop)→Prop
noncomputable def PG (X:Cx) (target:Expr) (t:TG):Prop:=
 ∀ (pins:List (Addr × Obj)) (s:Shared) (σ:St) (H:Hp) (v:V) (u:Value) (Q:St→Hp→Prop),Inv X pins σ H s→RelV v u→t v σ H Q →
  wpAny (model X.prog X.w) X.A (assign target X.env u) (fun _ s'=>∃ σ' H',Inv X pins σ' H' s'∧Q σ' H') X.xe s
noncomputable def PGs (X:Cx) (ts:List Expr) (t:TGs):Prop:=
 ∀ (pins:List (Addr × Obj)) (s:Shared) (σ:St) (H:Hp) (vs:List V) (us:List Value) (Q:St→Hp→Prop),Inv X pins σ H s→Vals vs us→t vs σ H Q →
  wpAny (model X.prog X.w) X.A (assignInOrder ((assignEach ts X.env).map (·.2)) us) (fun _ s'=>∃ σ' H',Inv X pins σ' H' s'∧Q σ' H') X.xe s
noncomputable abbrev Pg:=V→V→V→Hp→(Hp→Prop)→Prop
noncomputable def Q9 (X:Cx) (t:Pg):Prop:=
 ∀ (pins:List (Addr × Obj)) (s:Shared) (σ:St) (H:Hp) (o i v:V) (ov iv u:Value) (Q:Hp→Prop),Inv X pins σ H s→RelV o ov→RelV i iv→RelV v u→t o i v H Q →
  wpAny (model X.prog X.w) X.A (setItem ov iv u) (fun _ s'=>∃ H',Inv X pins σ H' s'∧Q H') X.xe s
section
variable {X:Cx} {pos:Pos}
noncomputable def GC (i:Nat):TG:=fun v σ H Q=>Q (σ.set i (some v)) H
theorem K5 {i:Nat} {x:Str} (hN:X.N.Nodup) (hi:X.N[i]? = some x) (hx:Loc X.env.scope x) (hf:X.fn x = true∨X.env.scope.names.lookup x = some .local:=by first | exact .inl rfl | exact .inr rfl | assumption):PG X (.Name x pos) (GC i):=by
 intro pins s σ H v u Q I r h
 exact wpAny_assign_Name (Ez I hN hi hx r (fun s' I'=>⟨_,H,I',h⟩) hf)
noncomputable def Rj:TGs:=fun vs σ H Q=>vs = []∧Q σ H
noncomputable def OZ (t:TG) (u:TGs):TGs:=fun vs σ H Q=>∃ v r,vs = v :: r∧t v σ H fun σ' H'=>u r σ' H' Q
theorem Oq:PGs X [] Rj:=by
 intro pins s σ H vs us Q I r h
 obtain ⟨e,h⟩:=h
 subst e
 cases r
 exact assignInOrder_nil ⟨σ,H,I,h⟩
theorem M9 {e:Expr} {es:List Expr} {t:TG} {u:TGs} (h1:PG X e t) (h2:PGs X es u)
  (hs:(assignEach (e :: es) X.env).map (·.2) = assign e X.env :: (assignEach es X.env).map (·.2):=by rfl):PGs X (e :: es) (OZ t u):=by
 intro pins s σ H vs us Q I r h
 obtain ⟨v,vr,e1,h⟩:=h
 subst e1
 cases r with
 | cons r rr =>
  rw [hs]
  refine assignInOrder_cons (thn (h1 pins s σ H _ _ _ I r h) fun _ s1 yy=>?_)
  obtain ⟨σ1,H1,I1,q1⟩:=yy
  exact h2 pins s1 σ1 H1 _ _ Q I1 rr q1
noncomputable def Pr (K:Frag) (n:Nat) (t:TGs):TG:=fun v σ H Q=>∃ a xs,v = .ref a∧SqT K H a xs∧xs.length = n∧t xs σ H Q
theorem Qt {es:List Expr} {k:Nat} {t:TGs} {n:Nat} (hc:X.calm = true) (h:PGs X es t)
  (hn:(assignEach es X.env).length = n:=by rfl) (hst:(assignEach es X.env).findIdx? (·.1) = none:=by rfl):PG X (.Tuple es k pos) (Pr X.K n t):=by
 intro pins s σ H v u Q I r hw
 obtain ⟨a,xs,e1,hq,hl,hw⟩:=hw
 subst e1
 cases r
 obtain ⟨its,rv,ht,hz⟩:=I.tuple hq
 refine assign_Tuple_tuple (I.ok.hd hc) ht (by simp [hn,← hl,rv.length]) hst fun h' hx=>?_
 have I1:Inv X pins σ H { s with heap:=h' }:=I.kept (t':=s.toks) fun b o e=>hx b o (Nat.ne_of_lt (Heap.lt_size e)) e
 exact h pins _ σ H xs _ Q I1 (by simpa using rv) hw
noncomputable def Rk (to ti:TE) (t:Pg):TG:=fun v σ H Q=>to σ H fun o H1=>ti σ H1 fun i H2=>t o i v H2 fun H3=>Q σ H3
theorem Qs {o i:Expr} {to ti:TE} {t:Pg} (ho:PE X o to) (hi:PE X i ti) (hs:Q9 X t)
  (ha:∀ v,assign (.Subscript o i pos) X.env v = (do
   let ov ← holding [v] (eval o X.env)
   let iv ← holding [v,ov] (eval i X.env)
   standAt pos
   holding [v,ov,iv] (setItem ov iv v)
   release [v,ov,iv] []):=by intro _; rfl):PG X (.Subscript o i pos) (Rk to ti t):=by
 intro pins s σ H v u Q I r h
 rw [ha]
 refine wpAny_bind (wpAny_holding (thn (ho pins s σ H _ I h) fun ov s1 yy=>?_))
 obtain ⟨x,H1,I1,r1,q1⟩:=yy
 refine wpAny_bind (wpAny_holding (thn (hi pins s1 σ H1 _ I1 q1) fun iv s2 yy=>?_))
 obtain ⟨y,H2,I2,r2,q2⟩:=yy
 refine wpAny_bind (wpAny_standAt (wpAny_bind (wpAny_holding (thn (hs pins s2 σ H2 x y v ov iv u _ I2 r1 r2 r q2) fun _ s3 yy=>?_))))
 obtain ⟨H3,I3,q3⟩:=yy
 exact wpAny_release ⟨σ,H3,I3,q3⟩
noncomputable def LX (te:TE) (g:TG):TS:=fun D σ H=>te σ H fun x H1=>g x σ H1 D.nx
theorem Nb {tg e:Expr} {te:TE} {g:TG} (he:PE X e te) (hg:PG X tg g) (hs:swapsWithSole [tg] e pos.line X.env = pure false:=by rfl) (hw:swappedStores [tg] e X.env = pure none:=by rfl)
  (h1:(assignEach [tg] X.env).map (·.2) = [assign tg X.env]:=by rfl):PS X (.Assign [tg] e pos) (LX te g):=by
 intro pins s σ H D I h
 refine wpAny_Assign_stores (thn (he pins s σ H _ I h) fun v s1 yy=>?_) hs hw
 obtain ⟨x,H1,I1,r1,q1⟩:=yy
 rw [h1]
 exact thn (hg pins s1 σ H1 x v _ I1 r1 q1) fun _ s2 q=>q
theorem Qw {i:Nat} {x:Str} {e:Expr} {te:TE} {pos':Pos} (hN:X.N.Nodup) (hi:X.N[i]? = some x) (hx:Loc X.env.scope x) (he:PE X e te) (hs:swapsWith e (some (.Name x pos')) pos.line X.env = pure false:=by rfl) (hf:X.fn x = true∨X.env.scope.names.lookup x = some .local:=by first | exact .inl rfl | exact .inr rfl | assumption) :
  PS X (.Assign [.Name x pos'] e pos) (LX te (GC i)):=by
 intro pins s σ H D I h
 refine wpAny_Assign_Name (thn (he pins s σ H _ I h) fun v s1 yy=>?_) hs
 obtain ⟨y,H1,I1,r1,q1⟩:=yy
 exact Ez I1 hN hi hx r1 (fun s2 I2=>⟨_,H1,I2,q1⟩) hf
end
section
variable {X:Cx} {pos:Pos}
end
structure It where
 go:Nat→Hp→Prop
 yld:Nat→Hp→V→Hp→Prop
 stop:Nat→Hp→Prop
noncomputable def DN (X:Cx) (pins:List (Addr × Obj)) (H:Hp) (b:Addr):Prop:=
 H b = none∧b≠X.env.locals∧b ∉ X.fs∧(b∈X.ex∨X.s₀.heap.objs.size≤b)∧(∀ x c,X.env.cells.lookup x = some c→c≠b)∧∀ p∈X.pn ++ pins,p.1≠b
theorem Inv.fpOk {X:Cx} {pins:List (Addr × Obj)} {σ:St} {H H':Hp} {s:Shared} {b:Addr} (I:Inv X pins σ H s) (hb:s.heap.objs.size≤b) (hn:H' b = none):DN X pins H' b:=by
 refine ⟨hn,Nat.ne_of_gt (Nat.lt_of_lt_of_le I.lt hb),I.nofs hb,.inr (Nat.le_trans I.sz hb),fun x c e z=>?_,fun p hp z=>?_⟩
 ·obtain ⟨v,q⟩:=I.cell x c e
  exact absurd (Nat.lt_of_lt_of_le q.lt (by rw [z]; exact hb)) (Nat.lt_irrefl _)
 ·exact absurd (Nat.lt_of_lt_of_le (Heap.lt_size (I.pin p hp).1) (by rw [z]; exact hb)) (Nat.lt_irrefl _)
structure Turn (P:Program) (w:World) (K:Frag) (tg:Expr) (J:It) (fp:List Addr) (it:Addr) (tn:Nat→Heap→Prop):Prop where
 mem:it∈fp
 obj:∀ i h,tn i h→∀ b∈fp,∃ o,h.get? b = some o∧∀ v,o.data ≠ .cell v
 keep:∀ i h h',tn i h→(∀ b∈fp,∀ o,h.get? b = some o→h'.get? b = some o)→tn i h'
 item:∀ (X:Cx),X.prog = P→X.w = w→X.K = K→X.calm = true→∀ (i:Nat) (pins:List (Addr × Obj)) (s:Shared) (σ:St) (H:Hp) (E:Value→Shared→Prop),Inv X pins σ H s→(∀ b∈fp,DN X pins H b)→tn i s.heap→J.go i H →
  wpAny (model P w) X.A (pyNext (.ref it)) (fun r s1=>∃ u,r = some u ∧
   wpAny (model P w) X.A (letOwnedTupleGo tg (.ref it) u) (fun _ s2=>∃ x H',Inv X pins σ H' s2∧RelV x u∧J.yld i H x H'∧tn (i + 1) s2.heap∧∀ b∈fp,H' b = none) E s1) E s
 done:∀ (X:Cx),X.prog = P→X.w = w→X.K = K→X.calm = true→∀ (i:Nat) (pins:List (Addr × Obj)) (s:Shared) (σ:St) (H:Hp) (E:Value→Shared→Prop),Inv X pins σ H s→(∀ b∈fp,DN X pins H b)→tn i s.heap→J.stop i H →
  wpAny (model P w) X.A (pyNext (.ref it)) (fun r s1=>r = none∧Inv X pins σ H s1) E s
 self:∀ (A:Around) (i:Nat) (s:Shared) (Q:Value→Shared→Prop) (E:Value→Shared→Prop),tn i s.heap→Q (.ref it) s→wpAny (model P w) A (pyIter (.ref it)) Q E s
noncomputable abbrev TI:=St→Hp→(It→Hp→Prop)→Prop
noncomputable def PIE (X:Cx) (pins:List (Addr × Obj)) (σ:St) (tg:Expr) (R:It→Hp→Prop) (itv:Value) (s2:Shared):Prop:=
 ∃ (it:Addr) (fp:List Addr) (tn:Nat→Heap→Prop) (J:It) (H':Hp),itv = .ref it∧Inv X pins σ H' s2∧Turn X.prog X.w X.K tg J fp it tn∧tn 0 s2.heap∧(∀ b∈fp,DN X pins H' b)∧R J H'
noncomputable def PI (X:Cx) (tg iter:Expr) (wi:TI):Prop:=
 ∀ (pins:List (Addr × Obj)) (s:Shared) (σ:St) (H:Hp) (R:It→Hp→Prop),Inv X pins σ H s→wi σ H R →
  wpAny (model X.prog X.w) X.A (eval iter X.env) (fun v s1=>wpAny (model X.prog X.w) X.A (pyIter v) (PIE X pins σ tg R) X.xe s1) X.xe s
theorem KR {M:Model} {A:Around} {E:Value→Shared→Prop} {s:Shared} {tg:Expr} {it:Addr} {u:Value} {o:Obj} {n:String} {vs:Array Value} {Q:Unit→Shared→Prop} (ho:s.heap.get? it = some o) (hc:o.cls = .type n) (hd:o.data = .fields vs)
  (hn:["enumerate","zip","dict_itemiterator","dict_reverseitemiterator","odict_iterator","itertools.zip_longest","itertools.pairwise"].contains n = false) (hQ:Q () s):wpAny M A (letOwnedTupleGo tg (.ref it) u) Q E s:=by
 unfold letOwnedTupleGo
 cases tg <;> first
  | exact wpAny_pure hQ
  | (cases u <;> first
    | exact wpAny_pure hQ
    | (refine wpAny_bind (wpAny_load ho ?_)
       rw [hc,hd]
       show wpAny M A (if (["enumerate","zip","dict_itemiterator","dict_reverseitemiterator","odict_iterator","itertools.zip_longest","itertools.pairwise"].contains n && vs[0]? == some (rawInt _)) = true then _ else _) Q E s
       rw [if_neg (by intro h; rw [hn,Bool.false_and] at h; cases h)]
       exact wpAny_pure hQ))
noncomputable def Itl (K:Frag) (a:Addr):It:=
 ⟨fun i H=>∃ xs x,SqL K H a xs∧xs[i]? = some x,fun i H x H'=>H' = H∧∀ xs,SqL K H a xs→xs[i]? = some x,fun i H=>∃ xs,SqL K H a xs∧xs.length≤i⟩
noncomputable def Itt (K:Frag) (a:Addr):It:=
 ⟨fun i H=>∃ xs x,SqT K H a xs∧xs[i]? = some x,fun i H x H'=>H' = H∧∀ xs,SqT K H a xs→xs[i]? = some x,fun i H=>∃ xs,SqT K H a xs∧xs.length≤i⟩
noncomputable def Itr (lo:Int) (n:Nat):It:=⟨fun i _=>i < n,fun i H x H'=>H' = H∧x = .int (lo + i),fun i _=>n≤i⟩
theorem LY {P:Program} {w:World} {K:Frag} {tg:Expr} (a it:Addr):Turn P w K tg (Itl K a) [it] it (fun i h=>h.IsListIter it a i) where
 mem:=by simp
 obj:=fun i h st b hb=>by
  have e:b = it:=by simpa using hb
  subst e
  obtain ⟨o,e,c,d⟩:=st
  exact ⟨o,e,fun v z=>by rw [d] at z; cases z⟩
 keep:=fun i h h' st k=>st.at fun o e=>k it (by simp) o e
 item:=by
  intro X hP hw hK hc i pins s σ H E I hf st hg
  subst hP hw hK
  obtain ⟨xs,x,hq,hx⟩:=hg
  obtain ⟨its,rv,p,hz⟩:=I.list hq
  obtain ⟨u,hu,ru⟩:=rv.get hx
  obtain ⟨f0,f1,f2,f3,f4,f5⟩:=hf it (by simp)
  refine wpAny_pyNext_list_item st p.isList (x:=u) (by simpa using hu) fun h' st' sb=>?_
  have I1:Inv X pins σ H { s with heap:=h' }:=I.turned (t':=s.toks) (fun b o hb e=>(sb.2 b hb).trans e) f0 f1 f3 f4 f5
  obtain ⟨o,e,c,d⟩:=id st'
  exact ⟨u,rfl,KR (s:={ s with heap:=h' }) e c d (by decide) ⟨x,H,I1,ru,⟨rfl,fun ys hy=>by rw [I.list_inj hy hq]; exact hx⟩,st',fun b hb=>(hf b hb).1⟩⟩
 done:=by
  intro X hP hw hK hc i pins s σ H E I hf st hg
  subst hP hw hK
  obtain ⟨xs,hq,hx⟩:=hg
  obtain ⟨its,rv,p,hz⟩:=I.list hq
  obtain ⟨f0,f1,f2,f3,f4,f5⟩:=hf it (by simp)
  have hl:=rv.length
  exact wpAny_pyNext_list_end (I.ok.hd hc) st p.isList (by simp; lia) fun h' eb=>⟨rfl,I.turned (t':=s.toks) (fun b o hb e=>eb b o hb e) f0 f1 f3 f4 f5⟩
 self:=fun _ _ _ _ _ st h=>wpAny_pyIter_listiter st h
theorem Kz {P:Program} {w:World} {K:Frag} {tg:Expr} (a it:Addr):Turn P w K tg (Itt K a) [it] it (fun i h=>h.IsTupleIter it a i) where
 mem:=by simp
 obj:=fun i h st b hb=>by
  have e:b = it:=by simpa using hb
  subst e
  obtain ⟨o,e,c,d⟩:=st
  exact ⟨o,e,fun v z=>by rw [d] at z; cases z⟩
 keep:=fun i h h' st k=>st.at fun o e=>k it (by simp) o e
 item:=by
  intro X hP hw hK hc i pins s σ H E I hf st hg
  subst hP hw hK
  obtain ⟨xs,x,hq,hx⟩:=hg
  obtain ⟨its,rv,p,hz⟩:=I.tuple hq
  obtain ⟨u,hu,ru⟩:=rv.get hx
  obtain ⟨f0,f1,f2,f3,f4,f5⟩:=hf it (by simp)
  refine wpAny_pyNext_tuple_item st (show s.heap.IsTuple a its.toArray from p) (x:=u) (by simpa using hu) fun h' st' sb=>?_
  have I1:Inv X pins σ H { s with heap:=h' }:=I.turned (t':=s.toks) (fun b o hb e=>(sb.2 b hb).trans e) f0 f1 f3 f4 f5
  obtain ⟨o,e,c,d⟩:=id st'
  exact ⟨u,rfl,KR (s:={ s with heap:=h' }) e c d (by decide) ⟨x,H,I1,ru,⟨rfl,fun ys hy=>by rw [I.tuple_inj hy hq]; exact hx⟩,st',fun b hb=>(hf b hb).1⟩⟩
 done:=by
  intro X hP hw hK hc i pins s σ H E I hf st hg
  subst hP hw hK
  obtain ⟨xs,hq,hx⟩:=hg
  obtain ⟨its,rv,p,hz⟩:=I.tuple hq
  obtain ⟨f0,f1,f2,f3,f4,f5⟩:=hf it (by simp)
  have hl:=rv.length
  exact wpAny_pyNext_tuple_end (I.ok.hd hc) st (show s.heap.IsTuple a its.toArray from p) (by simp; lia) fun h' eb=>⟨rfl,I.turned (t':=s.toks) (fun b o hb e=>eb b o hb e) f0 f1 f3 f4 f5⟩
 self:=fun _ _ _ _ _ st h=>wpAny_pyIter_tupleiter st h
theorem Ky {P:Program} {w:World} {K:Frag} {tg:Expr} (it:Addr) (lo:Int) (n:Nat):Turn P w K tg (Itr lo n) [it] it (fun i h=>IsRangeIter h it (lo + (i:Nat) * 1) ((n:Int) - (i:Nat)) 1) where
 mem:=by simp
 obj:=fun i h st b hb=>by
  have e:b = it:=by simpa using hb
  subst e
  exact ⟨_,st,fun v z=>by
   have z':Data.fields _ = Data.cell v:=z
   cases z'⟩
 keep:=fun i h h' st k=>k it (by simp) _ st
 item:=by
  intro X hP hw hK hc i pins s σ H E I hf st hg
  subst hP hw hK
  obtain ⟨f0,f1,f2,f3,f4,f5⟩:=hf it (by simp)
  have W:=Walks.range (prog:=X.prog) (w:=X.w) (I.ok.hd hc) it lo 1 n
  refine W.item i s _ _ hg st fun v h' tk hv st' kk=>?_
  obtain ⟨t,rfl⟩:=hv
  have I1:Inv X pins σ H { s with heap:=h',toks:=tk }:=I.turned (fun b o hb e=>kk b o (by simpa using hb) e) f0 f1 f3 f4 f5
  refine ⟨_,rfl,KR (s:={ s with heap:=h',toks:=tk }) (n := "range_iterator") st' rfl rfl (by decide) ⟨.int (lo + i),H,I1,⟨t,?_⟩,⟨rfl,rfl⟩,st',fun b hb=>(hf b hb).1⟩⟩
  rw [Int.mul_one]
 done:=by
  intro X hP hw hK hc i pins s σ H E I hf st hg
  subst hP hw hK
  obtain ⟨f0,f1,f2,f3,f4,f5⟩:=hf it (by simp)
  exact wpAny_pyNext_range_end (I.ok.hd hc) st (by have:n≤i:=hg; lia) fun h' eb=>⟨rfl,I.turned (t':=s.toks) (fun b o hb e=>eb b o hb e) f0 f1 f3 f4 f5⟩
 self:=fun _ _ _ _ _ st h=>wpAny_pyIter_rangeiter st h
end L2
namespace L2
open PySem PySem.Spec PyProof.Rows
section
variable {X:Cx} {tg:Expr}
theorem Js {pins:List (Addr × Obj)} {σ:St} {H:Hp} {s:Shared} {R:It→Hp→Prop} {E:Value→Shared→Prop} {lo hi:Int} {t u v:Tok} {tk:Nat} (I:Inv X pins σ H s) (h1 : -(2 ^ 62)≤lo) (h2:lo < 2 ^ 62) (h3 : -(2 ^ 62)≤hi) (h4:hi < 2 ^ 62)
  (q:R (Itr lo (hi - lo).toNat) H):wpAny (model X.prog X.w) X.A (pyIter (.ref s.heap.objs.size)) (PIE X pins σ tg R) E { s with heap:=s.heap.push { cls:=.type "range",data:=.fields #[.int lo t,.int hi u,.int 1 v] },toks:=tk }:=by
 refine wpAny_pyIter_range (IsRange.new ..) (small_one h1 h2 h3 h4) ?_
 have I1:Inv X pins σ H { s with heap:=s.heap.push { cls:=.type "range",data:=.fields #[.int lo t,.int hi u,.int 1 v] },toks:=tk }:=I.kept fun b o e=>Heap.get?_push_of_some _ e
 refine ⟨(s.heap.push { cls:=.type "range",data:=.fields #[.int lo t,.int hi u,.int 1 v] }).objs.size,[(s.heap.push { cls:=.type "range",data:=.fields #[.int lo t,.int hi u,.int 1 v] }).objs.size],_,_,H,rfl,
  I1.kept (t':=tk) fun b o e=>Heap.get?_push_of_some _ e,Ky _ lo (hi - lo).toNat,?_,fun b hb=>?_,q⟩
 ·have e1:lo + ((0:Nat):Int) * 1 = lo:=by simp
  have e2:(((hi - lo).toNat:Nat):Int) - ((0:Nat):Int) = Builtin.Range.rangeSize lo hi 1:=by rw [rangeSize_one]; split <;> lia
  show IsRangeIter _ _ (lo + ((0:Nat):Int) * 1) ((((hi - lo).toNat:Nat):Int) - ((0:Nat):Int)) 1
  rw [e1,e2]
  exact Heap.get?_push_size _ rfl
 ·have e:b = (s.heap.push { cls:=.type "range",data:=.fields #[.int lo t,.int hi u,.int 1 v] }).objs.size:=by simpa using hb
  subst e
  exact I1.fpOk (Nat.le_refl _) (I1.hok.fresh (Nat.le_refl _))
noncomputable def Mt (ta:TA):TI:=fun σ H R=>ta σ H fun vs H1=>∃ j:Int,vs = [.int j] ∧ -(2 ^ 62)≤j∧j < 2 ^ 62∧R (Itr 0 j.toNat) H1
noncomputable def O0 (ta:TA):TI:=fun σ H R=>ta σ H fun vs H1=>∃ i j:Int,vs = [.int i,.int j]∧(-(2 ^ 62)≤i∧i < 2 ^ 62 ∧ -(2 ^ 62)≤j∧j < 2 ^ 62)∧R (Itr i (j - i).toNat) H1
theorem LK {a:Expr} {ta:TA} {p pos:Pos} (hg:Gl X "range") (hm:X.mg "range" = none) (ha:PA X [a] ta) (hs:starEach [a] X.env = [(false,eval a X.env)]:=by rfl):PI X tg (.Call (.Name "range" p) [a] [] pos) (Mt ta):=by
 intro pins s σ H R I h
 refine Call_ (FH I hg hm boot_range (PyProof.Rows.callWith_type1 (thn (ha pos pins s σ H _ I h) fun us s1 ⟨vs,H1,I1,r1,q1⟩=>?_) hs rfl))
 obtain ⟨j,e,q1,q2,q⟩:=q1
 subst e
 cases r1 with
 | cons r rr =>
  cases rr
  obtain ⟨t,rfl⟩:=r
  exact call_range_1 (Js I1 (by lia) (by lia) q1 q2 (by simpa using q))
theorem LL {a b:Expr} {ta:TA} {p pos:Pos} (hg:Gl X "range") (hm:X.mg "range" = none) (ha:PA X [a,b] ta) (hs:starEach [a,b] X.env = [(false,eval a X.env),(false,eval b X.env)]:=by rfl) (hs2:starEach [b] X.env = [(false,eval b X.env)]:=by rfl) :
  PI X tg (.Call (.Name "range" p) [a,b] [] pos) (O0 ta):=by
 intro pins s σ H R I h
 refine Call_ (FH I hg hm boot_range (PyProof.Rows.callWith_type1 (thn (ha pos pins s σ H _ I h) fun us s1 ⟨vs,H1,I1,r1,q1⟩=>?_) (by rw [hs,hs2]) (by rw [hs2]; rfl)))
 obtain ⟨i,j,e,⟨q1,q2,q3,q4⟩,q⟩:=q1
 subst e
 cases r1 with
 | cons r rr =>
  cases rr with
  | cons r' rr =>
   cases rr
   obtain ⟨t,rfl⟩:=r
   obtain ⟨t',rfl⟩:=r'
   exact call_range_2 (Js I1 q1 q2 q3 q4 q)
noncomputable def RW (wi:TI) (g:TG) (tb:TS):TS:=fun D σ H=>wi σ H fun J H1=>∃ W:Nat→Nat→St→Hp→Prop,(∃ m,W 0 m σ H1)∧∀ i m σ H,W i m σ H →
 (J.stop i H∧D.nx σ H)∨(J.go i H∧∃ N:St→Hp→Prop,(∀ σ' H',N σ' H'→∃ m',m' < m∧W (i + 1) m' σ' H')∧∀ x H',J.yld i H x H'→g x σ H' fun σ2 H2=>tb { D with nx:=N,ct:=N,bk:=D.nx } σ2 H2)
noncomputable def FV (fp:List Addr) (h:Heap):List (Addr × Obj):=fp.filterMap fun b=>(h.get? b).map fun o=>(b,o)
theorem CV {fp:List Addr} {h:Heap} {b:Addr} {o:Obj} (hb:b∈fp) (e:h.get? b = some o):(b,o)∈FV fp h:=List.mem_filterMap.mpr ⟨b,hb,by rw [e]; rfl⟩
theorem LC {fp:List Addr} {h:Heap} {p:Addr × Obj} (hp:p∈FV fp h):p.1∈fp∧h.get? p.1 = some p.2:=by
 obtain ⟨b,hb,e⟩:=List.mem_filterMap.mp hp
 cases q:h.get? b with
 | none=>rw [q] at e; cases e
 | some o =>
  rw [q] at e
  have e':(b,o) = p:=Option.some.inj e
  subst e'
  exact ⟨hb,q⟩
theorem Inv.pinned {pins:List (Addr × Obj)} {σ:St} {H:Hp} {s:Shared} {fp:List Addr} (I:Inv X pins σ H s) (hf:∀ b∈fp,DN X pins H b) (ho:∀ b∈fp,∃ o,s.heap.get? b = some o∧∀ v,o.data ≠ .cell v):Inv X (pins ++ FV fp s.heap) σ H s:=
 I.pins_of fun p hp=>(List.mem_append.mp hp).elim (fun z=>I.pin p (List.mem_append_right _ z)) fun z=>by
  obtain ⟨hb,e⟩:=LC z
  obtain ⟨f0,f1,f2,_⟩:=hf p.1 hb
  obtain ⟨o,e',d⟩:=ho p.1 hb
  rw [e] at e'; cases e'
  exact ⟨e,f0,f1,f2,d⟩
theorem Inv.unpinned {pins pl:List (Addr × Obj)} {σ:St} {H:Hp} {s:Shared} (I:Inv X (pins ++ pl) σ H s):Inv X pins σ H s:=I.pins_of fun p hp=>I.pin p (List.mem_append_right _ (List.mem_append_left _ hp))
theorem Qv {iter:Expr} {body:List Stmt} {wi:TI} {g:TG} {tb:TS} {pos:Pos} (hp:PassesOwn (model X.prog X.w) X.A X.env X.xe) (hc:X.calm = true) (hi:PI X tg iter wi) (hg:PG X tg g) (hb:PSs X body tb)
  (hs:∀ x,foldedSetIterable iter X.env x = pure x:=by intro _; rfl):PS X (.For tg iter body [] pos) (RW wi g tb):=by
 intro pins s σ H D I h
 refine wpAny_For (thn (hi pins s σ H _ I h) fun v s1 h1=>thn h1 fun itv s2 h2=>?_) hs
 obtain ⟨it,fp,tn,J,H2,e,I2,T,st2,f2,W,⟨m0,w0⟩,turn⟩:=h2
 subst e
 -- what stays true of the iterator's objects through the loop
 have stat:∀ {H':Hp},(∀ b∈fp,H' b = none)→∀ b∈fp,DN X pins H' b:=fun hn b hb=>⟨hn b hb,(f2 b hb).2⟩
 refine codeAny_forLoop_any (fun n s'=>∃ i σ' H',Inv X pins σ' H' s'∧tn i s'.heap∧(∀ b∈fp,H' b = none)∧W i n σ' H') ?_ m0 ⟨0,σ,H2,I2,st2,fun b hb=>(f2 b hb).1,w0⟩
 rintro n s3 ⟨i,σ3,H3,I3,st3,fr3,w3⟩
 rcases turn i n σ3 H3 w3 with ⟨stop,qn⟩ | ⟨go,N,hN,step⟩
 ·refine wpAny_passesOwn hp (thn (T.done X rfl rfl rfl hc i pins s3 σ3 H3 X.xe I3 (stat fr3) st3 stop) fun r s4 yy=>?_)
  obtain ⟨hr,I4⟩:=yy
  subst hr
  exact wpAny_execs_nil ⟨σ3,H3,I4,qn⟩
 ·refine wpAny_passesOwn hp (thn (T.item X rfl rfl rfl hc i pins s3 σ3 H3 X.xe I3 (stat fr3) st3 go) fun r s4 yy=>?_)
  obtain ⟨u,hr,h4⟩:=yy
  subst hr
  refine wpAny_passesOwn hp (thn h4 fun _ s5 yy=>?_)
  obtain ⟨x,H5,I5,r5,y5,st5,fr5⟩:=yy
  have I5':=I5.pinned (stat fr5) (T.obj _ _ st5)
  refine wpAny_passesOwn hp (thn (hg _ s5 σ3 H5 x u _ I5' r5 (step x H5 y5)) fun _ s6 yy=>?_)
  obtain ⟨σ6,H6,I6,q6⟩:=yy
  refine wpAny_passesOwn hp (thn (hb _ s6 σ6 H6 _ I6 q6) fun f s7 q7=>?_)
  have again:∀ {σ7:St} {H7:Hp},Inv X (pins ++ FV fp s5.heap) σ7 H7 s7→N σ7 H7→∃ m,m < n∧∃ i σ' H',Inv X pins σ' H' s7∧tn i s7.heap∧(∀ b∈fp,H' b = none)∧W i m σ' H':=fun {σ7 H7} I7 n7=>by
   obtain ⟨m',hm,w7⟩:=hN σ7 H7 n7
   refine ⟨m',hm,i + 1,σ7,H7,I7.unpinned,T.keep _ _ _ st5 fun b hb o e=>(I7.pin (b,o) (List.mem_append_right _ (List.mem_append_right _ (CV hb e)))).1,fun b hb=>?_,w7⟩
   obtain ⟨o,e,d⟩:=T.obj _ _ st5 b hb
   exact (I7.pin (b,o) (List.mem_append_right _ (List.mem_append_right _ (CV hb e)))).2.1
  cases f with
  | next=>obtain ⟨σ7,H7,I7,n7⟩:=q7; exact again I7 n7
  | cont=>obtain ⟨σ7,H7,I7,n7⟩:=q7; exact again I7 n7
  | brk=>obtain ⟨σ7,H7,I7,q7⟩:=q7; exact ⟨σ7,H7,I7.unpinned,q7⟩
  | ret v=>obtain ⟨x7,σ7,H7,I7,r7,q7⟩:=q7; exact ⟨x7,σ7,H7,I7.unpinned,r7,q7⟩
end
end L2
namespace L2
open PySem PySem.Spec PyProof.Rows
noncomputable abbrev R2:=V→V→Hp→VK→Prop
noncomputable def OpR (X:Cx) (f:Value→Value→Sem Value) (r:R2):Prop:=
 ∀ (pins:List (Addr × Obj)) (s:Shared) (σ:St) (H:Hp) (x y:V) (v u:Value) (Q:VK),Inv X pins σ H s→RelV x v→RelV y u→r x y H Q →
  wpAny (model X.prog X.w) X.A (f v u) (EP X pins σ Q) X.xe s
noncomputable def UnR (X:Cx) (f:Value→Sem Value) (r:V→Hp→VK→Prop):Prop:=
 ∀ (pins:List (Addr × Obj)) (s:Shared) (σ:St) (H:Hp) (x:V) (v:Value) (Q:VK),Inv X pins σ H s→RelV x v→r x H Q →
  wpAny (model X.prog X.w) X.A (f v) (EP X pins σ Q) X.xe s
noncomputable def Cg (X:Cx) (f:Value) (r:List V→Hp→VK→Prop):Prop:=
 ∀ (pins:List (Addr × Obj)) (s:Shared) (σ:St) (H:Hp) (xs:List V) (us:List Value) (Q:VK),Inv X pins σ H s→Vals xs us→r xs H Q →
  wpAny (model X.prog X.w) X.A (call f us) (EP X pins σ Q) X.xe s
noncomputable def tOp (r:R2) (ta tb:TE):TE:=fun σ H Q=>ta σ H fun x H1=>tb σ H1 fun y H2=>r x y H2 Q
noncomputable def tUn (r:V→Hp→VK→Prop) (ta:TE):TE:=fun σ H Q=>ta σ H fun x H1=>r x H1 Q
noncomputable def rI (C:Int→Int→Prop) (g:Int→Int→V):R2:=fun x y H Q=>∃ i j,x = .int i∧y = .int j∧C i j∧Q (g i j) H
noncomputable def rI0 (g:Int→Int→V):R2:=fun x y H Q=>∃ i j,x = .int i∧y = .int j∧Q (g i j) H
noncomputable def rU (g:Int→V):V→Hp→VK→Prop:=fun x H Q=>∃ i,x = .int i∧Q (g i) H
section
variable {X:Cx} {a b c:Expr} {ta tb tc:TE} {pos:Pos}
theorem Pk (ha:PE X a ta) (hb:PE X b tb) {pins:List (Addr × Obj)} {s:Shared} {σ:St} {H:Hp} {R:V→V→Hp→Prop} (I:Inv X pins σ H s)
  (h:ta σ H fun x H1=>tb σ H1 fun y H2=>R x y H2) {Q:Value→Shared→Prop} {f:Value→Value→Sem Value}
  (hf:∀ v u s2 x y H2,Inv X pins σ H2 s2→RelV x v→RelV y u→R x y H2→wpAny (model X.prog X.w) X.A (f v u) Q X.xe s2) :
  wpAny (model X.prog X.w) X.A (eval a X.env) (fun v s₁=>wpAny (model X.prog X.w) X.A (eval b X.env) (fun u s₂=>wpAny (model X.prog X.w) X.A (f v u) Q X.xe s₂) X.xe s₁) X.xe s:=by
 refine thn (ha pins s σ H _ I h) fun v s1 yy=>?_
 obtain ⟨x,H1,I1,r1,q1⟩:=yy
 refine thn (hb pins s1 σ H1 _ I1 q1) fun u s2 yy=>?_
 obtain ⟨y,H2,I2,r2,q2⟩:=yy
 exact hf v u s2 x y H2 I2 r1 r2 q2
theorem RI {op:Operator} {r:R2} (ho:OpR X (binaryOp op) r) (ha:PE X a ta) (hb:PE X b tb):PE X (.BinOp a op b pos) (tOp r ta tb):=by
 intro pins s σ H Q I h
 exact wpAny_BinOp (Pk ha hb I h fun v u s2 x y H2 I2 rx ry q=>ho pins s2 σ H2 x y v u Q I2 rx ry q)
theorem RJ {op:UnaryOp} {r:V→Hp→VK→Prop} (ho:UnR X (unaryOp op) r) (ha:PE X a ta):PE X (.UnaryOp op a pos) (tUn r ta):=by
 intro pins s σ H Q I h
 exact UnaryOp_ (thn (ha pins s σ H _ I h) fun v s1 ⟨x,H1,I1,r1,q1⟩=>ho pins s1 σ H1 x v Q I1 r1 q1)
theorem opI {f:Value→Value→Sem Value} {C:Int→Int→Prop} {g:Int→Int→Int}
  (rule:∀ (i j:Int) (t u:Tok) (s:Shared) (Q:Value→Shared→Prop) (E:Value→Shared→Prop),C i j→Q (.int (g i j) s.toks) { s with toks:=s.toks + 1 }→wpAny (model X.prog X.w) X.A (f (.int i t) (.int j u)) Q E s) :
  OpR X f (rI C fun i j=>.int (g i j)):=by
 intro pins s σ H x y v u Q I rx ry h
 obtain ⟨i,j,rfl,rfl,hc,q⟩:=h
 obtain ⟨t,rfl⟩:=rx
 obtain ⟨t',rfl⟩:=ry
 exact rule i j t t' s _ _ hc ⟨.int (g i j),H,I.tok _,⟨_,rfl⟩,q⟩
theorem Oe {f:Value→Value→Sem Value} {g:Int→Int→Int}
  (rule:∀ (i j:Int) (t u:Tok) (s:Shared) (Q:Value→Shared→Prop) (E:Value→Shared→Prop),Q (.int (g i j) s.toks) { s with toks:=s.toks + 1 }→wpAny (model X.prog X.w) X.A (f (.int i t) (.int j u)) Q E s) :
  OpR X f (rI0 fun i j=>.int (g i j)):=by
 intro pins s σ H x y v u Q I rx ry h
 obtain ⟨i,j,rfl,rfl,q⟩:=h
 obtain ⟨t,rfl⟩:=rx
 obtain ⟨t',rfl⟩:=ry
 exact rule i j t t' s _ _ ⟨.int (g i j),H,I.tok _,⟨_,rfl⟩,q⟩
theorem Od {f:Value→Value→Sem Value} {g:Int→Int→Bool}
  (rule:∀ (i j:Int) (t u:Tok) (s:Shared) (Q:Value→Shared→Prop) (E:Value→Shared→Prop),Q (.bool (g i j)) s→wpAny (model X.prog X.w) X.A (f (.int i t) (.int j u)) Q E s) :
  OpR X f (rI0 fun i j=>.bl (g i j)):=by
 intro pins s σ H x y v u Q I rx ry h
 obtain ⟨i,j,rfl,rfl,q⟩:=h
 obtain ⟨t,rfl⟩:=rx
 obtain ⟨t',rfl⟩:=ry
 exact rule i j t t' s _ _ ⟨.bl (g i j),H,I,rfl,q⟩
theorem fdB {x y:Int} (h:y.natAbs < 1099511627776):Builtin.divisionGoesByPylong x y = false:=PyProof.noPylong_of_log2 (by
 by_cases h0:y.natAbs = 0
 ·rw [h0]; decide
 ·have h1:y.natAbs < 2 ^ 40:=by simpa using h
  have:=(Nat.log2_lt h0).mpr h1
  omega)
noncomputable def Pe (i j:Int):Prop:=0 < j∧j < 1099511627776
noncomputable def Lk (i j:Int):Prop:=0≤j∧j≤1000000∧i.natAbs < 2 ^ 64
noncomputable def NH (i j:Int):Prop:=(-(2 ^ 64) < i∧i < 2 ^ 64)∨(-(2 ^ 64) < j∧j < 2 ^ 64)
theorem NH.ok {i j:Int} (h:NH i j):IntMulOk i j:=by
 rcases h with ⟨h1,h2⟩ | ⟨h1,h2⟩
 ·exact .of_left (intBits_le_64 h1 h2)
 ·exact .of_right (intBits_le_64 h1 h2)
theorem KA (k:Nat):(0:Int)≤2 ^ k:=by
 rw [two_pow_cast]
 exact Int.natCast_nonneg _
theorem Qa:OpR X (binaryOp .Add) (rI0 fun i j=>.int (i + j)):=Oe fun _ _ _ _ _ _ _ q=>add_int q
theorem FT:OpR X (binaryOp .Sub) (rI0 fun i j=>.int (i - j)):=Oe fun _ _ _ _ _ _ _ q=>sub_int q
theorem Io:OpR X (binaryOp .Mult) (rI NH fun i j=>.int (i * j)):=opI fun _ _ _ _ _ _ _ hc q=>mul_int q hc.ok
theorem K1:OpR X (binaryOp .FloorDiv) (rI Pe fun i j=>.int (i / j)):=opI fun i j _ _ _ _ _ hc q=>by
 have h1:(0:Int) < j:=hc.1
 have h2:j < 1099511627776:=hc.2
 exact floordiv_int (by lia) (by rw [Int.fdiv_eq_ediv_of_nonneg i (by lia)]; exact q) (.inl (fdB (by lia)))
theorem FQ:OpR X (binaryOp .Mod) (rI (fun _ j=>0 < j) fun i j=>.int (i % j)):=opI fun i j _ _ _ _ _ hc q=>by
 have h1:(0:Int) < j:=hc
 exact mod_int' (by lia) (by rw [Int.fmod_eq_emod_of_nonneg i (by lia)]; exact q)
theorem Kh:OpR X (binaryOp .Pow) (rI Lk fun i j=>.int (i ^ j.toNat)):=opI fun _ _ _ _ _ _ _ hc q=>pow_int_small hc.1 hc.2.1 hc.2.2 q
theorem Ip:OpR X (binaryOp .LShift) (rI Lk fun i j=>.int (i * 2 ^ j.toNat)):=opI fun _ _ _ _ _ _ _ hc q=>lshift_int_small hc.1 hc.2.1 hc.2.2 q
theorem M4:OpR X (binaryOp .RShift) (rI (fun _ j=>0≤j) fun i j=>.int (i / 2 ^ j.toNat)):=opI fun i j _ _ _ _ _ hc q =>
 rshift_int hc (by rw [Int.fdiv_eq_ediv_of_nonneg i (KA _)]; exact q)
theorem M0:OpR X (binaryOp .BitAnd) (rI0 fun i j=>.int (Builtin.bitAnd i j)):=Oe fun _ _ _ _ _ _ _ q=>and_int q
theorem RC:OpR X (binaryOp .BitOr) (rI0 fun i j=>.int (Builtin.bitOr i j)):=Oe fun _ _ _ _ _ _ _ q=>or_int q
theorem unI {f:Value→Sem Value} {g:Int→Int}
  (rule:∀ (i:Int) (t:Tok) (s:Shared) (Q:Value→Shared→Prop) (E:Value→Shared→Prop),Q (.int (g i) s.toks) { s with toks:=s.toks + 1 }→wpAny (model X.prog X.w) X.A (f (.int i t)) Q E s) :
  UnR X f (rU fun i=>.int (g i)):=by
 intro pins s σ H x v Q I rx h
 obtain ⟨i,rfl,q⟩:=h
 obtain ⟨t,rfl⟩:=rx
 exact rule i t s _ _ ⟨.int (g i),H,I.tok _,⟨_,rfl⟩,q⟩
theorem Ha:UnR X (unaryOp .USub) (rU fun i=>.int (-i)):=unI fun _ _ _ _ _ q=>neg_int q
end
section
variable {X:Cx} {a b c:Expr} {ta tb tc:TE} {pos:Pos}
theorem Mm {pins:List (Addr × Obj)} {σ:St} {H:Hp} {s:Shared} {Q:VK} {k k':Bool} (I:Inv X pins σ H s) (q:Q (.bl k) H) (e:k = k'):EP X pins σ Q (.bool k') s:=by
 subst e
 exact ⟨.bl k,H,I,rfl,q⟩
theorem RB:OpR X (compareOp .Lt) (rI0 fun i j=>.bl (decide (i < j))):=Od fun _ _ _ _ _ _ _ q=>lt_int q
theorem RA:OpR X (compareOp .LtE) (rI0 fun i j=>.bl (decide (i≤j))):=Od fun _ _ _ _ _ _ _ q=>le_int q
theorem Ry:OpR X (compareOp .Gt) (rI0 fun i j=>.bl (decide (j < i))):=Od fun _ _ _ _ _ _ _ q=>gt_int q
theorem Rx:OpR X (compareOp .GtE) (rI0 fun i j=>.bl (decide (j≤i))):=Od fun _ _ _ _ _ _ _ q=>ge_int q
theorem LG:OpR X (compareOp .Lt) (fun x y H Q=>∃ i j,x = .str i∧y = .str j∧Q (.bl (decide (i.cps.toList < j.cps.toList))) H):=by
 intro pins s σ H x y v u Q I rx ry h
 obtain ⟨i,j,rfl,rfl,q⟩:=h
 obtain ⟨t,rfl⟩:=rx
 obtain ⟨t',rfl⟩:=ry
 exact lt_str (Mm I q rfl)
theorem OpR.or {f:Value→Value→Sem Value} {r r':R2} (h:OpR X f r) (h':OpR X f r'):OpR X f (fun x y H Q=>r x y H Q∨r' x y H Q):=by
 intro pins s σ H x y v u Q I rx ry q
 rcases q with q | q
 ·exact h pins s σ H x y v u Q I rx ry q
 ·exact h' pins s σ H x y v u Q I rx ry q
theorem A4 (b:Expr) {op:CmpOp} (h:op ≠ .In:=by decide) (h2:op ≠ .NotIn:=by decide):behindInMarks op b = false:=by
 have e1:(op == CmpOp.In) = false:=by cases op <;> first | rfl | exact absurd rfl h
 have e2:(op == CmpOp.NotIn) = false:=by cases op <;> first | rfl | exact absurd rfl h2
 cases b with
 | Set elts k pos =>
  show (k == 0 && (op == .In || op == .NotIn) && elts.all (constantsAlone 8)) = false
  rw [e1,e2,Bool.or_self,Bool.and_false,Bool.false_and]
 | _=>rfl
theorem Oj {op:CmpOp} {r:R2} (ho:OpR X (compareOp op) r) (ha:PE X a ta) (hb:PE X b tb) (hm:behindInMarks op b = false):PE X (.Compare a [op] [b] pos) (tOp r ta tb):=by
 intro pins s σ H Q I h
 exact wpAny_Compare1 (Pk ha hb I h fun v u s2 x y H2 I2 rx ry q=>ho pins s2 σ H2 x y v u Q I2 rx ry q) hm
noncomputable def Pa (t:TE):TT:=fun σ H Q=>t σ H fun x H'=>∃ k,x = .bl k∧Q k H'
theorem Ov {op:CmpOp} {r:R2} (ho:OpR X (compareOp op) r) (ha:PE X a ta) (hb:PE X b tb) (hm:behindInMarks op b = false):PT X (.Compare a [op] [b] pos) (Pa (tOp r ta tb)):=by
 intro pins s σ H Q I h
 refine wpAny_isTrue_Compare1 (thn (ha pins s σ H _ I h) fun v s1 yy=>?_) hm
 obtain ⟨x,H1,I1,r1,q1⟩:=yy
 refine thn (hb pins s1 σ H1 _ I1 q1) fun u s2 yy=>?_
 obtain ⟨y,H2,I2,r2,q2⟩:=yy
 refine thn (ho pins s2 σ H2 x y v u _ I2 r1 r2 q2) fun c s3 yy=>?_
 obtain ⟨z,H3,I3,r3,k,e,q3⟩:=yy
 subst e
 cases r3
 exact wpAny_truthy_bool ⟨H3,I3,q3⟩
noncomputable def Kw (r r':R2) (ta tb tc:TE):TE:=fun σ H Q=>ta σ H fun x H1=>tb σ H1 fun y H2=>r x y H2 fun z H3=>∃ k,z = .bl k ∧
 (if k = true then tc σ H3 fun w' H4=>r' y w' H4 Q else Q (.bl false) H3)
theorem M7 {op op':CmpOp} {r r':R2} (ho:OpR X (compareOp op) r) (ho':OpR X (compareOp op') r') (ha:PE X a ta) (hb:PE X b tb) (hc:PE X c tc)
  (hm:lastMarks [op,op'] [b,c] = false:=by with_unfolding_all rfl):PE X (.Compare a [op,op'] [b,c] pos) (Kw r r' ta tb tc):=by
 intro pins s σ H Q I h
 refine Compare_chain (thn (ha pins s σ H _ I h) fun v s1 yy=>?_) hm
 obtain ⟨x,H1,I1,r1,q1⟩:=yy
 refine chain_link (thn (hb pins s1 σ H1 _ I1 q1) fun u s2 yy=>?_)
 obtain ⟨y,H2,I2,r2,q2⟩:=yy
 refine thn (ho pins s2 σ H2 x y v u _ I2 r1 r2 q2) fun d s3 yy=>?_
 obtain ⟨z,H3,I3,r3,k,e,q3⟩:=yy
 subst e
 cases r3
 refine wpAny_truthy_bool ?_
 cases k with
 | false=>exact ite_ff ⟨.bl false,H3,I3,rfl,q3⟩
 | true=>exact ite_tt (chain_last (thn (hc pins s3 σ H3 _ I3 q3) fun w' s4 ⟨z',H4,I4,r4,q4⟩=>ho' pins s4 σ H4 y z' u w' Q I4 r2 r4 q4))
theorem Nf {op op':CmpOp} {r r':R2} (ho:OpR X (compareOp op) r) (ho':OpR X (compareOp op') r') (ha:PE X a ta) (hb:PE X b tb) (hc:PE X c tc)
  (hm:lastMarks [op,op'] [b,c] = false:=by with_unfolding_all rfl):PT X (.Compare a [op,op'] [b,c] pos) (Pa (Kw r r' ta tb tc)):=by
 intro pins s σ H Q I h
 refine isTrue_chain (thn (ha pins s σ H _ I h) fun v s1 yy=>?_) hm
 obtain ⟨x,H1,I1,r1,q1⟩:=yy
 refine test_link (thn (hb pins s1 σ H1 _ I1 q1) fun u s2 yy=>?_)
 obtain ⟨y,H2,I2,r2,q2⟩:=yy
 refine thn (ho pins s2 σ H2 x y v u _ I2 r1 r2 q2) fun d s3 yy=>?_
 obtain ⟨z,H3,I3,r3,k,e,q3⟩:=yy
 subst e
 cases r3
 refine wpAny_truthy_bool ?_
 cases k with
 | false =>
  obtain ⟨k',e',q'⟩:=q3
  cases e'
  exact ite_ff ⟨H3,I3,q'⟩
 | true =>
  refine ite_tt (test_last (thn (hc pins s3 σ H3 _ I3 q3) fun w' s4 ⟨z',H4,I4,r4,q4⟩=>thn (ho' pins s4 σ H4 y z' u w' _ I4 r2 r4 q4) fun d' s5 yy=>?_))
  obtain ⟨z2,H5,I5,r5,k2,e2,q5⟩:=yy
  subst e2
  cases r5
  exact wpAny_truthy_bool ⟨H5,I5,q5⟩
theorem FI:(sizeLine:Nat) < 2 ^ 63:=by rw [sizeLine_eq]; decide
theorem Kg:OpR X (binaryOp .Add) (fun x y H Q=>∃ i j,x = .str i∧y = .str j∧i.length + j.length≤sizeLine∧Q (.str (i ++ j)) H):=by
 intro pins s σ H x y v u Q I rx ry h
 obtain ⟨i,j,rfl,rfl,hz,q⟩:=h
 obtain ⟨t,rfl⟩:=rx
 obtain ⟨t',rfl⟩:=ry
 exact add_str (fun t' tk=>⟨.str (i ++ j),H,I.tok _,⟨_,rfl⟩,q⟩) hz
theorem vals1 {x:V} {us:List Value} (r:Vals [x] us):∃ u,us = [u]∧RelV x u:=by
 cases r with
 | cons r1 r2=>cases r2; exact ⟨_,rfl,r1⟩
theorem vals2 {x y:V} {us:List Value} (r:Vals [x,y] us):∃ u w',us = [u,w']∧RelV x u∧RelV y w':=by
 cases r with
 | cons r1 r2 =>
  cases r2 with
  | cons r3 r4=>cases r4; exact ⟨_,_,rfl,r1,r3⟩
theorem IU:Cg X (.builtin "abs") (fun xs H Q=>∃ i,xs = [.int i]∧Q (.int (if i < 0 then -i else i)) H):=by
 intro pins s σ H xs us Q I r h
 obtain ⟨i,rfl,q⟩:=h
 obtain ⟨u,rfl,t,rfl⟩:=vals1 r
 exact call_abs_int fun u tk=>⟨.int (if i < 0 then -i else i),H,I.tok _,⟨_,rfl⟩,q⟩
theorem Ln (hc:X.calm = true):Cg X (.builtin "max") (fun xs H Q=>∃ i j,xs = [.int i,.int j]∧Q (.int (if j > i then j else i)) H):=by
 intro pins s σ H xs us Q I r h
 obtain ⟨i,j,rfl,q⟩:=h
 obtain ⟨u,w',rfl,⟨t,rfl⟩,⟨t',rfl⟩⟩:=vals2 r
 refine max_two_ints (I.ok.hd hc) fun h' tk k=>⟨_,H,I.kept k,?_,q⟩
 by_cases hj:j > i
 ·rw [if_pos hj,if_pos hj]; exact ⟨_,rfl⟩
 ·rw [if_neg hj,if_neg hj]; exact ⟨_,rfl⟩
theorem Hz (hc:X.calm = true):Cg X (.builtin "min") (fun xs H Q=>∃ i j,xs = [.int i,.int j]∧Q (.int (if j < i then j else i)) H):=by
 intro pins s σ H xs us Q I r h
 obtain ⟨i,j,rfl,q⟩:=h
 obtain ⟨u,w',rfl,⟨t,rfl⟩,⟨t',rfl⟩⟩:=vals2 r
 refine min_two_ints (I.ok.hd hc) fun h' tk k=>⟨_,H,I.kept k,?_,q⟩
 by_cases hj:j < i
 ·rw [if_pos hj,if_pos hj]; exact ⟨_,rfl⟩
 ·rw [if_neg hj,if_neg hj]; exact ⟨_,rfl⟩
end
end L2
namespace L2
open PySem PySem.Spec PyProof.Rows
structure ObjM (h:Heap) (x dx C:Addr) (mA:Str→Option Value):Prop where
 obj:h.get? x = some (PySem.W.instObj C dx)
 ns:h.Ns1 dx mA
 ne:dx≠x
theorem Ly {h:Heap} {dx:Addr} {mA:Str→Option Value} (n:h.Ns1 dx mA):∃ od,h.get? dx = some od∧∀ name,PySem.W.lookIn name od = some (mA name):=by
 obtain ⟨o,es,ep,ho,hd,hk,_,hm⟩:=n
 refine ⟨o,ho,fun name=>?_⟩
 have e:=hm name
 unfold nsFind findBy at e
 rw [← Array.find?_toList] at e
 unfold PySem.W.lookIn
 rw [hd]
 dsimp only
 split
 ·rename_i y q
  rw [q] at e
  exact congrArg some e
 ·rename_i q
  rw [q] at e
  have a:es.toList.any (·.refKey) = false:=by
   rw [List.any_eq_false]
   intro y hy
   obtain ⟨z,t,hkey⟩:=hk y (Array.mem_toList_iff.mp hy)
   simp [DictEntry.refKey,hkey]
  have a':¬ es.toList.any (·.refKey) = true:=by rw [a]; exact Bool.false_ne_true
  rw [if_neg a']
  exact congrArg some e
theorem ObjM.look {h:Heap} {x dx C:Addr} {mA:Str→Option Value} (I:ObjM h x dx C mA):∃ od,PySem.W.InstAt h x (PySem.W.instObj C dx) C (some od)∧∀ name,PySem.W.lookIn name od = some (mA name):=
 let ⟨od,ho,hl⟩:=Ly I.ns
 ⟨od,⟨I.obj,rfl,rfl,ho⟩,hl⟩
section
variable {prog:Program} {w:World} {A:Around} {E:Value→Shared→Prop} {s:Shared} {K:Frag} {x dx C f:Addr} {mA:Str→Option Value} {name:Str} {v:Value}
end
section
variable {P:Program} {w:World} {H H':Hp} {h h':Heap} {a C dx:Addr} {fs fs':List (Str × V)}
theorem NY (hok:HOk P w H h) (e:H a = some (.ins C dx fs)):∃ mA,ObjM h a dx C mA∧(∀ f,Pf (fs.lookup f) (mA f))∧PySem.Within mA (fs.map (·.1))∧fs.length≤1000∧H dx = some (.own a):=by
 obtain ⟨d,z,ne,ob,mA,n,r,q⟩:=(show B7 P w H h a (.ins C dx fs) from hok a _ e)
 exact ⟨mA,⟨ob,n,ne⟩,r,q,z,d⟩
end
structure Cls (K:Frag) (C:Addr):Prop where
 pg:PySem.W.plainGet K C Str.empty = true
 hd:PySem.W.hasDictIn K C = true
 po:PySem.W.plainOver K C = true
 sa:PySem.W.findIn K (.ref C) "__setattr__" = some (some (.builtin "object.__setattr__"))
theorem Cls.get {K:Frag} {C:Addr} (c:Cls K C) (f:Str):PySem.W.plainGet K C f = true:=c.pg
section
variable {X:Cx} {pins:List (Addr × Obj)} {σ:St} {H:Hp} {s:Shared} {a C dx:Addr} {fs:List (Str × V)} {f:Str} {v:V} {A:Around} {E:Value→Shared→Prop}
end
section
variable {X:Cx} {o e value:Expr} {f:Str} {pos pos' tpos:Pos} {ta tv:TE}
end
section
variable {X:Cx} {pins:List (Addr × Obj)} {σ:St} {H:Hp} {s:Shared} {A:Around} {E:Value→Shared→Prop} {Q:Value→Shared→Prop} {c:Value} {b:Bool}
inductive TyOf (K:Frag) (H:Hp):V→Value→Prop where
 | non:TyOf K H .non (.type "NoneType")
 | bl (x:Bool):TyOf K H (.bl x) (.type "bool")
 | int (i:Int):TyOf K H (.int i) (.type "int")
 | str (x:Str):TyOf K H (.str x) (.type "str")
 | flt (x:UInt64):TyOf K H (.flt x) (.type "float")
 | lst {a:Addr} {xs:List V} (e:H a = some (.lst xs)):TyOf K H (.ref a) (.type "list")
 | frz {a:Addr} {o:Obj} {xs:List V} (e:H a = some (.frz o (.lst xs))):TyOf K H (.ref a) (.type "list")
 | tup {a:Addr} {xs:List V} (e:H a = some (.tup xs)):TyOf K H (.ref a) (.type "tuple")
 | dK {a:Addr} {kvs:List (Key × V)} (e:H a = some (.dK kvs)):TyOf K H (.ref a) (.type "dict")
 | dT {a:Addr} {kvs:List (List Key × V)} (e:H a = some (.dT kvs)):TyOf K H (.ref a) (.type "dict")
 | ins {a C dx:Addr} {fs:List (Str × V)} (e:H a = some (.ins C dx fs)) (cl:Cls K C) (ha:PySem.W.findIn K (.ref C) "__class__" = some (some (.builtin "object.__class__")))
   (hn:PySem.W.specialIn K (.builtin "object.__class__") "__get__" = some (some (.builtin "getset_descriptor.__get__"))) (htk:PySem.W.takesIn K (.builtin "object.__class__") = some true)
   (hm:PySem.W.mroIn K C (.type "object") = some true):TyOf K H (.ref a) (.ref C)
theorem Lu {x:V} {u t:Value} (I:Inv X pins σ H s) (rx:RelV x u) (ty:TyOf X.K H x t) (e:PySem.W.kitOne X.K t c = some b) (h:∀ tk,Q (.bool b) { s with toks:=tk }) :
  wpAny (model X.prog X.w) A (call (.builtin "isinstance") [u,c]) Q E s:=by
 cases ty with
 | non=>cases (show u = Value.none from rx); exact PySem.W.kia_one PySem.W.kitx_none I.kIn True.intro e (fun z=>nomatch z) h
 | bl y=>cases (show u = Value.bool y from rx); exact PySem.W.kia_one PySem.W.kitx_bool I.kIn True.intro e (fun z=>nomatch z) h
 | int i=>obtain ⟨t,q⟩:=(show ∃ t,u = Value.int i t from rx); cases q; exact PySem.W.kia_one PySem.W.kitx_int I.kIn True.intro e (fun z=>nomatch z) h
 | str y=>obtain ⟨t,q⟩:=(show ∃ t,u = Value.str y t from rx); cases q; exact PySem.W.kia_one PySem.W.kitx_str I.kIn True.intro e (fun z=>nomatch z) h
 | flt y=>obtain ⟨t,q⟩:=(show ∃ t,u = Value.float y t from rx); cases q; exact PySem.W.kia_one PySem.W.kitx_float I.kIn True.intro e (fun z=>nomatch z) h
 | @lst a xs ea =>
  cases (show u = Value.ref a from rx)
  obtain ⟨_,_,n,_,h1⟩:=(show B7 X.prog X.w H s.heap a (.lst xs) from I.hok a _ ea)
  exact PySem.W.kia_one PySem.W.kitx_list I.kIn ⟨_,h1,rfl⟩ e (fun z=>nomatch z) h
 | @frz a ob xs ea =>
  cases (show u = Value.ref a from rx)
  obtain ⟨_,_,_,n,_,h1⟩:=(show B7 X.prog X.w H s.heap a (.frz ob (.lst xs)) from I.hok a _ ea)
  exact PySem.W.kia_one PySem.W.kitx_list I.kIn ⟨_,h1,rfl⟩ e (fun z=>nomatch z) h
 | @tup a xs ea =>
  cases (show u = Value.ref a from rx)
  obtain ⟨_,_,_,p⟩:=(show B7 X.prog X.w H s.heap a (.tup xs) from I.hok a _ ea)
  obtain ⟨o,h1,h2,_⟩:=p
  exact PySem.W.kia_one PySem.W.kitx_tuple I.kIn ⟨o,h1,h2⟩ e (fun z=>nomatch z) h
 | @dK a kvs ea =>
  cases (show u = Value.ref a from rx)
  obtain ⟨_,_,vs,_,p⟩:=(show B7 X.prog X.w H s.heap a (.dK kvs) from I.hok a _ ea)
  obtain ⟨o,es,ep,h1,h2,_⟩:=p
  exact PySem.W.kia_one PySem.W.kitx_dict I.kIn ⟨o,h1,h2.1⟩ e (fun z=>nomatch z) h
 | @dT a kvs ea =>
  cases (show u = Value.ref a from rx)
  obtain ⟨_,_,xs,_,o,es,ep,h1,h2,_⟩:=(show B7 X.prog X.w H s.heap a (.dT kvs) from I.hok a _ ea)
  exact PySem.W.kia_one PySem.W.kitx_dict I.kIn ⟨o,h1,h2.1⟩ e (fun z=>nomatch z) h
 | @ins a C dx fs ea cl ha hn htk hm =>
  cases (show u = Value.ref a from rx)
  obtain ⟨mA,O,_⟩:=NY I.hok ea
  obtain ⟨od,J,_⟩:=O.look
  exact PySem.W.kia_one (PySem.W.kitx_own (cl.get _) cl.hd ha hn htk hm) I.kIn J e (fun z=>nomatch z) h
end
end L2
namespace L2
open PySem PySem.Spec PyProof.Rows
structure Room (k:Nat) (A:Around):Prop where
 hd:A.handled = none
 dp:A.depth + 3 * k + 5 < recursionLimit
 un:A.units + 16 * k + 200 < cLine
theorem Room.mono {j k:Nat} {A:Around} (r:Room k A) (h:j≤k):Room j A:=⟨r.hd,by have:=r.dp; lia,by have:=r.un; lia⟩
theorem Room.deeper {k:Nat} {A:Around} (r:Room (k + 1) A) (env:Env):Room k (A.deeper env):=
 ⟨r.hd,by have:=r.dp; show A.depth + 1 + 3 * k + 5 < _; lia,by have:=r.un; show A.units + 3 + 16 * k + 200 < _; lia⟩
theorem Room.depth {k:Nat} {A:Around} (r:Room k A):A.depth < recursionLimit:=by have:=r.dp; lia
theorem Room.units {k:Nat} {A:Around} (r:Room k A):A.units + 64 < cLine:=by have:=r.un; lia
noncomputable def Gg:TA:=fun _ H Q=>Q [] H
noncomputable def CC (ta:TE) (tr:TA):TA:=fun σ H Q=>ta σ H fun x H1=>tr σ H1 fun xs H2=>Q (x :: xs) H2
section
variable {X:Cx} {e:Expr} {es:List Expr} {te:TE} {t:TA} {pos:Pos}
theorem FU:PA X [] Gg:=fun _ _ _ _ H Q I h=>Calls.spliced_nil ⟨[],H,I,.nil,h⟩
theorem DE (ha:PE X e te) (hr:PA X es t) (hs:starEach (e :: es) X.env = (false,eval e X.env) :: starEach es X.env:=by rfl):PA X (e :: es) (CC te t):=by
 intro pos pins s σ H Q I h
 rw [hs]
 show wpAny _ _ (spliced ((false,eval e X.env) :: backTo pos (starEach es X.env))) _ _ s
 refine Calls.spliced_cons (thn (ha pins s σ H _ I h) fun u s1 yy=>?_)
 obtain ⟨x,H1,I1,r1,q1⟩:=yy
 exact thn (hr pos pins s1 σ H1 _ I1 q1) fun us s2 ⟨xs,H2,I2,r2,q2⟩=>⟨x :: xs,H2,I2,.cons r1 r2,q2⟩
noncomputable def Q2 (t:TA):TE:=fun σ H Q=>t σ H fun xs H1=>xs.length≤sizeLine∧∀ p,H1 p = none→Q (.ref p) (upd H1 p (.tup xs))
noncomputable def RX (t:TA):TE:=fun σ H Q=>t σ H fun xs H1=>xs.length≤sizeLine∧∀ p,H1 p = none→Q (.ref p) (upd H1 p (.lst xs))
theorem M8 {x1} (h:PA X es t):PE X (.Tuple es x1 pos) (Q2 t):=by
 intro pins s σ H Q I hq
 refine wpAny_Tuple_spliced (thn (h pos pins s σ H _ I hq) fun us s1 ⟨xs,H1,I1,r,z,q⟩=>⟨by rw [← r.length]; exact z,?_⟩)
 have hf:H1 s1.heap.objs.size = none:=I1.hok.fresh (Nat.le_refl _)
 refine ⟨.ref s1.heap.objs.size,upd H1 s1.heap.objs.size (.tup xs),I1.laid (t':=s1.toks) (fun b u e=>Heap.get?_push_of_some _ e) (Nat.le_refl _) ?_,rfl,q _ hf⟩
 exact ⟨z,us,r,⟨_,Heap.get?_push_size _ rfl,rfl,_,rfl⟩⟩
theorem Qn (h:PA X es t):PE X (.List es pos) (RX t):=by
 intro pins s σ H Q I hq
 refine wpAny_List_spliced (thn (h pos pins s σ H _ I hq) fun us s1 ⟨xs,H1,I1,r,z,q⟩=>⟨by rw [← r.length]; exact z,?_⟩)
 have hf:H1 s1.heap.objs.size = none:=I1.hok.fresh (Nat.le_refl _)
 refine ⟨.ref s1.heap.objs.size,upd H1 s1.heap.objs.size (.lst xs),I1.laid (t':=s1.toks) (fun b u e=>Heap.get?_push_of_some _ e) (Nat.le_refl _) ?_,rfl,q _ hf⟩
 exact ⟨z,us,0,r,Heap.get?_push_size _ rfl⟩
end
noncomputable abbrev Sp:=List V→Hp→VK→XK→Prop
noncomputable abbrev CXT:=List Env→Hp→Shared→XK→Value→Shared→Prop
structure Env0 (P:Program) (w:World) (K:Frag) (mg:Str→Option Value) (base:Heap) (A:Around) (outer:List Env) (s:Shared) (H:Hp):Prop where
 frames:A.frames = some outer
 mod:Mod K mg base
 bs:∀ b o,base.get? b = some o→s.heap.get? b = some o∧H b = none
 bsz:base.objs.size≤s.heap.objs.size
 funs:s.heap.FunFrames base outer
 frf:∀ b∈frs outer,H b = none
 hok:HOk P w H s.heap
 bare:AllBare s.gens
 tb:Ll K H
noncomputable def CE (outer:List Env) (P:Program) (w:World) (H:Hp) (s:Shared) (Q:VK) (u:Value) (s':Shared):Prop:=
 ∃ v H',s'.os = s.os∧AllBare s'.gens∧Un (frs outer) [] H H' s.heap s'.heap∧HOk P w H' s'.heap∧RelV v u∧Q v H'
noncomputable def CR (CX:CXT) (outer:List Env) (P:Program) (w:World) (H:Hp) (s:Shared) (Q:VK) (E:XK) (r:Result) (s':Shared):Prop:=
 match r with
 | .ok (.ret u)=>CE outer P w H s Q u s'
 | .ok _=>False
 | .error e=>CX outer H s E e s'
structure FnOk (P:Program) (w:World) (K:Frag) (mg:Str→Option Value) (base:Heap) (CX:CXT) (k:Nat) (f:Addr) (fd:FuncData) (ps:List Str) (sp:Sp):Prop where
 len:∀ vs H Q E,sp vs H Q E→vs.length = ps.length
 run:∀ (A:Around) (outer:List Env) (s:Shared) (H:Hp) (args:Args) (us:List Value) (vs:List V) (Q:VK) (E:XK),Room k A→Env0 P w K mg base A outer s H→BindsTo s fd args (ps.zip us)→Vals vs us→sp vs H Q E →
  codeAny (model P w) A (.call (.ref f) args) (CR CX outer P w H s Q E) s
theorem FnOk.mono {P:Program} {w:World} {K:Frag} {mg:Str→Option Value} {base:Heap} {CX:CXT} {j k:Nat} {f:Addr} {fd:FuncData} {ps:List Str} {sp:Sp} (F:FnOk P w K mg base CX j f fd ps sp) (h:j≤k) :
  FnOk P w K mg base CX k f fd ps sp:=⟨F.len,fun A outer s H args us vs Q E hr=>F.run A outer s H args us vs Q E (hr.mono h)⟩
section
variable {X:Cx} {pins:List (Addr × Obj)} {σ:St} {H:Hp} {s s':Shared}
theorem Inv.env0 (I:Inv X pins σ H s):Env0 X.prog X.w X.K X.mg X.base X.A X.stack s H:=
 ⟨I.ok.frames,I.ok.mod,I.bs,Nat.le_trans I.ok.bsz I.sz,I.stack,I.stkFree,I.hok,I.bare,I.tabs⟩
theorem Inv.after {Q:VK} {u:Value} (I:Inv X pins σ H s) (h:CE X.stack X.prog X.w H s Q u s'):EP X pins σ Q u s':=by
 obtain ⟨v,H',os,bare,un,hok,r,q⟩:=h
 obtain ⟨hh,g,d,t,os'⟩:=s'
 obtain rfl:os' = s.os:=os
 exact ⟨v,H',I.call (h':=hh) (g':=g) (d':=d) (t':=t) (ch:=[]) un hok bare (fun b z=>absurd z (by simp)),r,q⟩
end
noncomputable def JB (sp:Sp) (dvs:List V) (E:XK) (t:TA):TE:=fun σ H Q=>t σ H fun vs H1=>sp (vs ++ dvs) H1 Q E
noncomputable def Binds (K:Frag) (fd:FuncData) (ps:List Str) (ds:List Value):Prop:=
 ∀ (s:Shared) (us:List Value),K.In s.heap→(us ++ ds).length = ps.length→BindsTo s fd ⟨us,[]⟩ (ps.zip (us ++ ds))
theorem Binds.all {K:Frag} {fd:FuncData} {ps:List Str} (h:∀ us:List Value,us.length = ps.length→bindArgs fd ⟨us,[]⟩ = pure (ps.zip us)):Binds K fd ps []:=fun s us _ hl=>by
 rw [List.append_nil] at hl ⊢
 exact .of_eq (h us hl)
noncomputable def Passes (CX:CXT) (X:Cx) (E:XK):Prop:=∀ (pins:List (Addr × Obj)) (σ:St) (H:Hp) (s:Shared) (e:Value) (s':Shared),Inv X pins σ H s→CX X.stack H s E e s'→X.xe e s'
section
variable {X:Cx} {CX:CXT} {k:Nat} {f C:Addr} {fd:FuncData} {ps:List Str} {sp:Sp} {dvs:List V} {ds:List Value} {E:XK} {x m:Str} {p pos apos:Pos} {e o:Expr} {es:List Expr} {ta:TE} {t:TA}
theorem QG {pins:List (Addr × Obj)} {σ:St} {H:Hp} {s:Shared} {Q:VK} {us:List Value} {vs:List V} (F:FnOk X.prog X.w X.K X.mg X.base CX k f fd ps sp) (hr:Room k X.A) (hb:Binds X.K fd ps ds) (hd:Vals dvs ds) (hx:Passes CX X E)
  (I:Inv X pins σ H s) (r:Vals vs us) (h:sp (vs ++ dvs) H Q E):wpAny (model X.prog X.w) X.A (call (.ref f) us) (EP X pins σ Q) X.xe s:=by
 have r2:Vals (vs ++ dvs) (us ++ ds):=r.append hd
 have hl:(us ++ ds).length = ps.length:=by rw [← r2.length]; exact F.len _ _ _ _ h
 refine wpAny_call (codeAny_mono (F.run X.A X.stack s H ⟨us,[]⟩ (us ++ ds) (vs ++ dvs) Q E hr I.env0 (hb s us I.kIn hl) r2 h) fun r s' hq=>?_)
 cases r with
 | error e=>exact hx pins σ H s e s' I hq
 | ok fl =>
  cases fl with
  | ret u=>exact I.after hq
  | next=>exact False.elim hq
  | brk=>exact False.elim hq
  | cont=>exact False.elim hq
theorem Oi (F:FnOk X.prog X.w X.K X.mg X.base CX k f fd ps sp) (hr:Room k X.A) (hg:Gl X x) (hm:X.mg x = some (.ref f)) (hk:PySem.W.keepIn X.K (.ref f) = true) (hb:Binds X.K fd ps ds) (hd:Vals dvs ds) (hx:Passes CX X E)
  (ha:PA X (e :: es) t) (hdb:(x == ("__debug__" : Str)) = false:=by decide) (he:starEach (e :: es) X.env = (false,eval e X.env) :: starEach es X.env:=by rfl) (hpl:(backTo pos (starEach es X.env)).any (·.1) = false:=by rfl) :
  PE X (.Call (.Name x p) (e :: es) [] pos) (JB sp dvs E t):=by
 intro pins s σ H Q I h
 refine wpAny_Call_Name_kw (ED I hg hm ?_ hdb)
 refine PySem.W.callWith_K (h₀:=X.base) I.ok.mod.kin hk (thn (ha pos pins s σ H _ I h) fun us s1 ⟨vs,H1,I1,r,q⟩=>⟨I1.kIn,?_⟩) he hpl
 exact QG F hr hb hd hx I1 r q
end
section
variable {X:Cx} {CX:CXT} {k:Nat} {f C:Addr} {fd:FuncData} {ps ks:List Str} {sp:Sp} {E:XK} {x m:Str} {p pos apos kpos:Pos} {e o:Expr} {es:List Expr} {kws:List Keyword} {te ta:TE} {t tk:TA} {nm:Option Str}
variable {g:List Value→List Value→List Value} {gV:List V→List V→List V}
end
structure FnScope (N P:List Str) (sc:Scope):Prop where
 kind:sc.kind = .function
 co:sc.isCoroutine = false
 gen:sc.isGenerator = false
 nd:N.Nodup
 pre:N.take P.length = P
 par:∀ x∈P,sc.names.lookup x = some .local∨sc.names.lookup x = some .cell
 nofree:∀ y∈sc.names,y.2 ≠ .free
theorem Hw {kindOf:Str→Option NameKind} {x:Str}:∀ {binds:List (Str × Value)} {m:Str→Option Value},(∀ v,(x,v) ∉ binds)→bindL kindOf binds m x = m x
 | [],_,_=>rfl
 | (n,v) :: r,m,h=>by
  unfold bindL
  rw [Hw fun w hw=>h w (List.mem_cons_of_mem _ hw)]
  split
  ·have:x≠n:=by rintro rfl; exact h v List.mem_cons_self
   simp [this]
  ·rfl
theorem Hu {kindOf:Str→Option NameKind} {x:Str}:∀ {binds:List (Str × Value)} {m:Str→Option Value},(∀ v,(x,v) ∉ binds)→bindC kindOf binds m x = m x
 | [],_,_=>rfl
 | (n,v) :: r,m,h=>by
  unfold bindC
  rw [Hu fun w hw=>h w (List.mem_cons_of_mem _ hw)]
  split
  ·rfl
  ·have:x≠n:=by rintro rfl; exact h v List.mem_cons_self
   simp [this]
theorem Hv {kindOf:Str→Option NameKind} {x:Str} {v:Value}:∀ {P:List Str} {vs:List Value} {i:Nat} {m:Str→Option Value},P.Nodup→P[i]? = some x→vs[i]? = some v→kindOf x = some .local →
  bindL kindOf (P.zip vs) m x = some v
 | [],_,_,_,_,h,_,_=>by simp at h
 | _ :: _,[],_,_,_,_,h,_=>by simp at h
 | p :: P,w :: vs,0,m,nd,h1,h2,hk=>by
  simp at h1 h2; subst h1; subst h2
  show bindL kindOf ((p,w) :: P.zip vs) m p = _
  unfold bindL
  rw [Hw fun v hv=>(List.nodup_cons.mp nd).1 (List.of_mem_zip hv).1,if_pos hk]
  simp
 | p :: P,w :: vs,i + 1,m,nd,h1,h2,hk=>by
  show bindL kindOf ((p,w) :: P.zip vs) m x = _
  unfold bindL
  exact Hv (i:=i) (List.nodup_cons.mp nd).2 (by simpa using h1) (by simpa using h2) hk
theorem Ht {kindOf:Str→Option NameKind} {x:Str} {v:Value}:∀ {P:List Str} {vs:List Value} {i:Nat} {m:Str→Option Value},P.Nodup→P[i]? = some x→vs[i]? = some v→kindOf x≠some .local →
  bindC kindOf (P.zip vs) m x = some v
 | [],_,_,_,_,h,_,_=>by simp at h
 | _ :: _,[],_,_,_,_,h,_=>by simp at h
 | p :: P,w :: vs,0,m,nd,h1,h2,hk=>by
  simp at h1 h2; subst h1; subst h2
  show bindC kindOf ((p,w) :: P.zip vs) m p = _
  unfold bindC
  rw [Hu fun v hv=>(List.nodup_cons.mp nd).1 (List.of_mem_zip hv).1,if_neg hk]
  simp
 | p :: P,w :: vs,i + 1,m,nd,h1,h2,hk=>by
  show bindC kindOf ((p,w) :: P.zip vs) m x = _
  unfold bindC
  exact Ht (i:=i) (List.nodup_cons.mp nd).2 (by simpa using h1) (by simpa using h2) hk
noncomputable def start (N:List Str) (vs:List V):St:=vs.map some ++ List.replicate (N.length - vs.length) none
noncomputable def A5 (CX:CXT) (P:Program) (w:World) (K:Frag) (mg:Str→Option Value) (base:Heap) (N:List Str) (qual:Str) (scope:Scope) (f:Addr) (cd:Value) (A:Around) (outer:List Env) (s:Shared) (H:Hp) (E:XK):Cx where
 prog:=P
 w:=w
 K:=K
 mg:=mg
 base:=base
 A:=A.deeper (envOfC qual scope s.heap.objs.size f cd)
 N:=N
 s₀:=s
 H₀:=H
 env:=envOfC qual scope s.heap.objs.size f cd
 outer:=outer
 stack:=envOfC qual scope s.heap.objs.size f cd :: outer
 ex:=[]
 calm:=true
 fn:=fun _=>true
 pn:=[]
 xe:=fun e s'=>wpAny (model P w) (A.deeper (envOfC qual scope s.heap.objs.size f cd)) (leaving (envOfC qual scope s.heap.objs.size f cd) e) (fun _ s''=>CX outer H s E e s'') (fun e' s''=>CX outer H s E e' s'') s'
theorem IV {sc:Scope} {n:Nat} {x:Str} (h:sc.names.lookup x = some .cell):∃ c,(cellsFrom n sc.names []).lookup x = some c:=by
 have q:=PySem.W.cellsFrom_some sc.names n [] (.inl h)
 exact Option.isSome_iff_exists.mp q
theorem FD {CX:CXT} {P:Program} {w:World} {K:Frag} {mg:Str→Option Value} {base:Heap} {N ps:List Str} {qual:Str} {scope:Scope} {f:Addr} {cd:Value} {A:Around} {outer:List Env} {s s1:Shared} {H:Hp} {E:XK} {us:List Value} {vs:List V}
  (S:FnScope N ps scope) (hd:A.handled = none) (e0:Env0 P w K mg base A outer s H) (hl:vs.length = ps.length) (r:Vals vs us)
  (x:InCallC s s.heap.objs.size (bindL (envOfC qual scope s.heap.objs.size f cd).kindOf (ps.zip us) fun _=>none) (cellsFrom (s.heap.objs.size + 1) scope.names []) (bindC (envOfC qual scope s.heap.objs.size f cd).kindOf (ps.zip us) fun _=>none) s1) :
  Inv (A5 CX P w K mg base N qual scope f cd A outer s H E) [] (start N vs) H s1:=by
 have hpl:ps.length≤N.length:=by have:=congrArg List.length S.pre; rw [List.length_take] at this; lia
 obtain ⟨h1,tk,rfl,hk⟩:=x.done
 have noA:∀ b:Addr,b ∉ (A5 CX P w K mg base N qual scope f cd A outer s H E).ex:=fun b z=>absurd (show b∈([]:List Addr) from z) (by simp)
 refine ⟨⟨e0.mod,S.kind,rfl,rfl,Nat.le_refl _,fun y z c h1 h2=>?_,fun y hy=>?_,fun y c _ h=>?_,fun _=>hd,Around.frames_deeper e0.frames,.inr ⟨rfl,rfl⟩,fun b z=>absurd z (noA b),e0.bs,e0.bsz,fun b _ _=>noA b,fun b z=>absurd z (noA b),e0.funs,e0.frf,e0.tb⟩,
  rfl,e0.bare,Un.kept hk,⟨_,x.toInCall.ns,fun i y v h1 h2 h3=>?_⟩,fun y c h=>⟨_,x.cell y c h⟩,e0.hok.fresh (Nat.le_refl _),fun y c h=>?_,fun p hp=>absurd (show p∈([]:List (Addr × Obj)) from hp) (by simp),e0.hok.kept hk,?_⟩
 ·exact name_of_addr x.apart (PySem.mem_of_lookup h1) (PySem.mem_of_lookup h2)
 ·have hy:scope.names.lookup y = some .cell∨scope.names.lookup y = some .free:=hy
  rcases hy with hy | hy
  ·exact IV hy
  ·exact absurd rfl (S.nofree _ (PySem.mem_of_lookup hy))
 ·exact Nat.le_of_lt (x.above y c (PySem.mem_of_lookup h))
 ·have hi:i < vs.length:=by
   unfold start at h2
   by_cases hi:i < vs.length
   ·exact hi
   ·rw [List.getElem?_append_right (by simpa using hi)] at h2
    rw [List.getElem?_replicate] at h2
    split at h2 <;> cases h2
  have ha:vs[i]? = some v:=by
   unfold start at h2
   rw [List.getElem?_append_left (by simpa using hi),List.getElem?_map] at h2
   cases e:vs[i]? with
   | none=>rw [e] at h2; cases h2
   | some a=>rw [e] at h2; cases h2; rfl
  obtain ⟨u,hu,rv⟩:=r.get ha
  have hp:ps[i]? = some y:=by
   rw [← S.pre,List.getElem?_take_of_lt (by lia)]; exact h1
  have ndP:ps.Nodup:=by rw [← S.pre]; exact S.nd.sublist (List.take_sublist _ _)
  refine ⟨u,rv,?_⟩
  rcases S.par y (List.mem_of_getElem? hp) with k | k
  ·exact .inl ⟨k,Hv ndP hp hu k⟩
  ·obtain ⟨c,e⟩:=IV (n:=s.heap.objs.size + 1) k
   refine .inr ⟨.inl k,c,e,?_⟩
   have q:=x.cell y c e
   rw [Ht ndP hp hu (by show scope.names.lookup y≠_; rw [k]; decide)] at q
   exact q
 ·exact e0.hok.fresh (Nat.le_of_lt (x.above y c (PySem.mem_of_lookup h)))
 ·unfold start
  show _ = N.length
  rw [List.length_append,List.length_map,List.length_replicate]
  lia
theorem Mo {CX:CXT} {P:Program} {w:World} {K:Frag} {mg:Str→Option Value} {base:Heap} {k:Nat} {f:Addr} {name qual:Str} {params:Arguments} {body:List Stmt} {scope:Scope} {dV kV doc pm cdv ct oc:Value} {an od:Option Addr}
  {osl:Array (Option Value)} {N ps:List Str} {sp:Sp} (lk:K.lookup f = some ⟨oc,od,.func (PySem.W.fnOf name qual params body scope dV kV doc pm an cdv ct),osl⟩) (hcd:PySem.W.codeIn K cdv qual = true) (S:FnScope N ps scope)
  (len:∀ vs H Q E,sp vs H Q E→vs.length = ps.length)
  (hbody:∀ (A:Around) (outer:List Env) (s:Shared) (H:Hp) (vs:List V) (Q:VK) (E:XK),Room k (A.deeper (envOfC qual scope s.heap.objs.size f cdv))→sp vs H Q E →
   ∃ t,PSs (A5 CX P w K mg base N qual scope f cdv A outer s H E) body t∧t { nx:=fun _ H'=>Q .non H',rt:=Q } (start N vs) H) :
  FnOk P w K mg base CX (k + 1) f (PySem.W.fnOf name qual params body scope dV kV doc pm an cdv ct) ps sp:=by
 refine ⟨len,fun A outer s H args us vs Q E hr e0 hb r hsp=>?_⟩
 have hl:=len _ _ _ _ hsp
 have KX:K.In s.heap:=e0.mod.kin.keeps fun b o e=>(e0.bs b o e).1
 have lim:s.heap.NoLimit:=e0.mod.nolimit.keeps fun b o e=>(e0.bs b o e).1
 have hkind:∀ y∈ps.zip us,scope.names.lookup y.1 = some .local∨(scope.names.lookup y.1 = some .cell∧((cellsFrom (s.heap.objs.size + 1) scope.names []).lookup y.1).isSome = true):=fun ⟨n,v⟩ hy=>by
  rcases S.par n (List.of_mem_zip hy).1 with q | q
  ·exact .inl q
  ·exact .inr ⟨q,PySem.W.cellsFrom_some _ _ _ (.inl q)⟩
 refine codeAny_call_function hr.depth (KX _ _ lk) rfl S.co S.gen rfl (PySem.W.codeRec_of KX hcd) (hb _ _ _ _ ?_)
 refine wpAny_newFunctionEnv_cells S.kind hkind fun env he s1 x=>?_
 subst he
 refine ⟨lim.keeps x.toInCall.keep,codeAny_func ?_⟩
 obtain ⟨t,ht,hq⟩:=hbody A outer s H vs Q E (hr.deeper _) hsp
 have I:Inv (A5 CX P w K mg base N qual scope f cdv A outer s H E) [] (start N vs) H s1:=FD S hr.hd e0 hl r x
 refine wpAny_mono (ht [] s1 (start N vs) H _ I hq) (fun fl s' hs=>?_) fun e s' hs=>hs
 have fin:∀ {σ':St} {H':Hp} {v:V} {u:Value},Inv (A5 CX P w K mg base N qual scope f cdv A outer s H E) [] σ' H' s'→RelV v u→Q v H'→CE outer P w H s Q u s':=
  fun {σ' H' v u} J rv q=>⟨v,H',J.os,J.bare,J.base,J.hok,rv,q⟩
 cases fl with
 | ret u =>
  obtain ⟨v,σ',H',J,rv,q⟩:=hs
  exact fin J rv q
 | next =>
  obtain ⟨σ',H',J,q⟩:=hs
  exact fin (v:=V.non) (u:=Value.none) J rfl q
 | brk =>
  obtain ⟨_,_,_,q⟩:=hs
  exact False.elim q
 | cont =>
  obtain ⟨_,_,_,q⟩:=hs
  exact False.elim q
end L2
namespace L2
open PySem PySem.Spec PyProof.Rows
section
variable {X:Cx} {x:Str} {p pos:Pos} {e:Expr} {es:List Expr} {t:TA} {id T:String} {r:List V→Hp→VK→Prop}
noncomputable def tCB (r:List V→Hp→VK→Prop) (t:TA):TE:=fun σ H Q=>t σ H fun vs H1=>r vs H1 Q
theorem GV (hc:Cg X (.builtin id) r) (hg:Gl X x) (hm:X.mg x = none) (hv:bootBuiltins x = some (.builtin id)) (ha:PA X (e :: es) t) (hn:x ≠ "__name__" := by decide) (hdb:(x == ("__debug__" : Str)) = false:=by decide)
  (he:starEach (e :: es) X.env = (false,eval e X.env) :: starEach es X.env:=by rfl) (hpl:(backTo pos (starEach es X.env)).any (·.1) = false:=by rfl):PE X (.Call (.Name x p) (e :: es) [] pos) (tCB r t):=by
 intro pins s σ H Q I h
 refine wpAny_Call_Name_kw (FH I hg hm hv ?_ hn hdb)
 exact PyProof.Rows.callWith_builtin1 (thn (ha pos pins s σ H _ I h) fun us s1 ⟨vs,H1,I1,r1,q1⟩=>hc pins s1 σ H1 vs us Q I1 r1 q1) he hpl
theorem LJ (hc:Cg X (.type T) r) (hg:Gl X x) (hm:X.mg x = none) (hv:bootBuiltins x = some (.type T)) (ha:PA X (e :: es) t) (hn:x ≠ "__name__" := by decide) (hdb:(x == ("__debug__" : Str)) = false:=by decide)
  (he:starEach (e :: es) X.env = (false,eval e X.env) :: starEach es X.env:=by rfl) (hpl:(backTo pos (starEach es X.env)).any (·.1) = false:=by rfl):PE X (.Call (.Name x p) (e :: es) [] pos) (tCB r t):=by
 intro pins s σ H Q I h
 refine wpAny_Call_Name_kw (FH I hg hm hv ?_ hn hdb)
 exact PyProof.Rows.callWith_type1 (thn (ha pos pins s σ H _ I h) fun us s1 ⟨vs,H1,I1,r1,q1⟩=>hc pins s1 σ H1 vs us Q I1 r1 q1) he hpl
end
end L2
namespace HT
open PySem PyProof.Rows
section
open PySem.SeqAt
open PySem.AutoSeq1 (wpAny_loadPart')
open PySem.MeetsSeq PySem.MeetsSeq2 PySem.MeetsSeq3
end
section
variable {prog:Program} {w:World} {A:Around} {E:Value→Shared→Prop} {s:Shared}
noncomputable def sIx (n d:Nat):Option Int→Nat
 | none=>d
 | some v=>if v < 0 then (v + (n:Int)).toNat else min v.toNat n
theorem G4 (n d:Nat):sIx n d none = d:=rfl
theorem Lb (n d k:Nat):sIx n d (some (k:Int)) = min k n:=by
 show (if (k:Int) < 0 then ((k:Int) + (n:Int)).toNat else min (k:Int).toNat n) = min k n
 rw [if_neg (by lia),Int.toNat_natCast]
end
end HT
namespace L2
open PySem PySem.Spec PyProof.Rows
noncomputable abbrev TO:=St→Hp→(Option Int→Hp→Prop)→Prop
noncomputable def PO (X:Cx) (e:Option Expr) (t:TO):Prop:=
 ∀ (pins:List (Addr × Obj)) (s:Shared) (σ:St) (H:Hp) (Q:Option Int→Hp→Prop),Inv X pins σ H s→t σ H Q →
  wpAny (model X.prog X.w) X.A (evalPart e X.env) (fun u s'=>∃ o H',Inv X pins σ H' s'∧IsPart u o∧Q o H') X.xe s
noncomputable def OO:TO:=fun _ H Q=>Q none H
noncomputable def RZ (t:TE):TO:=fun σ H Q=>t σ H fun x H1=>∃ i,x = .int i∧Q (some i) H1
section
variable {X:Cx} {e:Expr} {te:TE} {lo hi:Option Expr} {tl th:TO} {pos p2:Pos}
theorem K6:PO X none OO:=by
 intro pins s σ H Q I h
 rw [evalPart_none]
 exact wpAny_pure ⟨none,H,I,.none,h⟩
theorem K7 (h:PE X e te):PO X (some e) (RZ te):=by
 intro pins s σ H Q I hw
 rw [evalPart_some]
 refine thn (h pins s σ H _ I hw) fun u s1 yy=>?_
 obtain ⟨x,H1,I1,r1,q1⟩:=yy
 obtain ⟨i,rfl,q⟩:=q1
 obtain ⟨t,rfl⟩:=r1
 exact ⟨some i,H1,I1,.int i t,q⟩
noncomputable def SlR (X:Cx) (r:V→Option Int→Option Int→Hp→VK→Prop):Prop:=
 ∀ (pins:List (Addr × Obj)) (s:Shared) (σ:St) (H:Hp) (x:V) (v vl vu:Value) (lo hi:Option Int) (sl:Addr) (Q:VK),Inv X pins σ H s→RelV x v→s.heap.IsSliceOf sl vl vu .none→IsPart vl lo→IsPart vu hi→r x lo hi H Q →
  ∃ T id,typeLookup (.type T) "__getitem__" = pure (some (.builtin id))∧s.TypeIs v T∧wpAny (model X.prog X.w) X.A (getItem v (.ref sl)) (EP X pins σ Q) X.xe s
noncomputable def tSl (r:V→Option Int→Option Int→Hp→VK→Prop) (te:TE) (tl th:TO):TE:=fun σ H Q=>te σ H fun x H1=>tl σ H1 fun l H2=>th σ H2 fun u H3=>r x l u H3 Q
theorem Jp {r:V→Option Int→Option Int→Hp→VK→Prop} (hr:SlR X r) (he:PE X e te) (hl:PO X lo tl) (hu:PO X hi th):PE X (.Subscript e (.Slice lo hi none p2) pos) (tSl r te tl th):=by
 intro pins s σ H Q I h
 refine Subscript_ (thn (he pins s σ H _ I h) fun v s1 yy=>?_)
 obtain ⟨x,H1,I1,r1,q1⟩:=yy
 refine wpAny_Slice (thn (hl pins s1 σ H1 _ I1 q1) fun vl s2 ⟨l,H2,I2,pl,q2⟩=>thn (hu pins s2 σ H2 _ I2 q2) fun vu s3 yy=>?_)
 obtain ⟨u,H3,I3,pu,q3⟩:=yy
 rw [evalPart_none]
 refine wpAny_pure ?_
 have I4:Inv X pins σ H3 { s3 with heap:=s3.heap.push { cls:=.type "slice",data:=.fields #[vl,vu,.none] } }:=I3.kept (t':=s3.toks) fun b ob q=>Heap.get?_push_of_some _ q
 obtain ⟨T,id,hT,ht,hg⟩:=hr pins { s3 with heap:=s3.heap.push { cls:=.type "slice",data:=.fields #[vl,vu,.none] } } σ H3 x v vl vu l u s3.heap.objs.size Q I4 r1 (Heap.IsSliceOf.new ..) pl pu q3
 show wpAny (model X.prog X.w) X.A (subscriptTail e (.Slice lo hi none p2) v (.ref s3.heap.objs.size)) (EP X pins σ Q) X.xe { s3 with heap:=s3.heap.push { cls:=.type "slice",data:=.fields #[vl,vu,.none] } }
 exact tail_any (ops:=[.ref s3.heap.objs.size,v]) ht hT hg (by with_unfolding_all rfl)
noncomputable def Lo (xs:List V) (lo hi:Option Int):List V:=(xs.drop (HT.sIx xs.length 0 lo)).take (HT.sIx xs.length xs.length hi - HT.sIx xs.length 0 lo)
theorem Eg (xs:List V) (lo hi:Option Int):(Lo xs lo hi).length≤xs.length:=by
 unfold Lo
 rw [List.length_take,List.length_drop]
 lia
end
end L2
namespace L2
open PySem PySem.Spec PyProof.Rows
noncomputable def ixN (n:Nat) (i:Int):Option Nat:=if 0≤i then (if i < n then some i.toNat else none) else if -(n:Int)≤i then some (i + n).toNat else none
noncomputable def atI {α:Type} (xs:List α) (i:Int):Option α:=(ixN xs.length i).bind fun j=>xs[j]?
theorem KU {n:Nat} {i:Int} {j:Nat} (h:ixN n i = some j):seqIndex? i n = some j∧j < n ∧ -(n:Int)≤i∧i < n:=by
 unfold ixN at h
 by_cases h0:0≤i
 ·rw [if_pos h0] at h
  by_cases h1:i < n
  ·rw [if_pos h1] at h
   have e:i.toNat = j:=Option.some.inj h
   exact ⟨by rw [seqIndex_of h0 h1,e],by lia,by lia,h1⟩
  ·rw [if_neg h1] at h; cases h
 ·rw [if_neg h0] at h
  by_cases h1 : -(n:Int)≤i
  ·rw [if_pos h1] at h
   have e:(i + n).toNat = j:=Option.some.inj h
   exact ⟨by rw [seqIndex_neg (by lia) h1,e],by lia,h1,by lia⟩
  ·rw [if_neg h1] at h; cases h
theorem CJ {α:Type} {xs:List α} {i:Int} {v:α} (h:atI xs i = some v):∃ j,seqIndex? i xs.length = some j∧xs[j]? = some v∧j < xs.length ∧ -(xs.length:Int)≤i∧i < xs.length:=by
 unfold atI at h
 cases e:ixN xs.length i with
 | none=>rw [e] at h; cases h
 | some j =>
  rw [e] at h
  obtain ⟨h1,h2,h3,h4⟩:=KU e
  exact ⟨j,h1,h,h2,h3,h4⟩
noncomputable def KG (b:Expr):Prop:=∀ o i,subscripted b false o i = operate [o,i] (getItem o i)
noncomputable def IxR (X:Cx) (r:R2):Prop:=
 ∀ (value slice:Expr) (pins:List (Addr × Obj)) (s:Shared) (σ:St) (H:Hp) (x y:V) (v u:Value) (Q:VK),Inv X pins σ H s→RelV x v→RelV y u→r x y H Q →
  subscripted slice false v u = operate [v,u] (getItem v u)→wpAny (model X.prog X.w) X.A (subscriptTail value slice v u) (EP X pins σ Q) X.xe s
noncomputable def MtR (X:Cx) (id:String) (r:V→List V→Hp→VK→Prop):Prop:=
 ∀ (pins:List (Addr × Obj)) (s:Shared) (σ:St) (H:Hp) (x:V) (xs:List V) (v:Value) (us:List Value) (Q:VK),Inv X pins σ H s→RelV x v→Vals xs us→r x xs H Q →
  wpAny (model X.prog X.w) X.A (call (.builtin id) (v :: us)) (EP X pins σ Q) X.xe s
section
variable {X:Cx} {a b:Expr} {ta tb:TE} {pos:Pos}
theorem IxR.or {r r':R2} (h:IxR X r) (h':IxR X r'):IxR X (fun x y H Q=>r x y H Q∨r' x y H Q):=by
 intro value slice pins s σ H x y v u Q I rx ry q hs
 rcases q with q | q
 ·exact h value slice pins s σ H x y v u Q I rx ry q hs
 ·exact h' value slice pins s σ H x y v u Q I rx ry q hs
theorem RG {r:R2} (hr:IxR X r) (ha:PE X a ta) (hb:PE X b tb) (hs:KG b):PE X (.Subscript a b pos) (tOp r ta tb):=by
 intro pins s σ H Q I h
 exact Subscript_ (Pk ha hb I h fun v u s2 x y H2 I2 rx ry q=>hr a b pins s2 σ H2 x y v u Q I2 rx ry q (hs _ _))
noncomputable def RM (K:Frag):R2:=fun x y H Q=>∃ p xs i v,x = .ref p∧y = .int i∧SqL K H p xs∧atI xs i = some v∧Q v H
noncomputable def RO (K:Frag):R2:=fun x y H Q=>∃ p xs i v,x = .ref p∧y = .int i∧SqT K H p xs∧atI xs i = some v∧Q v H
noncomputable def RN:R2:=fun x y H Q=>∃ z i c,x = .str z∧y = .int i∧z.length≤sizeLine∧atI z.cps.toList i = some c∧Q (.str ⟨#[c]⟩) H
theorem N2:IxR X (RM X.K):=by
 intro value slice pins s σ H x y v u Q I rx ry h hs
 obtain ⟨p,xs,i,z,rfl,rfl,hq,he,q⟩:=h
 cases rx
 obtain ⟨t,rfl⟩:=ry
 obtain ⟨its,r,pl,hz⟩:=I.list hq
 obtain ⟨j,h1,h2,h3,h4,h5⟩:=CJ he
 obtain ⟨w,ew,rw'⟩:=r.get h2
 have hl:=r.length
 have hn:=FI
 have fin:EP X pins σ Q w s:=⟨z,H,I,rw',q⟩
 by_cases h0:0≤i
 ·have hj:i.toNat = j:=by
   rw [seqIndex_of h0 h5] at h1
   exact Option.some.inj h1
  exact item_listR pl.isList h0 (by lia) (by rw [hj]; simpa using ew) fin hs
 ·have hj:(i + (its.toArray.size:Int)).toNat = j:=by
   rw [seqIndex_neg (by lia) h4] at h1
   rw [List.size_toArray,← hl]
   exact Option.some.inj h1
  exact subscriptTail_builtinR (x:=w) pl.isList.typeIs slot_list_getitem.lookup
   (wpAny_getItem_list_neg (Q:=fun r s'=>r = w∧EP X pins σ Q r s') pl.isList (by lia) (by rw [List.size_toArray] <;> lia) (by lia) (by rw [hj]; simpa using ew) ⟨rfl,fin⟩) hs
theorem Pz:IxR X (RO X.K):=by
 intro value slice pins s σ H x y v u Q I rx ry h hs
 obtain ⟨p,xs,i,z,rfl,rfl,hq,he,q⟩:=h
 cases rx
 obtain ⟨t,rfl⟩:=ry
 obtain ⟨its,r,pl,hz⟩:=I.tuple hq
 obtain ⟨j,h1,h2,h3,h4,h5⟩:=CJ he
 obtain ⟨w,ew,rw'⟩:=r.get h2
 have hl:=r.length
 have hn:=FI
 have fin:EP X pins σ Q w s:=⟨z,H,I,rw',q⟩
 exact subscriptTail_builtinR (x:=w) pl.typeIs slot_tuple_getitem.lookup
  (getItem_tuple (j:=j) (Q:=fun r s'=>r = w∧EP X pins σ Q r s') pl (by lia) (by lia) (by rw [List.size_toArray,← hl]; exact h1) (by simpa using ew) ⟨rfl,fin⟩) hs
theorem Py:IxR X RN:=by
 intro value slice pins s σ H x y v u Q I rx ry h hs
 obtain ⟨z,i,c,rfl,rfl,hz,he,q⟩:=h
 obtain ⟨t,rfl⟩:=rx
 obtain ⟨t',rfl⟩:=ry
 obtain ⟨j,h1,h2,h3,h4,h5⟩:=CJ he
 have hl:z.cps.toList.length = z.length:=by simp [Str.length]
 rw [hl] at h1 h4 h5
 have hn:=FI
 exact tail_any (typeIs_str s z t) slot_str_getitem.lookup (getItem_str (c:=c) (by
  have e1:decide (i < -(2 ^ 63:Int)) = false:=decide_eq_false (by lia)
  have e2:decide (i ≥ 2 ^ 63) = false:=decide_eq_false (by lia)
  rw [e1,e2,Bool.or_false]) (by rw [h1]; simpa using h2) ⟨.str ⟨#[c]⟩,H,I.tok _,⟨_,rfl⟩,q⟩) hs
noncomputable def rIx (K:Frag):R2:=fun x y H Q=>RM K x y H Q∨RO K x y H Q∨RN x y H Q
theorem AQ:IxR X (rIx X.K):=N2.or (Pz.or Py)
theorem J7 (its:List Value) (n j:Nat) (u:Value):Obj.mapSeq (·.setIfInBounds j u) { cls:=.type "list",data:=.seq its.toArray n } = { cls:=.type "list",data:=.seq (its.set j u).toArray n }:=by
 simp [Obj.mapSeq]
theorem Inv.lst {pins:List (Addr × Obj)} {σ:St} {H:Hp} {s:Shared} {p:Addr} {xs:List V} (I:Inv X pins σ H s) (h:H p = some (.lst xs)) :
  ∃ (its:List Value) (n:Nat),Vals xs its∧s.heap.get? p = some { cls:=.type "list",data:=.seq its.toArray n }∧xs.length≤sizeLine:=by
 obtain ⟨z,its,n,r,e⟩:=I.hok p _ h
 exact ⟨its,n,r,e,z⟩
theorem Inv.lstUpd {pins:List (Addr × Obj)} {σ:St} {H:Hp} {s:Shared} {p:Addr} {xs ys:List V} {its its':List Value} {n n':Nat} {f:Obj→Obj} (I:Inv X pins σ H s) (h:H p = some (.lst xs))
  (ho:s.heap.get? p = some { cls:=.type "list",data:=.seq its.toArray n }) (hf:f { cls:=.type "list",data:=.seq its.toArray n } = { cls:=.type "list",data:=.seq its'.toArray n' }) (r:Vals ys its') (hz:ys.length≤sizeLine) (t:Nat) :
  Inv X pins σ (upd H p (.lst ys)) { s with heap:=s.heap.update p f,toks:=t }:=by
 have e:(s.heap.update p f).get? p = some { cls:=.type "list",data:=.seq its'.toArray n' }:=by
  rw [Heap.get?_update_self f ho (by rw [hf] <;> rfl),hf]
 refine I.write (x:=p) (e:=p) (by rw [h]; trivial) (.inl rfl) (fun b u hb q=>(Heap.get?_update_other _ _ (Ne.symm hb)).trans q) ⟨_,e⟩ ?_
 exact ⟨hz,its',n',r,e⟩
noncomputable def O7:V→V→V→Hp→(Hp→Prop)→Prop:=fun o i v H Q=>∃ p xs k j,o = .ref p∧i = .int k∧H p = some (.lst xs)∧ixN xs.length k = some j∧Q (upd H p (.lst (xs.set j v)))
theorem set_list:Q9 X O7:=by
 intro pins s σ H o i v ov iv u Q I ro ri rv h
 obtain ⟨p,xs,k,j,rfl,rfl,hp,hj,q⟩:=h
 cases ro
 obtain ⟨t,rfl⟩:=ri
 obtain ⟨its,n,r,ho,hz⟩:=I.lst hp
 obtain ⟨h1,h2,h3,h4⟩:=KU hj
 have hl:=r.length
 have hn:=FI
 have I':Inv X pins σ (upd H p (.lst (xs.set j v))) { s with heap:=s.heap.update p (Obj.mapSeq (·.setIfInBounds j u)) }:=
  I.lstUpd hp ho (J7 its n j u) (r.set rv j) (by rw [List.length_set]; exact hz) s.toks
 by_cases h0:0≤k
 ·have hk:k.toNat = j:=by
   rw [seqIndex_of h0 h4] at h1
   exact Option.some.inj h1
  exact PySem.W.ki_setAt ho h0 (by lia) (by rw [List.size_toArray,← hl]; exact h4) (by rw [hk]; exact ⟨_,I',q⟩)
 ·have hk:(k + (its.toArray.size:Int)).toNat = j:=by
   rw [seqIndex_neg (by lia) h3] at h1
   rw [List.size_toArray,← hl]
   exact Option.some.inj h1
  exact PySem.W.ki_setBack ho (by lia) (by rw [List.size_toArray,← hl]; exact h3) (by lia) (by rw [hk]; exact ⟨_,I',q⟩)
theorem IF (lo hi:Option Int) (n:Nat):(sliceBounds lo hi none n).1 = ((HT.sIx n 0 lo:Nat):Int)∧(sliceBounds lo hi none n).2.1 = ((HT.sIx n n hi:Nat):Int)∧(sliceBounds lo hi none n).2.2 = 1:=by
 refine ⟨?_,?_,rfl⟩
 ·cases lo with
  | none=>simp [sliceBounds,HT.sIx]
  | some i =>
   simp only [sliceBounds,HT.sIx,Option.getD_none,show (1:Int) > 0 by decide,if_true]
   by_cases h:i < 0
   ·simp only [h,if_true] <;> lia
   ·simp only [h,if_false] <;> lia
 ·cases hi with
  | none=>simp [sliceBounds,HT.sIx]
  | some i =>
   simp only [sliceBounds,HT.sIx,Option.getD_none,show (1:Int) > 0 by decide,if_true]
   by_cases h:i < 0
   ·simp only [h,if_true] <;> lia
   ·simp only [h,if_false] <;> lia
theorem Hq (its:List Value) (lo hi:Option Int):slicePick its.toArray lo hi none = ((its.drop (HT.sIx its.length 0 lo)).take (HT.sIx its.length its.length hi - HT.sIx its.length 0 lo)).toArray:=by
 obtain ⟨h1,h2,h3⟩:=IF lo hi its.toArray.size
 unfold slicePick
 rw [h1,h2,h3]
 simp only [sliceRange_one,pick_run,List.size_toArray] <;> rfl
noncomputable def QC (K:Frag):V→Option Int→Option Int→Hp→VK→Prop:=fun x lo hi H Q=>∃ a xs,x = .ref a∧SqL K H a xs∧∀ p,H p = none→Q (.ref p) (upd H p (.lst (Lo xs lo hi)))
theorem Lc:SlR X (QC X.K):=by
 intro pins s σ H x v vl vu lo hi sl Q I rx hs pl pu h
 obtain ⟨a,xs,rfl,hx,q⟩:=h
 cases rx
 obtain ⟨its,r,ht,hz⟩:=I.list hx
 have hlen:=r.length
 refine ⟨"list",_,slot_list_getitem.lookup,ht.isList.typeIs,?_⟩
 refine wpAny_getItem_list_slice ht.isList hs pl pu .none (by simp) ?_ (by rw [List.size_toArray] <;> lia)
 rw [Hq,← hlen]
 refine ⟨.ref s.heap.objs.size,_,I.laid (t':=s.toks) (o:=.lst (Lo xs lo hi)) (fun b ob q=>Heap.get?_push_of_some _ q) (Nat.le_refl _) ?_,rfl,q _ (I.hok.fresh (Nat.le_refl _))⟩
 exact ⟨Nat.le_trans (Eg xs lo hi) hz,_,0,(r.drop (HT.sIx xs.length 0 lo)).take (HT.sIx xs.length xs.length hi - HT.sIx xs.length 0 lo),Heap.get?_push_size _ rfl⟩
theorem HV:Cg X (.builtin "len") (fun xs H Q=>∃ p ys,xs = [.ref p]∧(SqL X.K H p ys∨SqT X.K H p ys)∧Q (.int ys.length) H):=by
 intro pins s σ H xs us Q I r h
 obtain ⟨p,ys,rfl,hq,q⟩:=h
 obtain ⟨u,rfl,rx⟩:=vals1 r
 cases rx
 have hn:=FI
 rcases hq with hq | hq
 ·obtain ⟨its,r',pl,hz⟩:=I.list hq
  have hlen:=r'.length
  exact Calls.call_len_list pl.isList (by simp only [List.size_toArray] <;> lia) ⟨.int ys.length,H,I.tok _,⟨s.toks + 1,by rw [List.size_toArray,hlen]⟩,q⟩
 ·obtain ⟨its,r',pl,hz⟩:=I.tuple hq
  have hlen:=r'.length
  exact len_tuple pl (by simp only [List.size_toArray] <;> lia) ⟨.int ys.length,H,I.tok _,⟨s.toks + 1,by rw [List.size_toArray,hlen]⟩,q⟩
theorem HW:Cg X (.builtin "len") (fun xs H Q=>∃ z,xs = [.str z]∧z.length≤sizeLine∧Q (.int z.length) H):=by
 intro pins s σ H xs us Q I r h
 obtain ⟨z,rfl,hz,q⟩:=h
 obtain ⟨u,rfl,t,rfl⟩:=vals1 r
 have hn:=FI
 exact len_str (by lia) ⟨.int z.length,H,I.tok _,⟨_,rfl⟩,q⟩
theorem Cg.or {f:Value} {r r':List V→Hp→VK→Prop} (h:Cg X f r) (h':Cg X f r'):Cg X f (fun xs H Q=>r xs H Q∨r' xs H Q):=by
 intro pins s σ H xs us Q I rs q
 rcases q with q | q
 ·exact h pins s σ H xs us Q I rs q
 ·exact h' pins s σ H xs us Q I rs q
theorem E4:Cg X (.type "list") (fun xs H Q=>∃ p ys,xs = [.ref p]∧(SqL X.K H p ys∨SqT X.K H p ys)∧∀ l,H l = none→Q (.ref l) (upd H l (.lst ys))):=by
 intro pins s σ H xs us Q I r h
 obtain ⟨p,ys,rfl,hq,q⟩:=h
 obtain ⟨u,rfl,rx⟩:=vals1 r
 cases rx
 have fin:∀ (its:List Value),Vals ys its→ys.length≤sizeLine→∀ (h':Heap) (c':Nat),(∀ b o',s.heap.get? b = some o'→h'.get? b = some o') →
   h'.get? s.heap.objs.size = some { cls:=.type "list",dict:=none,data:=.seq its.toArray c',slots:=#[] }→EP X pins σ Q (.ref s.heap.objs.size) { s with heap:=h' }:=fun its r' hz h' c' kp e =>
  ⟨.ref s.heap.objs.size,_,I.laid (t':=s.toks) kp (Nat.le_refl _) (show B7 X.prog X.w _ h' _ (.lst ys) from ⟨hz,its,c',r',e⟩),rfl,q _ (I.hok.fresh (Nat.le_refl _))⟩
 rcases hq with hq | hq
 ·obtain ⟨its,r',pl,hz⟩:=I.list hq
  have hlen:=r'.length
  obtain ⟨o,ho,hc,n,hd⟩:=pl.isList
  exact call_list_seq p (.inl rfl) ho hc hd (fun h' c' kp e=>fin its r' hz h' c' kp e) (by simp only [List.size_toArray] <;> lia)
 ·obtain ⟨its,r',pl,hz⟩:=I.tuple hq
  have hlen:=r'.length
  obtain ⟨o,ho,hc,n,hd⟩:=pl
  exact call_list_seq p (.inr rfl) ho hc hd (fun h' c' kp e=>fin its r' hz h' c' kp e) (by simp only [List.size_toArray] <;> lia)
noncomputable def tyV (K:Frag) (T:String) (x:V) (H:Hp):Prop:=match x with
 | .str _=>T = "str"
 | .int _=>T = "int"
 | .ref p=>(T = "list" ∧ ∃ xs,SqL K H p xs)∨(T = "tuple" ∧ ∃ o,K.lookup p = some o∧o.cls = .type "tuple" ∧ o.dict = none) ∨
   (T = "dict" ∧ ((∃ kvs,H p = some (.dK kvs))∨∃ kvs,H p = some (.dT kvs)))∨(T = "set" ∧ ∃ S n,H p = some (.set S n))
 | _=>False
theorem Q3 {pins:List (Addr × Obj)} {σ:St} {H:Hp} {s:Shared} {T:String} {x:V} {v:Value} (I:Inv X pins σ H s) (r:RelV x v) (ty:tyV X.K T x H) :
  s.TypeIs v T∧∀ a,v = .ref a→∃ ob,s.heap.get? a = some ob∧ob.dict = none:=by
 cases x with
 | str z =>
  obtain ⟨t,rfl⟩:=r
  cases (show T = "str" from ty)
  exact ⟨typeIs_str s z t,fun _ e=>nomatch e⟩
 | int i =>
  obtain ⟨t,rfl⟩:=r
  cases (show T = "int" from ty)
  exact ⟨typeIs_int s i t,fun _ e=>nomatch e⟩
 | ref p =>
  cases r
  rcases ty with ⟨rfl,xs,hq⟩ | ⟨rfl,o,hk,hc,hd⟩ | ⟨rfl,hk⟩ | ⟨rfl,S,n,hk⟩
  ·obtain ⟨its,_,pl,_⟩:=I.list hq
   refine ⟨pl.isList.typeIs,fun a e=>?_⟩
   cases e
   obtain ⟨o,n,e,c,hd,_⟩:=pl
   exact ⟨o,e,hd⟩
  ·refine ⟨⟨o,I.kIn p o hk,hc⟩,fun a e=>?_⟩
   cases e
   exact ⟨o,I.kIn _ o hk,hd⟩
  ·have z:∃ o,s.heap.get? p = some o∧o.ExactDict:=by
    rcases hk with ⟨kvs,hk⟩ | ⟨kvs,hk⟩
    ·obtain ⟨_,_,_,_,o,_,_,e,ex,_⟩:=I.hok p _ hk
     exact ⟨o,e,ex⟩
    ·obtain ⟨_,_,_,_,o,_,_,e,ex,_⟩:=I.hok p _ hk
     exact ⟨o,e,ex⟩
   obtain ⟨o,e,ex⟩:=z
   refine ⟨⟨o,e,ex.1⟩,fun a e2=>?_⟩
   cases e2
   exact ⟨o,e,ex.2.1⟩
  ·obtain ⟨o,_,_,_,e,ex,_⟩:=I.hok p _ hk
   refine ⟨⟨o,e,ex.1⟩,fun a e2=>?_⟩
   cases e2
   exact ⟨o,e,ex.2.1⟩
 | _=>exact False.elim ty
noncomputable def tBM (K:Frag) (T:String) (r:V→List V→Hp→VK→Prop) (to:TE) (t:TA):TE:=fun σ H Q=>to σ H fun x H1=>tyV K T x H1∧t σ H1 fun xs H2=>r x xs H2 Q
variable {o e:Expr} {es:List Expr} {to:TE} {t:TA} {name:Str} {apos cpos:Pos} {T id:String} {r:V→List V→Hp→VK→Prop}
theorem RF (pa:PlainAttrs T) (slot:Slot T name id) (hty:typeOf (.builtin id) = pure (.type "method_descriptor")) (hm:MtR X id r) (ho:PE X o to) (ha:PA X (e :: es) t)
  (hbase:attributeBase o name X.env (eval o X.env) = eval o X.env:=by rfl)
  (hfew:((backTo cpos (starEach (e :: es) X.env)).all (fun x=>!x.1) && (backToKw cpos (keywordEach [] X.env)).all (fun x=>x.1.isSome)
   && decide ((e :: es).length + ([]:List Keyword).length + (if ([]:List Keyword).isEmpty then 0 else 1) < 30)) = true:=by rfl)
  (hline:(apos.endLine == cpos.line) = true:=by rfl) (hs:starEach (e :: es) X.env = (false,eval e X.env) :: starEach es X.env:=by rfl) (hplain:(backTo cpos (starEach es X.env)).any (·.1) = false:=by rfl) :
  PE X (.Call (.Attribute o name apos) (e :: es) [] cpos) (tBM X.K T r to t):=by
 intro pins s σ H Q I h
 refine wpAny_Call_method_late hbase hfew hline rfl (thn (ho pins s σ H _ I h) fun v s1 yy=>?_)
 obtain ⟨x,H1,I1,r1,ty,q1⟩:=yy
 obtain ⟨h1,h2⟩:=Q3 I1 r1 ty
 refine ⟨T,id,pa,slot,hty,h1,h2,?_⟩
 have hA:=ha cpos pins s1 σ H1 _ I1 q1
 rw [hs] at hA ⊢
 refine Calls.callWith_builtin (by show (false || (backTo cpos (starEach es X.env)).any (·.1)) = false; rw [hplain] <;> rfl) (Calls.evalArgs_plain ?_)
 exact thn hA fun us s2 ⟨vs,H2,I2,r2,q2⟩=>hm pins s2 σ H2 x vs v us Q I2 r1 r2 q2
/- xs.append(e),list.index on a module's tuple .. are MtR facts of 06m -/
end
end L2
namespace L2
open PySem PySem.Spec PyProof.Rows
noncomputable def MtM (X:Cx) (id:String) (r:V→List V→Hp→VK→Prop):Prop:=
 ∀ (pins:List (Addr × Obj)) (s:Shared) (σ:St) (H:Hp) (x:V) (xs:List V) (v:Value) (us:List Value) (Q:VK),Inv X pins σ H s→RelV x v→Vals xs us→r x xs H Q →
  wpAny (model X.prog X.w) X.A (call (.builtin id) (v :: us)) (EP X pins σ Q) X.xe s
theorem Vals.one {x:V} {us:List Value} (h:Vals [x] us):∃ u,us = [u]∧RelV x u:=by
 cases h with
 | cons r t=>cases t; exact ⟨_,rfl,r⟩
theorem Vals.two {x y:V} {us:List Value} (h:Vals [x,y] us):∃ u v,us = [u,v]∧RelV x u∧RelV y v:=by
 cases h with
 | cons r t =>
  obtain ⟨v,rfl,q⟩:=Vals.one t
  exact ⟨_,_,rfl,r,q⟩
section
variable {X:Cx} {pins:List (Addr × Obj)} {σ:St} {H:Hp} {s:Shared} {l b:Addr} {xs ys zs:List V}
theorem Inv.lset {its its':List Value} {n:Nat} {f:Array Value→Array Value} {t':Nat} (I:Inv X pins σ H s) (hH:H l = some (.lst xs))
  (e:s.heap.get? l = some { cls:=.type "list",data:=.seq its.toArray n }) (hf:f its.toArray = its'.toArray) (hv:Vals ys its') (hz:ys.length≤sizeLine) :
  Inv X pins σ (upd H l (.lst ys)) { s with heap:=s.heap.update l (Obj.mapSeq f),toks:=t' }:=by
 have q:=PySem.IsL.update e f
 rw [hf] at q
 refine I.write (x:=l) (e:=l) (by rw [hH]; exact trivial) (.inl rfl) (fun b' u hb hu=>(Heap.get?_update_other s.heap (Obj.mapSeq f) (Ne.symm hb)).trans hu) ⟨_,q⟩ ?_
 exact ⟨hz,its',_,hv,q⟩
theorem Inv.lnew {its:List Value} {t':Nat} (I:Inv X pins σ H s) (hv:Vals ys its) (hz:ys.length≤sizeLine) :
  Inv X pins σ (upd H s.heap.objs.size (.lst ys)) { s with heap:=s.heap.push { cls:=.type "list",data:=.seq its.toArray },toks:=t' }:=
 I.laid (fun _ _ q=>Heap.get?_push_of_some _ q) (Nat.le_refl _) ⟨hz,its,0,hv,Heap.get?_push_size _ rfl⟩
theorem Inv.fresh (I:Inv X pins σ H s):H s.heap.objs.size = none:=I.hok.fresh (Nat.le_refl _)
theorem Inv.lstM (I:Inv X pins σ H s) (hH:H l = some (.lst xs)):xs.length≤sizeLine∧∃ (its:List Value) (n:Nat),Vals xs its∧xs.length = its.length∧s.heap.get? l = some { cls:=.type "list",data:=.seq its.toArray n }:=by
 obtain ⟨z,its,n,r,e⟩:=I.hok l _ hH
 exact ⟨z,its,n,r,r.length,e⟩
end
section
variable {X:Cx}
noncomputable def K8:V→List V→Hp→VK→Prop:=fun x vs H Q=>∃ l xs y,x = .ref l∧vs = [y]∧H l = some (.lst xs)∧xs.length < sizeLine∧Q .non (upd H l (.lst (xs ++ [y])))
theorem FJ:MtM X "list.append" K8:=by
 intro pins s σ H x vs v us Q I rx rv h
 obtain ⟨l,xs,y,rfl,rfl,hH,hz,q⟩:=h
 cases rx
 obtain ⟨u,rfl,ru⟩:=rv.one
 obtain ⟨z,its,n,r,hl,e⟩:=I.lstM hH
 refine call_meets F.slot_list_append ⟨_,e,rfl⟩ F.entry_list_append (F.args_list_append_2 _ _) (PySem.list_append l its.toArray n u (by rw [List.size_toArray]; lia)) ⟨e,?_⟩
 refine ⟨.non,_,I.lset (its':=its ++ [u]) hH e (by simp) (r.append (.cons ru .nil)) ?_,rfl,q⟩
 rw [List.length_append,List.length_singleton]
 lia
noncomputable def QA:R2:=fun x y H Q=>∃ l b xs zs,x = .ref l∧y = .ref b∧H l = some (.lst xs)∧H b = some (.lst zs)∧xs.length + zs.length≤sizeLine∧∀ p,H p = none→Q (.ref p) (upd H p (.lst (xs ++ zs)))
theorem Qb:OpR X (binaryOp .Add) QA:=by
 intro pins s σ H x y v u Q I rx ry h
 obtain ⟨l,b,xs,zs,rfl,rfl,hH,hB,hz,q⟩:=h
 cases rx
 cases ry
 obtain ⟨z,its,n,r,hl,e⟩:=I.lstM hH
 obtain ⟨z2,its2,n2,r2,hl2,e2⟩:=I.lstM hB
 refine PySem.P.add_list e e2 ?_ (by rw [List.size_toArray,List.size_toArray]; lia)
 have ea:its.toArray ++ its2.toArray = (its ++ its2).toArray:=by simp
 rw [ea]
 exact ⟨.ref _,_,I.lnew (t':=s.toks) (r.append r2) (by rw [List.length_append]; lia),rfl,q _ I.fresh⟩
end
section
variable {prog:Program} {w:World} {A:Around} {E:Value→Shared→Prop} {s:Shared}
set_option maxRecDepth 100000 in
end
section
variable {X:Cx}
end
end L2
namespace Att
open PySem PySem.W PySem.Calls PyProof.Rows
theorem Gb {P:Params} {h:Heap}:∀ (ns:List Int) (vs:List Value),WellAll P h vs (ns.map WData.int)→IntsAre vs ns:=by
 intro ns
 induction ns with
 | nil =>
  intro vs w
  rw [List.map_nil] at w
  cases w
  exact .nil
 | cons n ns ih =>
  intro vs w
  rw [List.map_cons] at w
  cases w with
  | cons a b =>
   cases a
   exact .cons _ _ (ih _ b)
theorem LV {l:OpenLaw} {n:Nat} (hn:l.most = some n) {P:Params} {h:Heap} {args:List WData} {vals:List Value}
  (hpre:l.row.toRowW.claim.pre args = true) (hwl:WellAll P h vals args) :
  ∃ a vs ns,vals = [Value.ref a]∧args = [WData.list (ns.map WData.int)]∧h.get? a = some { cls:=.type "list",data:=.seq vs.toArray }∧IntsAre vs ns∧ns.length≤n:=by
 have hsh:WShape.hasAll [] args [.list .int] = true:=(pre_splitW hpre).1
 have hc:l.pre.holds [] { args:=args } = true:=(pre_splitW hpre).2
 obtain ⟨d,r,rfl,h1,h2⟩:=hasAllW_cons hsh
 obtain rfl:=hasAllW_nil h2
 obtain ⟨xs,rfl,h3⟩:=hasW_list h1
 obtain ⟨ns,rfl⟩:=items_int h3
 have hlen:ns.length≤n:=by
  unfold OpenLaw.pre at hc
  have h4:(WTm.not (.lt (.lit (.int (n:Int))) (.len (.arg 0)))).holds [] { args:=[.list (ns.map .int)] } = true:=by
   have h4:=(holds_andW hc).1
   rw [hn] at h4
   exact h4
  have h5:=condW_of h4 (w_not (w_lt w_lit (w_len_list (w_arg rfl))))
  rw [List.length_map] at h5
  refine Nat.le_of_not_lt fun q=>?_
  have q':(n:Int) < ((ns.length:Nat):Int):=by lia
  first
   | (rw [decide_eq_true q'] at h5; exact absurd h5 (by decide))
   | (simp at h5; lia)
 cases hwl with
 | cons w1 w2 =>
  cases w2
  cases w1 with
  | list ho hall=>exact ⟨_,_,ns,rfl,rfl,ho,Gb ns _ hall,hlen⟩
theorem LM (l:OpenLaw) (args:List WData):l.row.toRowW.claim.post args (.bool true) args = true:=
 postW_of (r:=l.row.toRowW) (X:=(true == true))
  (show WShape.has [] (.bool true) .bool = true by first | rfl | decide | simp [WShape.has,WShape.arms,WShape.armsAll])
  (show (WTm.eq .res (.lit (.bool true))).value [] { args:=args,res:=some (.bool true),after:=args } = some (.bool (true == true)) from w_eq_bool (w_res rfl) w_lit) rfl
theorem IS {l:OpenLaw} {n:Nat} {q:Program} {loose:List Str} {XP:(Str→Option Value)→Heap→Prop} {YP:World→Heap→Prop} {d:DefRec}
  (hn:l.most = some n) (hdf:d.params.defaults = [])
  (call:∀ (w:World) (s₀ s₁:Shared) (mg mb:Str→Option Value) (fa:Addr) (o:Obj) (pm cd doc:Value) (a:Addr) (vs:List Value) (ns:List Int),
   Ground q loose [] XP w s₀ mg mb s₁.heap→YP w s₁.heap →
   s₁.heap.get? fa = some o→o.data = .func (docDef d.name d.params d.body d.scope pm cd doc)→s₁.heap.CodeRec cd d.name→mg d.name = some (.ref fa) →
   s₁.heap.get? a = some { cls:=.type "list",data:=.seq vs.toArray }→IntsAre vs ns→ns.length≤n→s₁.gens = #[] →
   codeAny (model l.prog w) callerA (.call (.ref fa) ⟨[.ref a],[]⟩) (fun r s'=>r = .ok (.ret (.bool true))∧OldK s₁.heap s'.heap∧s'.os = s₁.os∧AllBare s'.gens) s₁) :
  WalkO q loose XP YP l.row.toRowW d [] (fun f vs=>PySem.call f vs):=by
 intro w s₀ s₁ mg mb G Y fa o pm cd doc dV kV ho hd hcd hD hmg hg args vals as hpre hlay hrd hwl hlo
 obtain rfl:dV = .none:=Dflts.none hD hdf
 obtain rfl:kV = .none:=Dflts.noKw hD
 obtain ⟨a,vs,ns,rfl,rfl,hobj,hints,hlen⟩:=LV hn hpre hwl
 refine enter_call (codeAny_mono (call w s₀ s₁ mg mb fa o pm cd doc a vs ns G Y ho (fd_plain hd) hcd hmg hobj hints hlen hg) fun r s' hq=>?_)
 obtain ⟨rfl,h2,h3,h4⟩:=hq
 exact ⟨.inl ⟨.bool true,.bool true,[],rfl,fun _=>rfl,.bool true,LM l _,fun _=>⟨List.Pairwise.nil,fun _ hm=>(nomatch hm)⟩⟩,h2,h3,h4⟩
section
variable {prog:Program} {w:World} {A:Around} {E:Value→Shared→Prop} {s:Shared} {K:Frag}
end
end Att
namespace L2
open PySem PySem.Spec PyProof.Rows
theorem LZ {vs:List Value} {ns:List Int} (h:IntsAre vs ns):Vals (ns.map V.int) vs:=by
 induction h with
 | nil=>exact .nil
 | cons n t h ih=>exact .cons ⟨t,rfl⟩ ih
noncomputable def NI (H:Hp):Prop:=∀ b,H b = none∨(∃ o xs,H b = some (.frz o (.lst xs)))∨∃ ps,H b = some (.tbl ps)
noncomputable def Gh (K:Frag) (b:Addr):Prop:=∃ c,PySem.W.tabIn K Bp = some (c,b)
noncomputable def OR (K:Frag) (H:Hp):Hp:=fun b=>by classical exact if Gh K b then some (.tbl #[.str Bv 0]) else H b
theorem OS {K:Frag} {H:Hp} {b:Addr} (h:Gh K b):OR K H b = some (.tbl #[.str Bv 0]):=if_pos h
theorem JC {K:Frag} {H:Hp} {b:Addr} (h:¬ Gh K b):OR K H b = H b:=if_neg h
theorem ML {P:Program} {w:World} {K:Frag} {mg mb:Str→Option Value} {CX:CXT} {k:Nat} {fa a:Addr} {fd:FuncData} {x:Str} {sp:Sp} {s₁:Shared} {vs:List Value} {ns:List Int}
  (KX:K.In s₁.heap) (hns:s₁.heap.Ns mainGlobals mg) (hb:s₁.heap.Ns builtinsNs mb) (hbb:∀ x:Str,x ≠ "__name__" → mb x = bootBuiltins x) (hlim:s₁.heap.NoLimit) (hg:s₁.gens = #[])
  (ha:s₁.heap.get? a = some { cls:=.type "list",data:=.seq vs.toArray }) (hi:IntsAre vs ns) (hl:ns.length≤sizeLine) (hr:Room k callerA)
  (F:∀ base:Heap,K.In base→base.Ns mainGlobals mg→FnOk P w K mg base CX k fa fd [x] sp) (hbind:∀ (s:Shared) (u:Value),BindsTo s fd ⟨[u],[]⟩ [(x,u)])
  (hsp:∀ H:Hp,NI H→SqL K H a (ns.map V.int)→sp [.ref a] H (fun v _=>v = .bl true) fun _ _ _=>False)
  (hCX:∀ H e s',CX [] H s₁ (fun _ _ _=>False) e s'→False) (hT:∀ c b,PySem.W.tabIn K Bp = some (c,b)→PySem.W.CodeHd s₁.heap c b∧s₁.heap.get? b = some { cls:=.none,data:=.fields #[] }∧K.lookup b = none)
  (hbm:∃ bm ob,mg "__builtins__" = some (.ref bm)∧bm≠builtinsNs∧s₁.heap.get? bm = some ob∧ob.cls = .type "module" ∧ ob.dict = some builtinsNs∧ob.data = .plain) :
  codeAny (model P w) callerA (.call (.ref fa) ⟨[.ref a],[]⟩) (fun r s'=>r = .ok (.ret (.bool true))∧OldK s₁.heap s'.heap∧s'.os = s₁.os∧AllBare s'.gens) s₁:=by
 have rv:=LZ hi
 have lenV:=hi.length
 have naT:¬ Gh K a:=fun ⟨c,e⟩=>by
  obtain ⟨_,e2,_⟩:=hT c a e
  rw [ha] at e2; cases e2
 have core:∀ H₁:Hp,(∀ b,H₁ b = none∨∃ o xs,H₁ b = some (.frz o (.lst xs)))→SqL K (OR K H₁) a (ns.map V.int)→HOk P w H₁ s₁.heap→(∀ b,H₁ b≠none→b = a)→(H₁ a≠none→K.lookup a = none) →
   codeAny (model P w) callerA (.call (.ref fa) ⟨[.ref a],[]⟩) (fun r s'=>r = .ok (.ret (.bool true))∧OldK s₁.heap s'.heap∧s'.os = s₁.os∧AllBare s'.gens) s₁:=by
  intro H₁ hO₁ hS hok₁ hA₁ hK₁
  generalize hH:OR K H₁ = H at hS
  have hin:∀ {b},Gh K b→H b = some (.tbl #[.str Bv 0]):=fun h=>by rw [← hH]; exact OS h
  have hout:∀ {b},¬ Gh K b→H b = H₁ b:=fun h=>by rw [← hH]; exact JC h
  have hO:NI H:=fun b=>by
   by_cases q:Gh K b
   ·exact .inr (.inr ⟨_,hin q⟩)
   ·rw [hout q]
    exact (hO₁ b).imp id .inl
  have hok:HOk P w H s₁.heap:=fun b u e=>by
   by_cases q:Gh K b
   ·rw [hin q] at e; cases e
    obtain ⟨c,ec⟩:=q
    exact ⟨#[],(hT c b ec).2.1,trivial,fun pos c h=>by cases h⟩
   ·rw [hout q] at e
    rcases hO₁ b with z | ⟨o,xs,z⟩
    ·rw [z] at e; cases e
    ·rw [z] at e; cases e
     obtain ⟨e1,e2⟩:=hok₁ b _ z
     exact ⟨e1,e2⟩
  have hA:∀ b,H b≠none→b = a∨Gh K b:=fun b z=>by
   by_cases q:Gh K b
   ·exact .inr q
   ·rw [hout q] at z; exact .inl (hA₁ b z)
  have base_of:∀ {b:Addr} {o:Obj},s₁.heap.get? b = some o→H b = none→(Hg s₁.heap H).get? b = some o:=fun e n=>Ms e n
  have noA:∀ {b:Addr} {o:Obj} {es:Array DictEntry} {ep:Nat},s₁.heap.get? b = some o→o.data = .dict es ep→H b = none:=fun {b o es ep} e d=>by
   cases q:H b with
   | none=>rfl
   | some u =>
    rcases hA b (by rw [q]; simp) with e' | ⟨c,ec⟩
    ·subst e'
     rw [ha] at e; cases e
     have d':Data.seq vs.toArray _ = Data.dict es ep:=d
     cases d'
    ·rw [(hT c b ec).2.1] at e; cases e
     have d':Data.fields _ = Data.dict es ep:=d
     cases d'
  have nsK:∀ {b:Addr} {m:Str→Option Value},s₁.heap.Ns b m→(Hg s₁.heap H).Ns b m:=fun {b m} ⟨o,es,ep,e,d,r⟩=>⟨o,es,ep,base_of e (noA e d),d,r⟩
  have hKb:K.In (Hg s₁.heap H):=fun b o e=>base_of (KX b o e) (by
   cases q:H b with
   | none=>rfl
   | some u =>
    rcases hA b (by rw [q]; simp) with e' | ⟨c,ec⟩
    ·subst e'
     rw [hout naT] at q
     rw [hK₁ (by rw [q]; simp)] at e; cases e
    ·rw [(hT c b ec).2.2] at e; cases e)
  have bmK:∃ bm ob,mg "__builtins__" = some (.ref bm)∧bm≠builtinsNs∧(Hg s₁.heap H).get? bm = some ob∧ob.cls = .type "module" ∧ ob.dict = some builtinsNs∧ob.data = .plain:=by
   obtain ⟨bm,ob,m1,m2,m3,m4,m5,m6⟩:=hbm
   refine ⟨bm,ob,m1,m2,base_of m3 ?_,m4,m5,m6⟩
   cases q:H bm with
   | none=>rfl
   | some u =>
    rcases hA bm (by rw [q]; simp) with e' | ⟨c,ec⟩
    ·subst e'
     rw [ha] at m3; cases m3
     cases m6
    ·rw [(hT c bm ec).2.1] at m3; cases m3
     cases m6
  have hM:Mod K mg (Hg s₁.heap H):=⟨hKb,nsK hns,⟨mb,nsK hb,hbb⟩,let ⟨mc,h1,h2⟩:=hlim; ⟨mc,nsK h1,h2⟩,bmK⟩
  have e0:Env0 P w K mg (Hg s₁.heap H) callerA [] s₁ H:=⟨rfl,hM,fun b o e=>Oa e,Nat.le_of_eq (Lq _ _),trivial,fun b hb=>absurd (show b∈([]:List Addr) from hb) (by simp),hok,.of_eq hg,fun c b e=>⟨_,hin ⟨c,e⟩,rfl⟩⟩
  refine codeAny_mono ((F _ hKb (nsK hns)).run callerA [] s₁ H ⟨[.ref a],[]⟩ [.ref a] [.ref a] _ _ hr e0 (hbind s₁ (.ref a)) (.cons rfl .nil) (hsp H hO hS)) fun r s' h=>?_
  cases r with
  | error e=>exact (hCX H e s' h).elim
  | ok fl =>
   cases fl with
   | next=>exact False.elim h
   | brk=>exact False.elim h
   | cont=>exact False.elim h
   | ret u =>
    obtain ⟨v,H',os,bare,un,hok',r',q⟩:=h
    have q':v = .bl true:=q
    subst q'
    obtain rfl:u = Value.bool true:=r'
    have fin:∀ b o,s₁.heap.get? b = some o→s'.heap.get? b = some o∨∃ qs,Gh K b∧s'.heap.get? b = some { cls:=.none,data:=.fields qs }:=fun b o e=>by
     cases q:H b with
     | none=>exact .inl (un.keep b o e q (by intro z; exact absurd (show b∈([]:List Addr) from z) (by simp)) (by simp))
     | some u =>
      by_cases tq:Gh K b
      ·rw [hin tq] at q; cases q
       obtain ⟨more,z2⟩:=un.tbls b _ (hin tq)
       obtain ⟨qs,e2,_⟩:=hok' b _ z2
       exact .inr ⟨qs,tq,e2⟩
      ·rcases hO₁ b with z | ⟨ob,xs,z⟩
       ·rw [hout tq,z] at q; cases q
       ·have z2:=un.frzs b ob _ (by rw [hout tq]; exact z)
        obtain ⟨e1,_⟩:=hok₁ b _ z
        obtain ⟨e2,_⟩:=hok' b _ z2
        rw [e] at e1; cases e1
        exact .inl e2
    refine ⟨rfl,⟨fun b o e=>?_,fun b o e=>?_⟩,os,bare⟩
    ·rcases fin b o e with z | ⟨qs,⟨c,ec⟩,z⟩
     ·exact .inl z
     ·obtain ⟨h1,h2,_⟩:=hT c b ec
      rw [e] at h2; cases h2
      refine .inr (.inl ⟨(h1.tab e).isCodeTable,rfl,#[],qs,rfl,?_⟩)
      rw [z]; simp
    ·rcases fin b o e with z | ⟨qs,_,z⟩
     ·exact ⟨_,z⟩
     ·exact ⟨_,z⟩
 cases hk:K.lookup a with
 | some o =>
  -- the script is one of the module's own objects
  have e:=KX a o hk
  rw [ha] at e
  cases e
  refine core (fun _=>none) (fun _=>.inl rfl) (.inr ⟨_,vs.toArray,_,hk,rfl,rfl,rfl,by rw [List.size_toArray,lenV]; exact hl,by simpa using rv⟩) (fun b u z=>by have z':(none:Option HO) = some u:=z; cases z') (fun b z=>absurd rfl z) fun z=>absurd rfl z
 | none =>
  refine core (fun b=>if b = a then some (.frz { cls:=.type "list",data:=.seq vs.toArray } (.lst (ns.map V.int))) else none) (fun b=>?_) (.inl (.inr ⟨{ cls:=.type "list",data:=.seq vs.toArray },by rw [JC naT]; exact if_pos rfl⟩)) (fun b u z=>?_) (fun b z=>?_) fun _=>hk
  ·by_cases hb:b = a
   ·exact .inr ⟨_,_,if_pos hb⟩
   ·exact .inl (if_neg hb)
  ·by_cases hb:b = a
   ·have z':=(if_pos hb).symm.trans z
    cases z'
    subst hb
    exact ⟨ha,by rw [List.length_map]; exact hl,vs,_,rv,ha⟩
   ·have z':=(if_neg hb).symm.trans z
    cases z'
  ·by_cases hb:b = a
   ·exact hb
   ·exact absurd (if_neg hb) z
end L2
namespace L2
open PySem PySem.Spec PyProof.Rows
noncomputable abbrev KOf {K:Frag} {h:Heap} (_:K.In h):Frag:=K
theorem OX {l:PySem.W.OpenLaw} {n k:Nat} {q:Program} {loose:List Str} {XP:(Str→Option Value)→Heap→Prop} {YP:World→Heap→Prop} {d:DefRec} {K:Params→Frag} {CX:World→CXT} {sp:World→Sp} {x:Str}
  (hn:l.most = some n) (hn2:n≤sizeLine) (hdf:d.params.defaults = []) (hr:Room k callerA)
  (hY:∀ (w:World) (h:Heap),YP w h→(K w.params).In h)
  (F:∀ (w:World) (mg:Str→Option Value) (fa:Addr) (h:Heap),(K w.params).In h→h.Ns mainGlobals mg→mg d.name = some (.ref fa) →
   ∃ fd:FuncData,(∀ (s:Shared) (u:Value),BindsTo s fd ⟨[u],[]⟩ [(x,u)]) ∧
    ∀ base:Heap,(K w.params).In base→base.Ns mainGlobals mg→FnOk l.prog w (K w.params) mg base (CX w) k fa fd [x] (sp w))
  (hsp:∀ (w:World) (H:Hp) (a:Addr) (ns:List Int),ns.length≤n→NI H→SqL (K w.params) H a (ns.map V.int)→sp w [.ref a] H (fun v _=>v = .bl true) fun _ _ _=>False)
  (hCX:∀ (w:World) (H:Hp) (s:Shared) (e:Value) (s':Shared),CX w [] H s (fun _ _ _=>False) e s'→False)
  (hT:∀ (w:World) (c b:Addr),PySem.W.tabIn (K w.params) Bp = some (c,b)→(∃ d',(recsOf q).find? (fun e=>e.name == Bp) = some d')∧(K w.params).lookup b = none) :
  PySem.W.WalkO q loose XP YP l.row.toRowW d [] (fun f vs=>PySem.call f vs):=by
 refine Att.IS hn hdf fun w s₀ s₁ mg mb fa o pm cd doc a vs ns G Y ho hd hcd hmg hobj hints hlen hg=>?_
 have KX:=hY w _ Y
 obtain ⟨fd,hb,hF⟩:=F w mg fa _ KX G.T.g hmg
 exact ML KX G.T.g G.T.b G.T.builtins G.T.nolimit hg hobj hints (Nat.le_trans hlen hn2) hr hF hb (fun H hO hS=>hsp w H a ns hlen hO hS) (fun H e s'=>hCX w H s₁ e s') (fun c b e=>by
  obtain ⟨⟨d',hd'⟩,hk⟩:=hT w c b e
  obtain ⟨z1,z2⟩:=PySem.W.tab_of G.T KX hd' e
  exact ⟨z1,z2,hk⟩) G.T.bmain
end L2

namespace L2
open PySem PySem.Spec PyProof.Rows
noncomputable def DA (s:Stmt):Arguments:=match s with
 | .FunctionDef _ a _ _ _ _ _ _ _ _=>a
 | _=>{ posonlyargs:=[],args:=[],vararg:=none,kwonlyargs:=[],kw_defaults:=[],kwarg:=none,defaults:=[] }
noncomputable def BU (s:Stmt):List Stmt:=match s with
 | .FunctionDef _ _ b _ _ _ _ _ _ _=>b
 | _=>[]
noncomputable def Aq (s:Stmt):Scope:=match s with
 | .FunctionDef _ _ _ _ _ _ sc _ _ _=>sc
 | _=>{ kind:=.function,names:=[],isGenerator:=false,isCoroutine:=false }
noncomputable abbrev CX0:CXT:=fun _ _ _ _ _ _=>False
noncomputable abbrev E0:XK:=fun _ _ _=>False
theorem AX {X:Cx}:Passes CX0 X E0:=fun _ _ _ _ _ _ _ h=>h.elim
structure Fun (K:Frag) (x qual:Str) (st:Stmt) (f:Addr) (fd:FuncData):Prop where
 ex:∃ (oc:Value) (od:Option Addr) (kV doc pm:Value) (an:Option Addr) (cdv ct:Value) (osl:Array (Option Value)),
  fd = PySem.W.fnOf x qual (DA st) (BU st) (Aq st) .none kV doc pm an cdv ct∧K.lookup f = some ⟨oc,od,.func fd,osl⟩∧PySem.W.codeIn K cdv qual = true
 kp:PySem.W.keepIn K (.ref f) = true
section
variable {P:Program} {w:World} {K:Frag} {mg:Str→Option Value} {base:Heap}
theorem Fun.ok {x qual:Str} {st:Stmt} {f:Addr} {fd:FuncData} {N ps:List Str} {k:Nat} {sp:Sp} (F:Fun K x qual st f fd) (S:FnScope N ps (Aq st)) (len:∀ vs H Q E,sp vs H Q E→vs.length = ps.length)
  (hbody:∀ (cdv:Value) (A:Around) (outer:List Env) (s:Shared) (H:Hp) (vs:List V) (Q:VK) (E:XK),Room k (A.deeper (envOfC qual (Aq st) s.heap.objs.size f cdv))→sp vs H Q E →
   ∃ t,PSs (A5 CX0 P w K mg base N qual (Aq st) f cdv A outer s H E).nox (BU st) t∧t { nx:=fun _ H'=>Q .non H',rt:=Q } (start N vs) H):FnOk P w K mg base CX0 (k + 1) f fd ps sp:=by
 obtain ⟨oc,od,kV,doc,pm,an,cdv,ct,osl,rfl,lk,hcd⟩:=F.ex
 refine Mo lk hcd S len fun A outer s H vs Q E hr hsp=>?_
 obtain ⟨t,h,q⟩:=hbody cdv A outer s H vs Q E hr hsp
 exact ⟨t,h.nox,q⟩
theorem Fun.binds {x qual:Str} {st:Stmt} {f:Addr} {fd:FuncData} {ps:List Str} (F:Fun K x qual st f fd)
  (h:∀ (kV doc pm:Value) (an:Option Addr) (cdv ct:Value) (us:List Value),us.length = ps.length→bindArgs (PySem.W.fnOf x qual (DA st) (BU st) (Aq st) .none kV doc pm an cdv ct) ⟨us,[]⟩ = pure (ps.zip us)):Binds K fd ps []:=by
 obtain ⟨oc,od,kV,doc,pm,an,cdv,ct,osl,rfl,lk,hcd⟩:=F.ex
 exact .all (h kV doc pm an cdv ct)
theorem Pq {x qual:Str} {st:Stmt} {f:Addr} {oc:Value} {od an:Option Addr} {osl:Array (Option Value)} {kV doc pm cdv ct:Value} (l:K.lookup f = some ⟨oc,od,.func (PySem.W.fnOf x qual (DA st) (BU st) (Aq st) .none kV doc pm an cdv ct),osl⟩)
  (c:PySem.W.codeIn K cdv qual = true) (k:PySem.W.keepIn K (.ref f) = true):Fun K x qual st f (PySem.W.fnOf x qual (DA st) (BU st) (Aq st) .none kV doc pm an cdv ct):=⟨⟨oc,od,kV,doc,pm,an,cdv,ct,osl,rfl,l,c⟩,k⟩
end
section
variable {X:Cx}
end
noncomputable def B8 (H H':Hp):Prop:=∀ b o,H b = some o→H' b = some o
theorem B8.trans {H H1 H2:Hp} (a:B8 H H1) (b:B8 H1 H2):B8 H H2:=fun c o h=>b c o (a c o h)
end L2
end
section
namespace L2
open PySem PySem.Spec PyProof.Rows
section
variable {M:Model} {A:Around} {E:Value→Shared→Prop} {s:Shared}
noncomputable def A8 (h:Heap) (a:Addr):Prop:=∃ (o:Obj) (vs:Array Value),h.get? a = some o∧o.data = .fields vs∧vs[2]? = some .none
theorem A8.keeps {h h':Heap} {a:Addr} (x:A8 h a) (k:∀ b o,h.get? b = some o→h'.get? b = some o):A8 h' a:=let ⟨o,vs,e,r⟩:=x; ⟨o,vs,k _ _ e,r⟩
theorem A8.lt {h:Heap} {a:Addr} (x:A8 h a):a < h.objs.size:=let ⟨_,_,e,_⟩:=x; Heap.lt_size e
theorem HA {e:Addr} {h:Heap} {oe:Obj} {vs:Array Value} {x:Value} (he:h.get? e = some oe) (hd:oe.data = .fields vs) (h2:vs[2]? = some .none):A8 (h.update e (Obj.mapFields (·.setIfInBounds 1 x))) e:=
 ⟨_,_,Heap.get?_update_self _ he (Obj.isFreed_of_fields (Obj.data_mapFields hd _)),Obj.data_mapFields hd _,by rw [Array.getElem?_setIfInBounds_ne (by decide)]; exact h2⟩
theorem A8.other {e T:Addr} {h:Heap} {f:Obj→Obj} (p:A8 h e) (ne:T≠e):A8 (h.update T f) e:=by
 obtain ⟨o,vs,h1,r⟩:=p
 exact ⟨o,vs,(Heap.get?_update_other _ _ ne).trans h1,r⟩
theorem EW {base:Heap} {l:List Env} {e:Addr} {cls a0 fl:Value} {Q:Unit→Shared→Prop} (f1:base.StaysIn s.heap) (f2:base.get? e = none) (f3:s.heap.FunFrames base l) (f4:s.heap.TracedAtW base e cls a0 fl) (hp:A8 s.heap e)
  (hQ:∀ h',Heap.FlyingW base l e cls a0 h'→s.heap.UpToSlots h'→A8 h' e→Q () { s with heap:=h' }):wpAny M A (setFlight (.ref e) none) Q E s:=by
 obtain ⟨oe,vs,T,oT,ts,he,hc,hd,h1,hnT,hTe,hT,hdT,h3⟩:=f4
 have hs3:3 < ts.size:=(Array.getElem?_eq_some_iff.mp h3).1
 have nf:∀ b o,s.heap.get? b = some o→(∀ ws,o.data ≠ .fields ws)→b≠T:=fun b o q n z=>by
  subst z; rw [hT] at q; cases q; exact n _ hdT
 unfold setFlight
 refine wpAny_bind (wpAny_field he hd h1 ?_)
 rw [if_pos (show (Value.ref T != Value.none) = true from by simp)]
 refine wpAny_setField hT hdT hs3 (hQ _ ⟨fun b o q=>?_,f2,f3.of_keeps fun b o q n=>⟨o,(Heap.get?_update_other _ _ (nf b o q n).symm).trans q,rfl⟩,oe,vs,T,_,_,(Heap.get?_update_other _ _ hTe).trans he,hc,hd,h1,hnT,hTe,
  Heap.get?_update_self _ hT (Obj.isFreed_of_fields (Obj.data_mapFields hdT _)),Obj.data_mapFields hdT _,by simp [hs3]⟩ (fun b o q n=>⟨o.slots,(Heap.get?_update_other _ _ (nf b o q n).symm).trans q⟩) (hp.other hTe))
 refine (Heap.get?_update_other _ _ fun z=>?_).trans (f1 b o q)
 subst z; rw [hnT] at q; cases q
theorem Jf {base:Heap} {l:List Env} {e:Addr} {cls a0:Value} {Q:Unit→Shared→Prop} (hh:Heap.FlyingW base l e cls a0 s.heap) (hp:A8 s.heap e)
  (hQ:∀ h',Heap.FlyingW base l e cls a0 h'→s.heap.UpToSlots h'→A8 h' e→Q () { s with heap:=h' }):wpAny M A (setFlight (.ref e) none) Q E s:=
 EW hh.1 hh.2.1 hh.2.2.1 hh.2.2.2.at hp hQ
theorem F5 {base:Heap} {env:Env} {outer:List Env} {L e:Addr} {oe:Obj} {vs:Array Value} {head a0:Value} {hadNext:Bool} {Q:Unit→Shared→Prop}
  (hfr:A.frames = some (env :: outer)) (f3:s.heap.FunFrames base (env :: outer)) (hf:env.frame = some L) (he:s.heap.get? e = some oe) (f1:base.StaysIn s.heap) (f2:base.get? e = none) (hd:oe.data = .fields vs) (hsz:1 < vs.size) (h0:vs[0]? = some a0)
  (h2:vs[2]? = some .none) (hQ:∀ h',Heap.FlyingW base (env :: outer) e oe.cls a0 h'→s.heap.UpToSlots h'→A8 h' e→Q () { s with heap:=h' }) :
  wpAny M A (do let a ← frameOf env; let pl ← entryPlaceOf L hadNext; let b ← EntryCells.newEntry head a .none (rawInt L) .none pl; setField (.ref e) 1 b) (fun _ s'=>wpAny M A (setFlight (.ref e) none) Q E s') E s:=by
 have ne:e ∉ (env :: outer).filterMap (·.frame):=fun z=>by
  obtain ⟨_,o,q,n⟩:=f3.mem z
  rw [he] at q; cases q; exact n _ hd
 refine wpAny_bind (wpAny_frameOf_fun hfr f3 hf fun h₁ so=>wpAny_bind (wpAny_entryPlaceOf fun pl hpl=>?_))
 unfold EntryCells.newEntry newFields
 refine wpAny_bind (wpAny_newObj_type ?_ (hpl.sizeOk5 _ _ _ _ _))
 have e1:h₁.get? e = some oe:=(so.2.1 e ne).trans he
 have b1:base.StaysIn h₁:=fun b o q=>(so.2.1 b fun z=>by rw [(f3.mem z).1] at q; cases q).trans (f1 b o q)
 have tn:h₁.objs.size≠e:=Nat.ne_of_gt (Heap.lt_size e1)
 generalize hob:({ cls:=.type "traceback",dict:=none,data:=.fields ([head,.ref L,.none,rawInt L,.none] ++ (if pl.isEmpty then List.replicate 6 Value.none else pl)).toArray }:Obj) = ob
 have pT:(h₁.push ob).get? h₁.objs.size = some ob:=Heap.get?_push_size h₁ (by subst hob; rfl)
 have k1:∀ b o,b≠e→h₁.get? b = some o→((h₁.push ob).update e (Obj.mapFields (·.setIfInBounds 1 (.ref h₁.objs.size)))).get? b = some o:=fun b o n q=>(Heap.get?_update_other _ _ (Ne.symm n)).trans (Heap.get?_push_of_some ob q)
 have e2:=Heap.get?_push_of_some ob e1
 have nf:∀ b o,s.heap.get? b = some o→(∀ ws,o.data ≠ .fields ws)→b≠e:=fun b o q n z=>by
  subst z; rw [he] at q; cases q; exact n _ hd
 have up:s.heap.UpToSlots ((h₁.push ob).update e (Obj.mapFields (·.setIfInBounds 1 (.ref h₁.objs.size)))):=fun b o q n=>by
  obtain ⟨sl,w⟩:=so.2.2 b o q
  exact ⟨sl,k1 b _ (nf b o q n) w⟩
 refine wpAny_setField e2 hd hsz (EW (fl:=rawInt L) (base:=base) (l:=env :: outer) (cls:=oe.cls) (a0:=a0) (fun b o q=>k1 b o (fun z=>by subst z; rw [f2] at q; cases q) (b1 b o q)) f2 (f3.of_keeps fun b o q n=>?_) ?_ (HA e2 hd h2) fun h' F u p=>hQ h' F (up.trans u) p)
 ·obtain ⟨sl,w⟩:=so.2.2 b o q
  exact ⟨_,k1 b _ (nf b o q n) w,rfl⟩
 ·refine ⟨_,_,h₁.objs.size,ob,_,Heap.get?_update_self _ e2 (Obj.isFreed_of_fields (Obj.data_mapFields hd _)),⟨Obj.cls_mapFields _ _,by rw [Array.getElem?_setIfInBounds_ne (by decide)]; exact h0⟩,Obj.data_mapFields hd _,by simp [hsz],b1.fresh,tn,(Heap.get?_update_other _ _ (Ne.symm tn)).trans pT,by subst hob; rfl,?_⟩
  simp
theorem JO {base:Heap} {env:Env} {outer:List Env} {L e:Addr} {oe:Obj} {vs:Array Value} {head a0:Value} {hadNext:Bool} {Q:Unit→Shared→Prop}
  (hfr:A.frames = some (env :: outer)) (f3:s.heap.FunFrames base (env :: outer)) (hf:env.frame = some L) (he:s.heap.get? e = some oe) (f1:base.StaysIn s.heap) (f2:base.get? e = none) (hd:oe.data = .fields vs) (hsz:1 < vs.size) (h0:vs[0]? = some a0)
  (h2:vs[2]? = some .none) (hQ:∀ h',Heap.HeldW base (env :: outer) e oe.cls a0 L h'→s.heap.UpToSlots h'→A8 h' e→Q () { s with heap:=h' }) :
  wpAny M A (do let a ← frameOf env; let pl ← entryPlaceOf L hadNext; let b ← EntryCells.newEntry head a .none (rawInt L) .none pl; setField (.ref e) 1 b) Q E s:=by
 have ne:e ∉ (env :: outer).filterMap (·.frame):=fun z=>by
  obtain ⟨_,o,q,n⟩:=f3.mem z
  rw [he] at q; cases q; exact n _ hd
 refine wpAny_bind (wpAny_frameOf_fun hfr f3 hf fun h₁ so=>wpAny_bind (wpAny_entryPlaceOf fun pl hpl=>?_))
 unfold EntryCells.newEntry newFields
 refine wpAny_bind (wpAny_newObj_type ?_ (hpl.sizeOk5 _ _ _ _ _))
 have e1:h₁.get? e = some oe:=(so.2.1 e ne).trans he
 have b1:base.StaysIn h₁:=fun b o q=>(so.2.1 b fun z=>by rw [(f3.mem z).1] at q; cases q).trans (f1 b o q)
 have tn:h₁.objs.size≠e:=Nat.ne_of_gt (Heap.lt_size e1)
 generalize hob:({ cls:=.type "traceback",dict:=none,data:=.fields ([head,.ref L,.none,rawInt L,.none] ++ (if pl.isEmpty then List.replicate 6 Value.none else pl)).toArray }:Obj) = ob
 have pT:(h₁.push ob).get? h₁.objs.size = some ob:=Heap.get?_push_size h₁ (by subst hob; rfl)
 have k1:∀ b o,b≠e→h₁.get? b = some o→((h₁.push ob).update e (Obj.mapFields (·.setIfInBounds 1 (.ref h₁.objs.size)))).get? b = some o:=fun b o n q=>(Heap.get?_update_other _ _ (Ne.symm n)).trans (Heap.get?_push_of_some ob q)
 have e2:=Heap.get?_push_of_some ob e1
 have nf:∀ b o,s.heap.get? b = some o→(∀ ws,o.data ≠ .fields ws)→b≠e:=fun b o q n z=>by
  subst z; rw [he] at q; cases q; exact n _ hd
 have up:s.heap.UpToSlots ((h₁.push ob).update e (Obj.mapFields (·.setIfInBounds 1 (.ref h₁.objs.size)))):=fun b o q n=>by
  obtain ⟨sl,w⟩:=so.2.2 b o q
  exact ⟨sl,k1 b _ (nf b o q n) w⟩
 refine wpAny_setField e2 hd hsz (hQ _ ⟨fun b o q=>k1 b o (fun z=>by subst z; rw [f2] at q; cases q) (b1 b o q),f2,f3.of_keeps fun b o q n=>?_,?_⟩ up (HA e2 hd h2))
 ·obtain ⟨sl,w⟩:=so.2.2 b o q
  exact ⟨_,k1 b _ (nf b o q n) w,rfl⟩
 ·refine ⟨_,_,h₁.objs.size,ob,_,Heap.get?_update_self _ e2 (Obj.isFreed_of_fields (Obj.data_mapFields hd _)),⟨Obj.cls_mapFields _ _,by rw [Array.getElem?_setIfInBounds_ne (by decide)]; exact h0⟩,Obj.data_mapFields hd _,by simp [hsz],b1.fresh,tn,(Heap.get?_update_other _ _ (Ne.symm tn)).trans pT,by subst hob; rfl,?_⟩
  simp
theorem A8.two {e:Addr} {h:Heap} {oe:Obj} {vs:Array Value} (p:A8 h e) (he:h.get? e = some oe) (hd:oe.data = .fields vs):vs[2]? = some .none:=by
 obtain ⟨o',vs',q1,q2,q3⟩:=p
 rw [he] at q1; cases q1
 rw [hd] at q2; cases q2
 exact q3
theorem Fi {base:Heap} {env:Env} {outer:List Env} {L e:Addr} {cls a0:Value} {Q:Unit→Shared→Prop} (hfr:A.frames = some (env :: outer)) (hf:env.frame = some L) (hfl:Heap.FlyingW base (env :: outer) e cls a0 s.heap) (hp:A8 s.heap e)
  (hQ:∀ h',Heap.FlyingW base outer e cls a0 h'→s.heap.UpToSlots h'→A8 h' e→Q () { s with heap:=h' }):wpAny M A (leaving env (.ref e)) Q E s:=by
 obtain ⟨f1,f2,f3,oe,vs,T,oT,ts,he,⟨rfl,h0⟩,hd,h1,hnT,hTe,hT,hdT,h3⟩:=hfl
 have nf:∀ b o,s.heap.get? b = some o→(∀ ws,o.data ≠ .fields ws)→b≠T:=fun b o q n z=>by
  subst z; rw [hT] at q; cases q; exact n _ hdT
 have k1:∀ b,b≠T→(s.heap.update T (Obj.mapFields (·.setIfInBounds 3 Value.none))).get? b = s.heap.get? b:=fun b n=>Heap.get?_update_other _ _ (Ne.symm n)
 unfold leaving noteFrame
 simp only [hf]
 refine wpAny_bind (wpAny_bind (wpAny_field he hd h1 ?_))
 rw [if_pos (show (Value.ref T != Value.none) = true from by simp)]
 refine wpAny_bind (wpAny_field hT hdT h3 ?_)
 rw [if_neg (show ¬ ((Value.none == rawInt L) = true) from by simp [rawInt])]
 refine wpAny_bind (wpAny_setField hT hdT (Array.getElem?_eq_some_iff.mp h3).1 ?_)
 refine F5 hfr (f3.of_keeps fun b o q n=>⟨o,(k1 b (nf b o q n)).trans q,rfl⟩) hf ((k1 e (Ne.symm hTe)).trans he) (fun b o q=>(k1 b fun z=>by subst z; rw [hnT] at q; cases q).trans (f1 b o q)) f2 hd
  (Array.getElem?_eq_some_iff.mp h1).1 h0 (hp.two he hd) fun h' F u p=>?_
 obtain ⟨g1,g2,⟨_,_,g3⟩,g4⟩:=F
 exact hQ h' ⟨g1,g2,g3,g4⟩ (fun b o q n=>u b o ((k1 b (nf b o q n)).trans q) n) p
theorem Jh {base:Heap} {env:Env} {outer:List Env} {L e:Addr} {cls a0:Value} {Q:Unit→Shared→Prop} (hfr:A.frames = some (env :: outer)) (hf:env.frame = some L) (hfl:Heap.FlyingW base (env :: outer) e cls a0 s.heap) (hp:A8 s.heap e)
  (hQ:∀ h',Heap.HeldW base (env :: outer) e cls a0 L h'→s.heap.UpToSlots h'→A8 h' e→Q () { s with heap:=h' }):wpAny M A (noteFrame (.ref e) env) Q E s:=by
 obtain ⟨f1,f2,f3,oe,vs,T,oT,ts,he,⟨rfl,h0⟩,hd,h1,hnT,hTe,hT,hdT,h3⟩:=hfl
 have nf:∀ b o,s.heap.get? b = some o→(∀ ws,o.data ≠ .fields ws)→b≠T:=fun b o q n z=>by
  subst z; rw [hT] at q; cases q; exact n _ hdT
 have k1:∀ b,b≠T→(s.heap.update T (Obj.mapFields (·.setIfInBounds 3 Value.none))).get? b = s.heap.get? b:=fun b n=>Heap.get?_update_other _ _ (Ne.symm n)
 unfold noteFrame
 simp only [hf]
 refine wpAny_bind (wpAny_field he hd h1 ?_)
 rw [if_pos (show (Value.ref T != Value.none) = true from by simp)]
 refine wpAny_bind (wpAny_field hT hdT h3 ?_)
 rw [if_neg (show ¬ ((Value.none == rawInt L) = true) from by simp [rawInt])]
 refine wpAny_bind (wpAny_setField hT hdT (Array.getElem?_eq_some_iff.mp h3).1 ?_)
 refine JO hfr (f3.of_keeps fun b o q n=>⟨o,(k1 b (nf b o q n)).trans q,rfl⟩) hf ((k1 e (Ne.symm hTe)).trans he) (fun b o q=>(k1 b fun z=>by subst z; rw [hnT] at q; cases q).trans (f1 b o q)) f2 hd
  (Array.getElem?_eq_some_iff.mp h1).1 h0 (hp.two he hd) fun h' F u p=>?_
 exact hQ h' F (fun b o q n=>u b o ((k1 b (nf b o q n)).trans q) n) p
theorem Jg {base h:Heap} {env:Env} {outer:List Env} {L e:Addr} {cls:Value} {args:List Value} {Q:Unit→Shared→Prop} (hfr:A.frames = some (env :: outer)) (hf:env.frame = some L) (hkb:base.StaysIn h) (hl:h.FunFrames base (env :: outer))
  (hx:Heap.MadeExcOf h s.heap e cls args) (hQ:∀ h' t,Heap.FlyingW base outer e cls (.ref t) h'→s.heap.UpToSlots h'→A8 h' e→Q () { s with heap:=h' }):wpAny M A (leaving env (.ref e)) Q E s:=by
 obtain ⟨t,he,htn,ht⟩:=hx.there
 have fr:base.get? e = none:=by
  cases q:base.get? e with
  | none=>rfl
  | some o=>have:=hkb e o q; rw [hx.new] at this; cases this
 unfold leaving noteFrame
 simp only [hf]
 refine wpAny_bind (wpAny_bind (wpAny_field he rfl (x:=.none) rfl ?_))
 rw [if_neg (by decide)]
 refine F5 (a0:=.ref t) hfr (hl.of_keeps fun b o q _=>⟨o,hx.keeps b o q,rfl⟩) hf he (fun b o q=>hx.keeps b o (hkb b o q)) fr rfl (by simp) rfl rfl fun h' F u p=>?_
 obtain ⟨g1,g2,⟨_,_,g3⟩,g4⟩:=F
 exact hQ h' t ⟨g1,g2,g3,g4⟩ u p
end
noncomputable def clo (cells:List (Str × Addr)):List (Str × NameKind)→List (Str × Addr)→List (Str × Addr)
 | [],cs=>cs
 | (n,k) :: r,cs=>clo cells r (if (k == .free) = true then (n,(cells.lookup n).getD 0) :: cs else cs)
theorem IX {env:Env}:∀ (names:List (Str × NameKind)) (cs:List (Str × Addr)),(∀ x∈names,(x.2 == .free) = true→(env.cells.lookup x.1).isSome = true) →
  (forIn names cs fun (x:Str × NameKind) (r:List (Str × Addr))=>(if (x.2 == NameKind.free) = true then do let c ← cellOf env x.1; pure (ForInStep.yield ((x.1,c) :: r)) else pure (ForInStep.yield r):Sem (ForInStep (List (Str × Addr))))) = pure (clo env.cells names cs)
 | [],cs,_=>rfl
 | (n,k) :: r,cs,h=>by
  rw [List.forIn_cons]
  have hr:=fun cs'=>IX (env:=env) r cs' fun x hx=>h x (List.mem_cons_of_mem _ hx)
  cases hk:(k == NameKind.free) with
  | true =>
   have hc:=h (n,k) List.mem_cons_self hk
   obtain ⟨c,hc⟩:=Option.isSome_iff_exists.mp hc
   have e:cellOf env n = pure c:=by unfold cellOf; rw [hc]
   dsimp only at hc
   simp only [hk,if_true,e,pure_bind]
   rw [hr]
   simp only [clo,hk,if_true,hc,Option.getD_some]
  | false =>
   simp only [hk,Bool.false_eq_true,if_false,pure_bind]
   rw [hr]
   simp only [clo,hk,Bool.false_eq_true,if_false]
theorem HY {env:Env} {scope:Scope} (h:∀ x∈scope.names,(x.2 == .free) = true→(env.cells.lookup x.1).isSome = true):closureFor scope env = pure (clo env.cells scope.names []):=by
 rw [← IX _ _ h]
 unfold closureFor
 simp
theorem KO {cells:List (Str × Addr)} {x:Str} {c:Addr}:∀ {names:List (Str × NameKind)} {cs:List (Str × Addr)},(∀ y∈names,(y.2 == .free) = true→(cells.lookup y.1).isSome = true) →
  (clo cells names cs).lookup x = some c→cs.lookup x = some c∨cells.lookup x = some c
 | [],_,_,h=>.inl h
 | (n,k) :: r,cs,hn,h=>by
  simp only [clo] at h
  have hr:=KO (names:=r) (fun y hy=>hn y (List.mem_cons_of_mem _ hy)) h
  rcases hr with hr | hr
  ·cases hk:(k == NameKind.free) with
   | true =>
    simp only [hk,if_true] at hr
    rw [List.lookup_cons] at hr
    cases hx:(x == n) with
    | true =>
     simp only [hx] at hr
     obtain ⟨c',hc'⟩:=Option.isSome_iff_exists.mp (hn (n,k) List.mem_cons_self hk)
     have hx':x = n:=by simpa using hx
     rw [hc'] at hr
     refine .inr ?_
     rw [hx']
     exact hc'.trans hr
    | false =>
     simp only [hx] at hr
     exact .inl hr
   | false =>
    simp only [hk,Bool.false_eq_true,if_false] at hr
    exact .inl hr
  ·exact .inr hr
theorem IW {cells:List (Str × Addr)} {x:Str}:∀ {names:List (Str × NameKind)} {cs:List (Str × Addr)},(∃ c,cs.lookup x = some c)→∃ c,(clo cells names cs).lookup x = some c
 | [],_,h=>h
 | (n,k) :: r,cs,h=>by
  simp only [clo]
  refine IW (names:=r) ?_
  cases hk:(k == NameKind.free) with
  | true =>
   simp only [if_true]
   rw [List.lookup_cons]
   cases hx:(x == n) with
   | true=>exact ⟨_,rfl⟩
   | false=>exact h
  | false =>
   simp only [Bool.false_eq_true,if_false]
   exact h
theorem HX {cells:List (Str × Addr)} {x:Str}:∀ {names:List (Str × NameKind)} {cs:List (Str × Addr)},names.lookup x = some .free→∃ c,(clo cells names cs).lookup x = some c
 | [],_,h=>by simp at h
 | (n,k) :: r,cs,h=>by
  rw [List.lookup_cons] at h
  simp only [clo]
  cases hx:(x == n) with
  | true =>
   simp only [hx] at h
   have hk:k = .free:=Option.some.inj h
   subst hk
   refine IW (names:=r) ⟨(cells.lookup n).getD 0,?_⟩
   rw [if_pos (by decide),List.lookup_cons]
   simp only [hx]
  | false =>
   simp only [hx] at h
   exact HX (names:=r) h
noncomputable abbrev cxD (X:Cx) (own:List Str) (scope:Scope) (C:Addr) (cl:List (Str × Addr)) (fn:Str→Bool) (s:Shared) (H:Hp) (fp:List Addr) (pins:List (Addr × Obj)):Cx:=
 { X with N:=own ++ X.N,s₀:=s,H₀:=H,env:=compEnvC scope cl C X.env,outer:=X.stack,ex:=fp,fn:=fn,pn:=X.pn ++ pins,xe:=fun _ _=>False }
noncomputable abbrev cxC (X:Cx) (own:List Str) (scope:Scope) (C:Addr) (s:Shared) (H:Hp) (fp:List Addr) (pins:List (Addr × Obj)):Cx:=
 cxD X own scope C (clo X.env.cells scope.names []) (fun _=>false) s H fp pins
noncomputable def BX (own N:List Str) (sc sco:Scope):Bool:=
 N.all (fun x=>match sc.names.lookup x with
  | some .local=>false
  | some .cell=>false
  | some .free=>sco.names.lookup x == some .cell || sco.names.lookup x == some .free
  | _=>true) &&
 sc.names.all (fun y=>(y.2 != .cell) && (y.2 != .free || sco.names.lookup y.1 == some .cell || sco.names.lookup y.1 == some .free) && (y.2 != .local || sc.names.lookup y.1 == some .local)) &&
 (sc.kind == .function) && own.all fun x=>!N.contains x
theorem Cb {env:Env}:∀ {names:List (Str × NameKind)} {x:Str} {k:NameKind},
  (names.map fun (n,k)=>if (k == NameKind.free && env.scope.kind == .function && env.kindOf n == some .cell) then (n,NameKind.cell) else (n,k)).lookup x = some k →
  names.lookup x = some k∨(k = .cell∧names.lookup x = some .free)
 | [],_,_,h=>by simp at h
 | (n,j) :: r,x,k,h=>by
  have ih:=@Cb env r x k
  have h':List.lookup x ((if (j == NameKind.free && env.scope.kind == .function && env.kindOf n == some .cell) = true then (n,NameKind.cell) else (n,j)) :: _) = some k:=h
  rw [List.lookup_cons]
  cases hx:x == n with
  | true =>
   by_cases hc:(j == NameKind.free && env.scope.kind == .function && env.kindOf n == some .cell) = true
   ·rw [if_pos hc,List.lookup_cons] at h'
    simp only [hx] at h'
    have hj:j = .free:=by
     simp only [Bool.and_eq_true] at hc
     simpa using hc.1.1
    exact .inr ⟨(Option.some.inj h').symm,by simp only [hj]⟩
   ·rw [if_neg hc,List.lookup_cons] at h'
    simp only [hx] at h'
    exact .inl h'
  | false =>
   refine ih ?_
   by_cases hc:(j == NameKind.free && env.scope.kind == .function && env.kindOf n == some .cell) = true
   ·rw [if_pos hc,List.lookup_cons] at h'
    simp only [hx] at h'
    exact h'
   ·rw [if_neg hc,List.lookup_cons] at h'
    simp only [hx] at h'
    exact h'
theorem Gu {prog:Program} {w:World} {A:Around} {R:Result→Shared→Prop} {s:Shared} {elt target iter:Expr} {ifs:List Expr} {scope:Scope} {pos:Pos} {it acc:Value} {env:Env} (I:Nat→Shared→Prop)
  (turn:∀ n s,I n s→wpAny (model prog w) A (pyNext it) (fun r s₁=>match r with
   | none=>R (.ok .next) s₁
   | some v=>wpAny (model prog w) A (letOwnedTupleGo target it v) (fun _ s₁'=>wpAny (model prog w) A (assign target env v) (fun _ s₂ =>
     wpAny (model prog w) A (forIn ifs true fun c r=>if r = true then do let ok ← isTrue c env (eval c env); pure (ForInStep.yield ok) else pure (ForInStep.yield r)) (fun ok s₃ =>
      if ok = true then wpAny (model prog w) A (eval elt env) (fun x s₄ =>
       wpAny (model prog w) A (call (.builtin "list.append") [acc,x]) (fun _ s₅=>∃ m,m < n∧I m s₅) (fun _ _=>False) s₄) (fun _ _=>False) s₃
      else ∃ m,m < n∧I m s₃) (fun _ _=>False) s₂) (fun _ _=>False) s₁') (fun _ _=>False) s₁) (fun _ _=>False) s)
  (n:Nat) (h:I n s):codeAny (model prog w) A (.compLoop (.ListComp elt [⟨target,iter,ifs,0⟩] scope pos) 0 it acc env) R s:=by
 refine codeAny_loop rfl I (fun n s hI=>?_) n h
 show wpAny _ A ((compTurn (.ListComp elt [⟨target,iter,ifs,0⟩] scope pos) 0 it acc env).onRaise (fun x=>do noteFrame x env; theTreesLotGoes x)) _ _ s
 refine wpAny_noted ?_
 rw [compTurn_list]
 refine wpAny_bind (wpAny_standAt (wpAny_bind (wpAny_mono (turn n s hI) (fun r s₁ h₁=>?_) fun _ _ h'=>h'.elim)))
 cases r with
 | none=>exact wpAny_pure h₁
 | some v =>
  refine wpAny_bind (wpAny_mono h₁ (fun _ s₁' h₁'=>?_) fun _ _ h'=>h'.elim)
  refine wpAny_bind (wpAny_mono h₁' (fun _ s₂ h₂=>wpAny_bind (wpAny_mono h₂ (fun ok s₃ h₃=>?_) fun _ _ h'=>h'.elim)) fun _ _ h'=>h'.elim)
  cases ok with
  | false=>exact wpAny_pure ⟨rfl,h₃⟩
  | true =>
   exact wpAny_bind (wpAny_bind (wpAny_mono h₃ (fun x s₄ h₄=>wpAny_bind (wpAny_mono h₄ (fun _ s₅ h₅=>wpAny_pure (wpAny_pure ⟨rfl,h₅⟩)) fun _ _ h'=>h'.elim)) fun _ _ h'=>h'.elim))
noncomputable def PTs (X:Cx) (ifs:List Expr) (t:TT):Prop:=
 ∀ (pins:List (Addr × Obj)) (s:Shared) (σ:St) (H:Hp) (Q:Bool→Hp→Prop),Inv X pins σ H s→t σ H Q →
  wpAny (model X.prog X.w) X.A (forIn ifs true fun c r=>if r = true then do let ok ← isTrue c X.env (eval c X.env); pure (ForInStep.yield ok) else pure (ForInStep.yield r)) (TP X pins σ Q) X.xe s
noncomputable def Sv:TT:=fun _ H Q=>Q true H
theorem Ox {X:Cx}:PTs X [] Sv:=fun _ _ _ H _ I h=>wpAny_tests_nil ⟨H,I,h⟩
theorem Oy {X:Cx} {c:Expr} {t:TT} (h:PT X c t):PTs X [c] t:=fun pins s σ H Q I q=>wpAny_tests_one (h pins s σ H Q I q)
noncomputable abbrev TU:=V→Hp→List V→Prop
noncomputable def PGo (X:Cx) (target:Expr) (n:Nat) (un:TU):Prop:=
 ∀ (pins:List (Addr × Obj)) (s:Shared) (σ0 σ:St) (H:Hp) (v:V) (u:Value) (vs:List V),σ0.length = n→Inv X pins (σ0 ++ σ) H s→RelV v u→un v H vs →
  wpAny (model X.prog X.w) X.A (assign target X.env u) (fun _ s'=>vs.length = n∧Inv X pins (vs.map some ++ σ) H s') X.xe s
noncomputable def OV:TU:=fun v _ vs=>vs = [v]
theorem PX {α:Type} {l:List α} (h:l.length = 1):∃ o,l = [o]:=by
 cases l with
 | nil=>cases h
 | cons a t=>cases t with
  | nil=>exact ⟨a,rfl⟩
  | cons b t=>cases h
theorem Sj {α:Type} {l:List α} (h:l.length = 2):∃ o p,l = [o,p]:=by
 cases l with
 | nil=>cases h
 | cons a t =>
  obtain ⟨p,rfl⟩:=PX (Nat.succ.inj h)
  exact ⟨a,p,rfl⟩
theorem GX {X:Cx} {x:Str} {pos:Pos} (hi:X.N[0]? = some x) (hN:X.N.Nodup) (hx:X.env.scope.names.lookup x = some .local):PGo X (.Name x pos) 1 OV:=by
 intro pins s σ0 σ H v u vs hl I r h
 obtain ⟨o,rfl⟩:=PX hl
 cases h
 exact wpAny_assign_Name (Ez I hN hi (.inl hx) r (fun s' I'=>⟨rfl,I'⟩) (.inr hx))
noncomputable def LcR (J:It) (un:TU) (tc:TT) (te:TE) (σ:St) (H1:Hp) (Q:VK):Prop:=∀ acc,H1 acc = none→∃ W:Nat→Nat→List V→Hp→Prop,(∃ m,W 0 m [] (upd H1 acc (.lst [])))∧∀ i m ys H,W i m ys H→H acc = some (.lst ys) ∧
 ((J.stop i H∧Q (.ref acc) H)∨(J.go i H∧∀ x H',J.yld i H x H'→∃ vs,un x H' vs∧tc (vs.map some ++ σ) H' fun b H3 =>
  if b = true then te (vs.map some ++ σ) H3 fun v H4=>H4 acc = some (.lst ys)∧ys.length < sizeLine∧∃ m',m' < m∧W (i + 1) m' (ys ++ [v]) (upd H4 acc (.lst (ys ++ [v])))
  else ∃ m',m' < m∧W (i + 1) m' ys H3))
noncomputable def tLc (wi:TI) (un:TU) (tc:TT) (te:TE):TE:=fun σ H Q=>wi σ H fun J H1=>LcR J un tc te σ H1 Q
section
variable {X:Cx} {pins:List (Addr × Obj)} {σ:St} {H:Hp} {s:Shared}
theorem BX.free {own:List Str} {scope:Scope} (hok:BX own X.N scope X.env.scope = true) (I:Inv X pins σ H s):∀ x∈scope.names,(x.2 == NameKind.free) = true→(X.env.cells.lookup x.1).isSome = true:=fun x hx hf=>by
 simp only [BX,Bool.and_eq_true,List.all_eq_true] at hok
 have:=(hok.1.1.2 x hx).1.2
 have hf':x.2 = .free:=by simpa using hf
 rw [hf'] at this
 simp only [bne_self_eq_false,Bool.false_or,Bool.or_eq_true] at this
 obtain ⟨c,hc⟩:=I.ok.has x.1 (this.elim (fun z=>.inl (by simpa [Env.kindOf] using z)) fun z=>.inr (by simpa [Env.kindOf] using z))
 rw [hc]; rfl
theorem HG {own:List Str} {scope:Scope} {fp:List Addr} {h1:Heap} {t':Nat} (hok:BX own X.N scope X.env.scope = true) (I:Inv X pins σ H s) (f2:∀ b∈fp,DN X pins H b) (fo:∀ b∈fp,∃ o,s.heap.get? b = some o)
  (hns:h1.Ns s.heap.objs.size fun _=>none) (hk:∀ b o,s.heap.get? b = some o→h1.get? b = some o) :
  Inv (cxC X own scope s.heap.objs.size s H fp pins) [] (List.replicate own.length none ++ σ) H { s with heap:=h1,toks:=t' }:=by
 have hfree:=BX.free hok I
 simp only [BX,Bool.and_eq_true,List.all_eq_true] at hok
 obtain ⟨⟨⟨hN,hS⟩,hkd⟩,hown⟩:=hok
 have hkind:scope.kind = .function:=by simpa using hkd
 have sub:∀ x c,(clo X.env.cells scope.names []).lookup x = some c→X.env.cells.lookup x = some c:=fun x c e=>by
  rcases KO hfree e with z | z
  ·simp at z
  ·exact z
 have ltS:∀ {b:Addr} {o:Obj},s.heap.get? b = some o→b≠s.heap.objs.size:=fun e=>Nat.ne_of_lt (Heap.lt_size e)
 have isFree:∀ x,((relabel scope X.env).names.lookup x = some .cell∨(relabel scope X.env).names.lookup x = some .free)→scope.names.lookup x = some .free:=fun x hx'=>by
  rcases hx' with z | z
  ·rcases Cb z with z | z
   ·have:=(hS _ (PySem.mem_of_lookup z)).1.1
    simp at this
   ·exact z.2
  ·rcases Cb z with z | z
   ·exact z
   ·cases z.1
 refine ⟨⟨I.ok.mod,hkind,I.ok.glob,I.ok.blt,Nat.le_refl _,fun x y c e1 e2=>I.ok.inj x y c (sub x c e1) (sub y c e2),fun x hx=>HX (isFree x hx),fun x c z=>(by cases z),I.ok.hd,I.ok.frames,.inl rfl,fun b hb=>?_,I.bs,Nat.le_trans I.ok.bsz I.sz,fun b o e hb=>?_,fun b hb hz=>?_,I.stack,I.stkFree,I.tabs⟩,
  rfl,I.bare,Un.kept hk,⟨_,hns,fun i x v e1 e2 e3=>?_⟩,fun x c e=>?_,I.hok.fresh (Nat.le_refl _),fun x c e=>I.freeC x c (sub x c e),fun p hp=>?_,I.hok.kept hk,?_⟩
 ·refine ⟨fun z=>?_,fun x c e z=>?_⟩
  ·obtain ⟨o,e⟩:=fo b hb
   exact ltS e z
  ·exact (f2 b hb).2.2.2.2.1 x c (sub x c e) z
 ·obtain ⟨_,_,_,f4,_⟩:=f2 b hb
  rcases f4 with f4 | f4
  ·exact I.ok.noex b o e f4
  ·have:=Nat.lt_of_lt_of_le (Heap.lt_size e) (Nat.le_trans I.ok.bsz f4)
   exact absurd this (Nat.lt_irrefl _)
 ·obtain ⟨_,f1,f3,_⟩:=f2 b hb
  rcases List.mem_cons.mp (I.stkSub b hz) with z | z
  ·exact f1 z
  ·exact f3 z
 ·by_cases hi:i < own.length
  ·rw [List.getElem?_append_left (by simpa using hi),List.getElem?_replicate] at e2
   split at e2 <;> cases e2
  ·have e1':X.N[i - own.length]? = some x:=by
    have e1:(own ++ X.N)[i]? = some x:=e1
    rw [List.getElem?_append_right (by omega)] at e1
    exact e1
   have e2' : σ[i - own.length]? = some (some v):=by
    rw [List.getElem?_append_right (by simpa using hi)] at e2
    simpa using e2
   have hx:=hN x (List.mem_of_getElem? e1')
   have q:scope.names.lookup x = some .free:=by
    rcases e3 with z | z
    ·rcases Cb z with z | z
     ·rw [z] at hx; cases hx
     ·cases z.1
    ·exact isFree x z
   rw [q] at hx
   simp only [Bool.or_eq_true] at hx
   have hx2:X.env.scope.names.lookup x = some .cell∨X.env.scope.names.lookup x = some .free:=hx.elim (fun z=>.inl (by simpa using z)) fun z=>.inr (by simpa using z)
   obtain ⟨m,_,hl⟩:=I.loc
   obtain ⟨u,r,l⟩:=hl _ x v e1' e2' (.inr hx2)
   refine ⟨u,r,?_⟩
   obtain ⟨c',hc'⟩:=HX (cells:=X.env.cells) (cs:=[]) q
   rcases l with ⟨k,_⟩ | ⟨k,c,hc,o,ho,hd⟩
   ·have k':X.env.scope.names.lookup x = some .local:=k
    rcases hx2 with z | z <;> (rw [k'] at z; cases z)
   ·have ec:=sub x c' hc'
    have ec':c' = c:=Option.some.inj (ec.symm.trans hc)
    rw [ec'] at hc'
    refine .inr ⟨?_,c,hc',o,hk c o ho,hd⟩
    rcases e3 with z | z
    ·rcases Cb z with z | z
     ·rw [q] at z; cases z
     ·cases z.1
    ·exact z
 ·obtain ⟨v,o,ho,hd⟩:=I.cell x c (sub x c e)
  exact ⟨v,o,hk c o ho,hd⟩
 ·have hp':p∈X.pn ++ pins:=by simpa using hp
  obtain ⟨e,n,ne,nf,d⟩:=I.pin p hp'
  refine ⟨hk _ _ e,n,ltS e,fun hz=>?_,d⟩
  rcases List.mem_cons.mp (I.stkSub p.1 hz) with z | z
  ·exact ne z
  ·exact nf z
 ·show (List.replicate own.length none ++ σ).length = (own ++ X.N).length
  rw [List.length_append,List.length_replicate,List.length_append,I.len]
theorem El {own:List Str} {scope:Scope} {fp:List Addr} {cl:List (Str × Addr)} {fn:Str→Bool} {σ':St} {H':Hp} {s':Shared} {h':Heap} (I:Inv X pins σ H s) (f2:∀ b∈fp,DN X pins H b)
  (J:Inv (cxD X own scope s.heap.objs.size cl fn s H fp pins) [] σ' H' s') (hs:Heap.SameBut s.heap.objs.size s'.heap h'):Inv X pins σ H' { s' with heap:=h' }:=by
 have lt:∀ {b:Addr} {o:Obj},s.heap.get? b = some o→b≠s.heap.objs.size:=fun e=>Nat.ne_of_lt (Heap.lt_size e)
 have hC:H' s.heap.objs.size = none:=J.free
 have u:=J.base
 refine I.call' (s':={ s' with heap:=h' }) (ch:=fp) J.os ⟨fun b o e n hb hx=>(hs.2 b (lt e)).trans (u.keep b o e n hb hx),fun b o e n hb hx=>?_,u.free,fun b o e hx=>?_,u.tups,u.frzs,u.tbls⟩ (fun b o e=>?_) J.bare fun b hb=>?_
 ·obtain ⟨sl,q⟩:=u.slot b o e n hb hx
  exact ⟨sl,(hs.2 b (lt e)).trans q⟩
 ·obtain ⟨o',q⟩:=u.there b o e hx
  exact ⟨o',(hs.2 b (lt e)).trans q⟩
 ·refine (J.hok b o e).stay (fun c w' hc q=>(hs.2 c ?_).trans q) (fun _ q=>q) fun _ _ q=>q
  rintro rfl
  rcases hc with z | z
  ·rw [← z,hC] at e; cases e
  ·rw [hC] at z; cases z
 ·obtain ⟨_,f1,_,f4,f5,f6⟩:=f2 b hb
  exact ⟨f4,f1,f5,f6⟩
theorem Nr {own:List Str} {scope:Scope} {fp:List Addr} {it:Addr} {tn:Nat→Heap→Prop} {J:It} {target iter elt:Expr} {ifs:List Expr} {pos:Pos} {un:TU} {tc:TT} {te:TE} {acc:Addr} {Q:VK} {R:Result→Shared→Prop}
  {cl:List (Str × Addr)} {fn:Str→Bool} {h1:Heap} {t1:Nat} (hc:X.calm = true)
  (hg:PGo (cxD X own scope s.heap.objs.size cl fn s H fp pins) target own.length un) (ht:PTs (cxD X own scope s.heap.objs.size cl fn s H fp pins) ifs tc) (he:PE (cxD X own scope s.heap.objs.size cl fn s H fp pins) elt te)
  (I:Inv X pins σ H s) (T:Turn X.prog X.w X.K target J fp it tn) (st:tn 0 s.heap) (f2:∀ b∈fp,DN X pins H b)
  (W:Nat→Nat→List V→Hp→Prop) (w0:∃ m,W 0 m [] H)
  (turn:∀ i m ys H,W i m ys H→H acc = some (.lst ys) ∧
   ((J.stop i H∧Q (.ref acc) H)∨(J.go i H∧∀ x H',J.yld i H x H'→∃ vs,un x H' vs∧tc (vs.map some ++ σ) H' fun b H3 =>
    if b = true then te (vs.map some ++ σ) H3 fun v H4=>H4 acc = some (.lst ys)∧ys.length < sizeLine∧∃ m',m' < m∧W (i + 1) m' (ys ++ [v]) (upd H4 acc (.lst (ys ++ [v])))
    else ∃ m',m' < m∧W (i + 1) m' ys H3)))
  (fin:∀ s' σ' H',Inv (cxD X own scope s.heap.objs.size cl fn s H fp pins) [] σ' H' s'→Q (.ref acc) H'→R (.ok .next) s')
  (hk:∀ b o,s.heap.get? b = some o→h1.get? b = some o) (I0:Inv (cxD X own scope s.heap.objs.size cl fn s H fp pins) [] (List.replicate own.length none ++ σ) H { s with heap:=h1,toks:=t1 }) :
  codeAny (model X.prog X.w) X.A (.compStart (.ListComp elt [⟨target,iter,ifs,0⟩] scope pos) 0 (.ref it) (.ref acc) (compEnvC scope cl s.heap.objs.size X.env)) R { s with heap:=h1,toks:=t1 }:=by
 have st1:tn 0 h1:=T.keep _ _ _ st fun b _ o e=>hk b o e
 have stat:∀ {H':Hp},(∀ b∈fp,H' b = none)→∀ b∈fp,DN (cxD X own scope s.heap.objs.size cl fn s H fp pins) [] H' b:=fun hn b hb=>by
  obtain ⟨_,f1,f3,_,f5,f6⟩:=f2 b hb
  obtain ⟨o,e,_⟩:=T.obj _ _ st b hb
  refine ⟨hn b hb,Nat.ne_of_lt (Heap.lt_size e),fun hz=>?_,.inl hb,(I0.ok.exf b hb).2,fun p hp=>f6 p (by simpa using hp)⟩
  rcases List.mem_cons.mp (I.stkSub b hz) with z | z
  ·exact f1 z
  ·exact f3 z
 have loop:∀ s4,s4 = { s with heap:=h1,toks:=t1 }→codeAny (model X.prog X.w) X.A (.compLoop (.ListComp elt [⟨target,iter,ifs,0⟩] scope pos) 0 (.ref it) (.ref acc) (compEnvC scope cl s.heap.objs.size X.env)) R s4:=by
  rintro s4 rfl
  obtain ⟨m0,w0⟩:=w0
  refine Gu (fun n s'=>∃ i ys σ0 H',σ0.length = own.length∧Inv (cxD X own scope s.heap.objs.size cl fn s H fp pins) [] (σ0 ++ σ) H' s'∧tn i s'.heap∧(∀ b∈fp,H' b = none)∧W i n ys H') ?_ m0 ⟨0,[],_,H,by rw [List.length_replicate],I0,st1,fun b hb=>(f2 b hb).1,w0⟩
  rintro n s3 ⟨i,ys,σ0,H3,hl3,I3,st3,fr3,w3⟩
  obtain ⟨ha,turn3⟩:=turn i n ys H3 w3
  rcases turn3 with ⟨stop,qn⟩ | ⟨go,step⟩
  ·refine thn (T.done (cxD X own scope s.heap.objs.size cl fn s H fp pins) rfl rfl rfl hc i [] s3 _ H3 _ I3 (stat fr3) st3 stop) fun r s4 yy=>?_
   obtain ⟨hr,I4⟩:=yy
   subst hr
   exact fin s4 _ H3 I4 qn
  ·refine thn (T.item (cxD X own scope s.heap.objs.size cl fn s H fp pins) rfl rfl rfl hc i [] s3 _ H3 _ I3 (stat fr3) st3 go) fun r s4 yy=>?_
   obtain ⟨u,hr,h4⟩:=yy
   subst hr
   refine thn h4 fun _ s5 yy=>?_
   obtain ⟨x,H5,I5,r5,y5,st5,fr5⟩:=yy
   obtain ⟨vs,hu,q5⟩:=step x H5 y5
   have I5':=I5.pinned (stat fr5) (T.obj _ _ st5)
   have again:∀ {H7:Hp} {s7:Shared},vs.length = own.length→Inv (cxD X own scope s.heap.objs.size cl fn s H fp pins) ([] ++ FV fp s5.heap) (vs.map some ++ σ) H7 s7→∀ {ys'},(∃ m',m' < n∧W (i + 1) m' ys' H7) →
     ∃ m,m < n∧∃ i ys σ0 H',σ0.length = own.length∧Inv (cxD X own scope s.heap.objs.size cl fn s H fp pins) [] (σ0 ++ σ) H' s7∧tn i s7.heap∧(∀ b∈fp,H' b = none)∧W i m ys H':=fun {H7 s7} hl I7 {ys'} ⟨m',hm,w7⟩=>by
    refine ⟨m',hm,i + 1,ys',vs.map some,H7,by rw [List.length_map,hl],I7.unpinned,T.keep _ _ _ st5 fun b hb o e=>(I7.pin (b,o) (List.mem_append_right _ (List.mem_append_right _ (CV hb e)))).1,fun b hb=>?_,w7⟩
    obtain ⟨o,e,d⟩:=T.obj _ _ st5 b hb
    exact (I7.pin (b,o) (List.mem_append_right _ (List.mem_append_right _ (CV hb e)))).2.1
   refine thn (hg _ s5 σ0 σ H5 x u vs hl3 I5' r5 hu) fun _ s6 yy=>?_
   obtain ⟨hl,I6⟩:=yy
   refine thn (ht _ s6 _ H5 _ I6 q5) fun ok s7 yy=>?_
   obtain ⟨H7,I7,q7⟩:=yy
   cases ok with
   | false =>
    rw [if_neg Bool.false_ne_true] at q7
    rw [if_neg Bool.false_ne_true]
    exact again hl I7 q7
   | true =>
    rw [if_pos rfl] at q7
    rw [if_pos rfl]
    refine thn (he _ s7 _ H7 _ I7 q7) fun v s8 yy=>?_
    obtain ⟨y,H8,I8,r8,ha8,hz8,q8⟩:=yy
    refine thn (FJ _ s8 _ H8 (.ref acc) [y] (.ref acc) [v] (fun _ H9=>∃ m',m' < n∧W (i + 1) m' (ys ++ [y]) H9) I8 rfl (.cons r8 .nil) ⟨acc,ys,y,rfl,rfl,ha8,hz8,q8⟩) fun _ s9 yy=>?_
    obtain ⟨_,H9,I9,_,q9⟩:=yy
    exact again hl I9 q9
 exact codeAny_compStart_list (loop _ rfl) (T.self X.A 0 _ _ _ st1 (loop _ rfl))
theorem HM {own:List Str} {scope:Scope} {fp:List Addr} {it:Addr} {tn:Nat→Heap→Prop} {J:It} {target iter elt:Expr} {ifs:List Expr} {pos:Pos} {un:TU} {tc:TT} {te:TE} {acc:Addr} {Q:VK} {R:Result→Shared→Prop}
  {E:Value→Shared→Prop} (hc:X.calm = true) (hok:BX own X.N scope X.env.scope = true)
  (hg:∀ C s H fp pins,PGo (cxC X own scope C s H fp pins) target own.length un) (ht:∀ C s H fp pins,PTs (cxC X own scope C s H fp pins) ifs tc) (he:∀ C s H fp pins,PE (cxC X own scope C s H fp pins) elt te)
  (I:Inv X pins σ H s) (T:Turn X.prog X.w X.K target J fp it tn) (st:tn 0 s.heap) (f2:∀ b∈fp,DN X pins H b)
  (W:Nat→Nat→List V→Hp→Prop) (w0:∃ m,W 0 m [] H)
  (turn:∀ i m ys H,W i m ys H→H acc = some (.lst ys) ∧
   ((J.stop i H∧Q (.ref acc) H)∨(J.go i H∧∀ x H',J.yld i H x H'→∃ vs,un x H' vs∧tc (vs.map some ++ σ) H' fun b H3 =>
    if b = true then te (vs.map some ++ σ) H3 fun v H4=>H4 acc = some (.lst ys)∧ys.length < sizeLine∧∃ m',m' < m∧W (i + 1) m' (ys ++ [v]) (upd H4 acc (.lst (ys ++ [v])))
    else ∃ m',m' < m∧W (i + 1) m' ys H3)))
  (fin:∀ s' σ' H',Inv (cxC X own scope s.heap.objs.size s H fp pins) [] σ' H' s'→Q (.ref acc) H'→R (.ok .next) s') :
  wpAny (model X.prog X.w) X.A (newFunctionEnv scope X.env.globals (clo X.env.cells scope.names []) [] X.env.qual none .none (some X.env)) (fun cenv s₄ =>
   cenv.locals = s.heap.objs.size∧codeAny (model X.prog X.w) X.A (.compStart (.ListComp elt [⟨target,iter,ifs,0⟩] scope pos) 0 (.ref it) (.ref acc) { cenv with scope:=relabel scope X.env }) R s₄) E s:=by
 have hcell:∀ x∈scope.names,x.2 ≠ .cell:=fun x hx z=>by
  simp only [BX,Bool.and_eq_true,List.all_eq_true] at hok
  have:=(hok.1.1.2 x hx).1.1
  rw [z] at this
  simp at this
 have hkind:scope.kind = .function:=by
  simp only [BX,Bool.and_eq_true] at hok
  simpa using hok.1.2
 refine wpAny_newFunctionEnv hcell (fun x hx=>by simp at hx) (fun h1 hns hsb=>⟨rfl,?_⟩) hkind
 have hk:∀ b o,s.heap.get? b = some o→h1.get? b = some o:=fun b o e=>(hsb.2 b (Nat.ne_of_lt (Heap.lt_size e))).trans (Heap.get?_push_of_some _ e)
 have I0:Inv (cxC X own scope s.heap.objs.size s H fp pins) [] (List.replicate own.length none ++ σ) H { s with heap:=h1,toks:=s.toks + ([]:List (Str × Value)).length }:=
  HG hok I f2 (fun b hb=>let ⟨o,e,_⟩:=T.obj _ _ st b hb; ⟨o,e⟩) (by simpa using hns) hk
 exact Nr (iter:=iter) (pos:=pos) hc (hg _ _ _ _ _) (ht _ _ _ _ _) (he _ _ _ _ _) I T st f2 W w0 turn fin hk I0
end
section
variable {X:Cx}
theorem BX.names {own N:List Str} {scope sco:Scope} (hok:BX own N scope sco = true):∀ x∈scope.names,x.2 = .local→scope.names.lookup x.1 = some .local:=fun x hx hl=>by
 simp only [BX,Bool.and_eq_true,List.all_eq_true] at hok
 have:=(hok.1.1.2 x hx).2
 rw [hl] at this
 simpa using this
theorem BX.kind {own N:List Str} {scope sco:Scope} (hok:BX own N scope sco = true):scope.kind = .function:=by
 simp only [BX,Bool.and_eq_true] at hok
 simpa using hok.1.2
theorem RH {own:List Str} {scope:Scope} {target iter elt:Expr} {ifs:List Expr} {pos:Pos} {wi:TI} {un:TU} {tc:TT} {te:TE} (hc:X.calm = true) (hok:BX own X.N scope X.env.scope = true) (hi:PI X target iter wi)
  (hg:∀ C s H fp pins,PGo (cxC X own scope C s H fp pins) target own.length un) (ht:∀ C s H fp pins,PTs (cxC X own scope C s H fp pins) ifs tc) (he:∀ C s H fp pins,PE (cxC X own scope C s H fp pins) elt te)
  (hs:∀ x,foldedSetIterable iter X.env x = pure x:=by intro _; rfl):PE X (.ListComp elt [⟨target,iter,ifs,0⟩] scope pos) (tLc wi un tc te):=by
 intro pins s σ H Q I h
 rw [eval_ListComp]
 refine wpAny_comprehension_free (use:=none) rfl hs (HY (BX.free hok I)) (BX.kind hok) (BX.names hok) ?_
 refine thn (hi pins s σ H _ I h) fun v s1 h1=>thn h1 fun itv s2 h2=>?_
 obtain ⟨it,fp,tn,J,H2,e,I2,T,st2,f2,q⟩:=h2
 subst e
 obtain ⟨W,w0,turn⟩:=q s2.heap.objs.size I2.fresh
 refine wpAny_newObj_type (hd:=by size_fits) ?_
 have I3:Inv X pins σ (upd H2 s2.heap.objs.size (.lst [])) { s2 with heap:=s2.heap.push { cls:=.type "list",data:=.seq ([]:List Value).toArray } }:=I2.lnew (its:=[]) (t':=s2.toks) .nil (Nat.zero_le _)
 have st3:tn 0 (s2.heap.push { cls:=.type "list",data:=.seq ([]:List Value).toArray }):=T.keep _ _ _ st2 fun b _ o e=>Heap.get?_push_of_some _ e
 have f3:∀ b∈fp,DN X pins (upd H2 s2.heap.objs.size (.lst [])) b:=fun b hb=>by
  obtain ⟨o,e,_⟩:=T.obj _ _ st2 b hb
  exact ⟨by rw [Ax (Nat.ne_of_lt (Heap.lt_size e))]; exact (f2 b hb).1,(f2 b hb).2⟩
 refine thn (HM (iter:=iter) (pos:=pos) (R:=compPost (model X.prog X.w) X.A X.xe none (EP X pins σ Q) (.ref s2.heap.objs.size) (s2.heap.push { cls:=.type "list",data:=.seq ([]:List Value).toArray }).objs.size) hc hok hg ht he I3 T st3 f3 W w0 turn fun s' σ' H' J' q'=>?_) fun cenv s4 ⟨el,h4⟩=>?_
 ·obtain ⟨m,hn,_⟩:=J'.loc
  exact ⟨m,hn,fun h' hs'=>⟨.ref s2.heap.objs.size,H',El I3 f3 J' hs',rfl,q'⟩⟩
 ·have el':cenv.locals = (s2.heap.push { cls:=.type "list",data:=.seq ([]:List Value).toArray }).objs.size:=el
  rw [← el'] at h4
  exact h4
end
section
variable {X:Cx}
end
section
variable {X:Cx} {tg:Expr}
end
section
variable {X:Cx}
noncomputable def Fv (bs:List Bool):List V:=bs.map V.bl
theorem Ef (hc:X.calm = true):Cg X (.builtin "all") (fun xs H Q=>∃ p bs,xs = [.ref p]∧SqL X.K H p (Fv bs)∧Q (.bl (bs.all id)) H):=by
 intro pins s σ H xs us Q I r h
 obtain ⟨p,bs,rfl,hq,q⟩:=h
 obtain ⟨u,rfl,ru⟩:=r.one
 cases ru
 obtain ⟨its,rv,pl,hz⟩:=I.list hq
 have hl:=rv.length
 refine call_all_walk (wpAny_pyIter_list pl.isList ?_)
 have hne:p≠s.heap.objs.size:=fun z=>by
  obtain ⟨o,e,_⟩:=pl.isList
  exact absurd (Heap.lt_size e) (by rw [z]; exact Nat.lt_irrefl _)
 have hlen:its.toArray.size = bs.length:=by rw [List.size_toArray,← hl]; simp [Fv]
 refine ⟨_,_,_,_,_,_,fun i=>(bs[i]?).getD true,rfl,Walks.list (by show X.A.handled = none; exact I.ok.hd hc) s.heap.objs.size p hne its.toArray,⟨⟨_,Heap.get?_push_size _ rfl,rfl,rfl⟩,?_⟩,?_,?_⟩
 ·obtain ⟨o,e,r⟩:=pl.isList
  exact ⟨o,Heap.get?_push_of_some _ e,r⟩
 ·intro i v s' Q' E' hv hq'
  have hi:i < its.length:=by
   by_cases hi:i < its.length
   ·exact hi
   ·have:its.toArray[i]? = none:=by simp; lia
    rw [this] at hv; cases hv
  have hb:i < bs.length:=by simp [Fv] at hl; lia
  obtain ⟨u,hu,ru⟩:=rv.get (i:=i) (x:=.bl bs[i]) (by simp [Fv,hb])
  have e:v = .bool bs[i]:=by
   have:its.toArray[i]? = some u:=by simpa using hu
   rw [this] at hv
   cases hv
   exact ru
  subst e
  dsimp only at hq'
  rw [show (bs[i]?).getD true = bs[i] by simp [hb]] at hq'
  exact wpAny_truthy_bool hq'
 ·intro h' tk hk
  have I1:Inv X pins σ H { s with heap:=h',toks:=tk }:=I.kept fun b o e=>hk b o (fun z=>by
   have z':b = s.heap.objs.size:=by simpa using z
   exact absurd (Heap.lt_size e) (by rw [z']; exact Nat.lt_irrefl _)) (Heap.get?_push_of_some _ e)
  refine ⟨.bl _,H,I1,rfl,?_⟩
  have e:(List.range its.toArray.size).all (fun i=>(bs[i]?).getD true) = bs.all id:=by
   rw [hlen,Bool.eq_iff_iff]
   simp only [List.all_eq_true,List.mem_range,id_eq]
   constructor
   ·intro h b hb
    obtain ⟨i,hi,rfl⟩:=List.mem_iff_getElem.mp hb
    have:=h i hi
    simpa [hi] using this
   ·intro h i hi
    simpa [hi] using h bs[i] (List.getElem_mem hi)
  rw [e]
  exact q
end
section
variable {X:Cx} {e:Expr} {te:TE} {p q pos:Pos} {x:Str} {T:String}
noncomputable def JF (H:Hp):V→Option String
 | .non=>some "NoneType"
 | .bl _=>some "bool"
 | .int _=>some "int"
 | .str _=>some "str"
 | .ref a=>match H a with
  | some (.lst _)=>some "list"
  | some (.tup _)=>some "tuple"
  | _=>none
 | _=>none
theorem OU {K:Frag} {H:Hp} {v:V} {t:String} (h:JF H v = some t):TyOf K H v (.type t):=by
 cases v with
 | non=>cases h; exact .non
 | bl b=>cases h; exact .bl b
 | int i=>cases h; exact .int i
 | str z=>cases h; exact .str z
 | ref a =>
  unfold JF at h
  dsimp only at h
  split at h
  ·rename_i e; cases h; exact .lst e
  ·rename_i e; cases h; exact .tup e
  ·cases h
 | _=>cases h
end
inductive D where
 | non | bl (b:Bool) | int (i:Int) | str (x:Str) | lst (ds:List D) | tup (ds:List D)
inductive RepA (N:Addr→Prop) (H:Hp):V→D→Prop where
 | non:RepA N H .non .non
 | bl (b:Bool):RepA N H (.bl b) (.bl b)
 | int (i:Int):RepA N H (.int i) (.int i)
 | str (x:Str) (hx:x.length≤sizeLine):RepA N H (.str x) (.str x)
 | lst {a:Addr} {vs:List V} {ds:List D} (h:H a = some (.lst vs)) (hz:vs.length≤sizeLine) (hn:¬ N a) (hl:vs.length = ds.length) (hr:∀ (i:Nat) v d,vs[i]? = some v→ds[i]? = some d→RepA N H v d):RepA N H (.ref a) (.lst ds)
 | tup {a:Addr} {vs:List V} {ds:List D} (h:H a = some (.tup vs)) (hz:vs.length≤sizeLine) (hl:vs.length = ds.length) (hr:∀ (i:Nat) v d,vs[i]? = some v→ds[i]? = some d→RepA N H v d):RepA N H (.ref a) (.tup ds)
noncomputable abbrev Rep:=RepA fun _=>False
noncomputable def Rb (N:Addr→Prop) (H H':Hp):Prop:=∀ b o,¬ N b→H b = some o→H' b = some o
theorem RepA.same {N:Addr→Prop} {H H':Hp} (k:Rb N H H') (t:∀ b xs,H b = some (.tup xs)→H' b = some (.tup xs)) {v:V} {d:D} (r:RepA N H v d):RepA N H' v d:=by
 induction r with
 | non=>exact .non
 | bl b=>exact .bl b
 | int i=>exact .int i
 | str x hx=>exact .str x hx
 | lst h hz hn hl _ ih=>exact .lst (k _ _ hn h) hz hn hl fun i v d e1 e2=>ih i v d e1 e2
 | tup h hz hl _ ih=>exact .tup (t _ _ h) hz hl fun i v d e1 e2=>ih i v d e1 e2
theorem RepA.weak {N N':Addr→Prop} {H:Hp} (hn:∀ a,N' a→N a) {v:V} {d:D} (r:RepA N H v d):RepA N' H v d:=by
 induction r with
 | non=>exact .non
 | bl b=>exact .bl b
 | int i=>exact .int i
 | str x hx=>exact .str x hx
 | lst h hz n hl _ ih=>exact .lst h hz (fun z=>n (hn _ z)) hl ih
 | tup h hz hl _ ih=>exact .tup h hz hl ih
theorem RepA.rep {N:Addr→Prop} {H:Hp} {v:V} {d:D} (r:RepA N H v d):Rep H v d:=r.weak fun _ z=>z.elim
theorem RepA.inj {N N':Addr→Prop} {H:Hp} {v:V} {d e:D} (r:RepA N H v d) (q:RepA N' H v e):d = e:=by
 induction r generalizing e with
 | non=>cases q; rfl
 | bl b=>cases q; rfl
 | int i=>cases q; rfl
 | str x=>cases q; rfl
 | lst h hz hn hl hr ih =>
  cases q with
  | lst h' hz' hn' hl' hr' =>
   rw [h] at h'; cases h'
   congr 1
   refine List.ext_getElem? fun i=>?_
   rename_i vs ds es
   by_cases hi:i < vs.length
   ·have e1:ds[i]? = some ds[i]:=by simp [← hl,hi]
    have e2:es[i]? = some es[i]:=by simp [← hl',hi]
    rw [e1,e2,ih i vs[i] ds[i] (by simp [hi]) e1 (hr' i vs[i] es[i] (by simp [hi]) e2)]
   ·rw [List.getElem?_eq_none (by omega),List.getElem?_eq_none (by omega)]
  | tup h'=>rw [h] at h'; cases h'
 | tup h hz hl hr ih =>
  cases q with
  | tup h' hz' hl' hr' =>
   rw [h] at h'; cases h'
   congr 1
   refine List.ext_getElem? fun i=>?_
   rename_i vs ds es
   by_cases hi:i < vs.length
   ·have e1:ds[i]? = some ds[i]:=by simp [← hl,hi]
    have e2:es[i]? = some es[i]:=by simp [← hl',hi]
    rw [e1,e2,ih i vs[i] ds[i] (by simp [hi]) e1 (hr' i vs[i] es[i] (by simp [hi]) e2)]
   ·rw [List.getElem?_eq_none (by omega),List.getElem?_eq_none (by omega)]
  | lst h'=>rw [h] at h'; cases h'
structure Def (P:Program) (w:World) (K:Frag) (mg:Str→Option Value) (base:Heap) (CX:CXT) (k:Nat) (x:Str) (ps:List Str) (sp:Sp):Prop where
 ex:∃ (f:Addr) (fd:FuncData),mg x = some (.ref f)∧PySem.W.keepIn K (.ref f) = true∧Binds K fd ps []∧FnOk P w K mg base CX k f fd ps sp
theorem Def.mono {P:Program} {w:World} {K:Frag} {mg:Str→Option Value} {base:Heap} {CX:CXT} {j k:Nat} {x:Str} {ps:List Str} {sp:Sp} (D:Def P w K mg base CX j x ps sp) (h:j≤k):Def P w K mg base CX k x ps sp:=
 let ⟨f,fd,a,b,c,d⟩:=D.ex; ⟨f,fd,a,b,c,d.mono h⟩
section
variable {X:Cx}
theorem Ki {CX:CXT} {k j:Nat} {x:Str} {ps:List Str} {sp:Sp} {E:XK} {p pos:Pos} {e:Expr} {es:List Expr} {t:TA} (D:Def X.prog X.w X.K X.mg X.base CX k x ps sp) (hr:Room j X.A) (hkj:k≤j) (hx:Passes CX X E) (ha:PA X (e :: es) t)
  (hg:Gl X x:=by rfl) (hdb:(x == ("__debug__" : Str)) = false:=by decide +kernel)
  (he:starEach (e :: es) X.env = (false,eval e X.env) :: starEach es X.env:=by rfl) (hpl:(backTo pos (starEach es X.env)).any (·.1) = false:=by rfl):PE X (.Call (.Name x p) (e :: es) [] pos) (JB sp [] E t):=by
 obtain ⟨f,fd,a,b,c,d⟩:=D.ex
 exact Oi d (hr.mono hkj) hg a b c .nil hx ha hdb he hpl
end
noncomputable def isI (t T:String):Bool:=t == T || (t == "bool" && T == "int")
theorem Lx {K:Frag} {t T:String} (ht:t∈["NoneType","bool","int","str","list","tuple"]) (hT:T∈["int","bool","tuple","list","str"]):PySem.W.kitOne K (.type t) (.type T) = some (isI t T):=by
 simp only [List.mem_cons,List.not_mem_nil,or_false] at ht hT
 rcases ht with rfl | rfl | rfl | rfl | rfl | rfl <;> rcases hT with rfl | rfl | rfl | rfl | rfl <;>
  kernel_rfl
theorem NF {H:Hp} {v:V} {t:String} (h:JF H v = some t):t∈["NoneType","bool","int","str","list","tuple"]:=by
 cases v with
 | non=>cases h; simp
 | bl b=>cases h; simp
 | int i=>cases h; simp
 | str z=>cases h; simp
 | ref a =>
  unfold JF at h
  dsimp only at h
  split at h
  ·cases h; simp
  ·cases h; simp
  ·cases h
 | _=>cases h
section
variable {X:Cx}
theorem Me:Cg X (.builtin "isinstance") (fun xs H Q=>∃ x t T,xs = [x,.ty T]∧JF H x = some t∧T∈["int","bool","tuple","list","str"]∧Q (.bl (isI t T)) H):=by
 intro pins s σ H xs us Q I r h
 obtain ⟨x,t,T,rfl,ht,hT,q⟩:=h
 obtain ⟨u,v,rfl,ru,rv⟩:=r.two
 cases rv
 exact Lu I ru (OU ht) (Lx (NF ht) hT) fun tk=>⟨.bl _,H,I.tok tk,rfl,q⟩
end
noncomputable def EL:D→String
 | .non => "NoneType"
 | .bl _ => "bool"
 | .int _ => "int"
 | .str _ => "str"
 | .lst _ => "list"
 | .tup _ => "tuple"
theorem RepA.typ {N:Addr→Prop} {H:Hp} {v:V} {d:D} (r:RepA N H v d):JF H v = some (EL d):=by
 cases r with
 | non=>rfl
 | bl b=>rfl
 | int i=>rfl
 | str x=>rfl
 | lst h=>simp only [JF,h,EL]
 | tup h=>simp only [JF,h,EL]
mutual
noncomputable def eqD:D→D→Bool
 | .non,.non=>true
 | .bl a,.bl b=>a == b
 | .bl a,.int b=>(if a then 1 else 0) == b
 | .int a,.bl b=>a == (if b then 1 else 0)
 | .int a,.int b=>a == b
 | .str a,.str b=>a == b
 | .lst xs,.lst ys=>Dy xs ys
 | .tup xs,.tup ys=>Dy xs ys
 | _,_=>false
noncomputable def Dy:List D→List D→Bool
 | [],[]=>true
 | x :: xs,y :: ys=>eqD x y && Dy xs ys
 | _,_=>false
end
theorem F6 (x y:List D):eqD (.lst x) (.lst y) = Dy x y:=rfl
theorem F7 (x y:List D):eqD (.tup x) (.tup y) = Dy x y:=rfl
theorem Ea (x y:Int):eqD (.int x) (.int y) = (x == y):=rfl
theorem HC (x y:Str):eqD (.str x) (.str y) = (x == y):=rfl
theorem HB (x y:Bool):eqD (.bl x) (.bl y) = (x == y):=rfl
theorem JP (x y:D) (xs ys:List D):Dy (x :: xs) (y :: ys) = (eqD x y && Dy xs ys):=rfl
theorem Dp:∀ {xs ys:List D},Dy xs ys = true→xs.length = ys.length
 | [],[],_=>rfl
 | [],_ :: _,h=>nomatch h
 | _ :: _,[],h=>nomatch h
 | x :: xs,y :: ys,h=>by
  rw [JP,Bool.and_eq_true] at h
  simp [Dp h.2]
theorem Dn:∀ {xs ys:List D},xs.length = ys.length→Dy xs ys = (List.range xs.length).all fun i=>eqD (xs.getD i .non) (ys.getD i .non)
 | [],[],_=>rfl
 | x :: xs,y :: ys,h=>by
  have ih:=Dn (xs:=xs) (ys:=ys) (by simpa using h)
  rw [JP,ih,List.length_cons,List.range_succ_eq_map,List.all_cons,List.all_map]
  rfl
mutual
theorem Ei:∀ d,eqD d d = true
 | .non=>rfl
 | .bl a=>by rw [HB]; exact beq_self_eq_true a
 | .int a=>by rw [Ea]; exact beq_self_eq_true a
 | .str a=>by rw [HC]; exact beq_self_eq_true a
 | .lst xs=>Fy xs
 | .tup xs=>Fy xs
theorem Fy:∀ ds,Dy ds ds = true
 | []=>rfl
 | d :: ds=>by rw [JP,Ei d,Fy ds]; rfl
end
inductive Sh:Nat→D→Prop where
 | non {n:Nat}:Sh n .non
 | bl {n:Nat} (b:Bool):Sh n (.bl b)
 | int {n:Nat} (i:Int):Sh n (.int i)
 | str {n:Nat} (x:Str):Sh n (.str x)
 | lst {n:Nat} {ds:List D} (h:∀ d∈ds,Sh n d):Sh (n + 1) (.lst ds)
 | tup {n:Nat} {ds:List D} (h:∀ d∈ds,Sh n d):Sh (n + 1) (.tup ds)
section
variable {P:Program} {w:World} {H:Hp} {s:Shared} {N N':Addr→Prop}
theorem Bf (hok:HOk P w H s.heap) {a:Addr} {vs:List V} (h:H a = some (.lst vs)):∃ its:List Value,Vals vs its∧s.heap.IsList a its.toArray:=by
 obtain ⟨z,its,n,r,e⟩:=hok a _ h
 exact ⟨its,r,_,e,rfl,_,rfl⟩
theorem Bw (hok:HOk P w H s.heap) {a:Addr} {vs:List V} (h:H a = some (.tup vs)):∃ its:List Value,Vals vs its∧s.heap.IsTuple a its.toArray:=by
 obtain ⟨z,its,r,p⟩:=hok a _ h
 exact ⟨its,r,p⟩
theorem DT {A:Around} {vs vs':List V} {its its':List Value} {ds es:List D} (r:Vals vs its) (r':Vals vs' its') (hl:vs.length = ds.length) (hl':vs'.length = es.length)
  (f:∀ (i:Nat) v d v' e u u',vs[i]? = some v→ds[i]? = some d→vs'[i]? = some v'→es[i]? = some e→RelV v u→RelV v' u'→SeqAt.EqAt A s u u' (eqD d e)) :
  ∀ j (h1:j < its.toArray.size) (h2:j < its'.toArray.size),SeqAt.EqAt A s its.toArray[j] its'.toArray[j] (eqD (ds.getD j .non) (es.getD j .non)):=fun j h1 h2=>by
 have e1:=r.length
 have e2:=r'.length
 have h1':j < its.length:=by simpa using h1
 have h2':j < its'.length:=by simpa using h2
 have b1:j < vs.length:=by lia
 have b2:j < vs'.length:=by lia
 have b3:j < ds.length:=by lia
 have b4:j < es.length:=by lia
 obtain ⟨u,hu,ru⟩:=r.get (i:=j) (x:=vs[j]) (by simp)
 obtain ⟨u',hu',ru'⟩:=r'.get (i:=j) (x:=vs'[j]) (by simp)
 have q:=f j _ (ds[j]) _ (es[j]) u u' (by simp) (by simp) (by simp) (by simp) ru ru'
 have g1:its.toArray[j] = u:=by
  have:its[j]? = some (its[j]):=by simp [h1']
  rw [this] at hu
  simpa using hu
 have g2:its'.toArray[j] = u':=by
  have:its'[j]? = some (its'[j]):=by simp [h2']
  rw [this] at hu'
  simpa using hu'
 rw [g1,g2]
 have g3:ds.getD j .non = ds[j]:=by simp [List.getD,b3]
 have g4:es.getD j .non = es[j]:=by simp [List.getD,b4]
 rw [g3,g4]
 exact q
theorem lt0 {a n c:Nat} (h:a + n < c):a < c:=by lia
theorem lt1 {a n c:Nat} (h:a + (n + 1) < c):a + 1 + n < c:=by lia
theorem Ia (hok:HOk P w H s.heap) {x:V} {d:D} (r:RepA N H x d):∀ {A:Around} {n:Nat} {y:V} {e:D} {v u:Value},RepA N' H y e→RelV x v→RelV y u→Sh n d→A.units + n < cLine→SeqAt.EqAt A s v u (eqD d e):=by
 induction r with
 | non =>
  intro A n y e v u q rx ry _ hu
  cases rx
  cases q with
  | non=>cases ry; exact SeqAt.EqAt.same _
  | bl b=>cases ry; exact SeqAt.EqAt.none_bool b
  | int b=>obtain ⟨t,rfl⟩:=ry; exact SeqAt.EqAt.none_int b t
  | str b=>obtain ⟨t,rfl⟩:=ry; exact SeqAt.EqAt.none_str b t
  | lst h=>cases ry; obtain ⟨its,_,hl⟩:=Bf hok h; exact SeqAt.EqAt.none_list hl (lt0 hu)
  | tup h=>cases ry; obtain ⟨its,_,hl⟩:=Bw hok h; exact SeqAt.EqAt.none_tuple hl (lt0 hu)
 | bl a =>
  intro A n y e v u q rx ry _ hu
  cases rx
  cases q with
  | non=>cases ry; exact SeqAt.EqAt.bool_none a
  | bl b=>cases ry; exact SeqAt.EqAt.bool_bool a b
  | int b=>obtain ⟨t,rfl⟩:=ry; exact SeqAt.EqAt.bool_int a b t
  | str b=>obtain ⟨t,rfl⟩:=ry; exact SeqAt.EqAt.bool_str a b t
  | lst h=>cases ry; obtain ⟨its,_,hl⟩:=Bf hok h; exact SeqAt.EqAt.bool_list a hl (lt0 hu)
  | tup h=>cases ry; obtain ⟨its,_,hl⟩:=Bw hok h; exact SeqAt.EqAt.bool_tuple a hl (lt0 hu)
 | int a =>
  intro A n y e v u q rx ry _ hu
  obtain ⟨t',rfl⟩:=rx
  cases q with
  | non=>cases ry; exact SeqAt.EqAt.int_none a t'
  | bl b=>cases ry; exact SeqAt.EqAt.int_bool a t' b
  | int b=>obtain ⟨t,rfl⟩:=ry; exact SeqAt.EqAt.int_int a t' b t
  | str b=>obtain ⟨t,rfl⟩:=ry; exact SeqAt.EqAt.int_str a t' b t
  | lst h=>cases ry; obtain ⟨its,_,hl⟩:=Bf hok h; exact SeqAt.EqAt.int_list a t' hl (lt0 hu)
  | tup h=>cases ry; obtain ⟨its,_,hl⟩:=Bw hok h; exact SeqAt.EqAt.int_tuple a t' hl (lt0 hu)
 | str a =>
  intro A n y e v u q rx ry _ hu
  obtain ⟨t',rfl⟩:=rx
  cases q with
  | non=>cases ry; exact SeqAt.EqAt.str_none a t'
  | bl b=>cases ry; exact SeqAt.EqAt.str_bool a t' b
  | int b=>obtain ⟨t,rfl⟩:=ry; exact SeqAt.EqAt.str_int a t' b t
  | str b=>obtain ⟨t,rfl⟩:=ry; exact SeqAt.EqAt.str_str a t' b t
  | lst h=>cases ry; obtain ⟨its,_,hl⟩:=Bf hok h; exact SeqAt.EqAt.str_list a t' hl (lt0 hu)
  | tup h=>cases ry; obtain ⟨its,_,hl⟩:=Bw hok h; exact SeqAt.EqAt.str_tuple a t' hl (lt0 hu)
 | @lst a vs ds h hz hn hl hr ih =>
  intro A n y e v u q rx ry hs hu
  cases rx
  obtain ⟨its,rv,hil⟩:=Bf hok h
  cases hs with
  | @lst n _ hs =>
   cases q with
   | non=>cases ry; exact SeqAt.EqAt.list_none hil (lt0 hu)
   | bl b=>cases ry; exact SeqAt.EqAt.list_bool b hil (lt0 hu)
   | int b=>obtain ⟨t,rfl⟩:=ry; exact SeqAt.EqAt.list_int b t hil (lt0 hu)
   | str b=>obtain ⟨t,rfl⟩:=ry; exact SeqAt.EqAt.list_str b t hil (lt0 hu)
   | @lst a' vs' es h' hz' hn' hl' hr' =>
    cases ry
    by_cases hab:a = a'
    ·subst hab
     have e:=(RepA.lst h hz hn hl hr).inj (RepA.lst h' hz' hn' hl' hr')
     cases e
     rw [Ei]
     exact SeqAt.EqAt.same _
    ·obtain ⟨its',rv',hil'⟩:=Bf hok h'
     have l1:=rv.length
     have l2:=rv'.length
     refine SeqAt.EqAt.of_refs hab ?_
     rw [F6]
     by_cases hlen:ds.length = es.length
     ·rw [Dn hlen,show ds.length = its.toArray.size by simp; lia]
      refine SeqAt.RcAt.lists hil hil' (by simp; lia) (lt0 hu) (DT rv rv' hl hl' fun i v d v' e u u' e1 e2 e3 e4 ru ru'=>?_)
      exact ih i v d e1 e2 (hr' i v' e e3 e4) ru ru' (hs d (List.mem_of_getElem? e2)) (lt1 hu)
     ·have:Dy ds es = false:=by
       cases q:Dy ds es with
       | false=>rfl
       | true=>exact absurd (Dp q) hlen
      rw [this]
      exact SeqAt.RcAt.lists_lengths hil hil' (by simp; lia) (lt0 hu)
   | tup h' =>
    cases ry
    obtain ⟨its',_,hl'⟩:=Bw hok h'
    exact SeqAt.EqAt.list_tuple hil hl' (lt0 hu)
 | @tup a vs ds h hz hl hr ih =>
  intro A n y e v u q rx ry hs hu
  cases rx
  obtain ⟨its,rv,hil⟩:=Bw hok h
  cases hs with
  | @tup n _ hs =>
   cases q with
   | non=>cases ry; exact SeqAt.EqAt.tuple_none hil (lt0 hu)
   | bl b=>cases ry; exact SeqAt.EqAt.tuple_bool b hil (lt0 hu)
   | int b=>obtain ⟨t,rfl⟩:=ry; exact SeqAt.EqAt.tuple_int b t hil (lt0 hu)
   | str b=>obtain ⟨t,rfl⟩:=ry; exact SeqAt.EqAt.tuple_str b t hil (lt0 hu)
   | @tup a' vs' es h' hz' hl' hr' =>
    cases ry
    by_cases hab:a = a'
    ·subst hab
     have e:=(RepA.tup (N:=N) h hz hl hr).inj (RepA.tup h' hz' hl' hr')
     cases e
     rw [Ei]
     exact SeqAt.EqAt.same _
    ·obtain ⟨its',rv',hil'⟩:=Bw hok h'
     have l1:=rv.length
     have l2:=rv'.length
     refine SeqAt.EqAt.of_refs hab ?_
     have q:=SeqAt.RcAt.tuples (A:=A) hil hil' (lt0 hu) (DT rv rv' hl hl' fun i v d v' e u u' e1 e2 e3 e4 ru ru'=>ih i v d e1 e2 (hr' i v' e e3 e4) ru ru' (hs d (List.mem_of_getElem? e2)) (lt1 hu))
     rw [F7]
     by_cases hlen:ds.length = es.length
     ·have e1:(its.toArray.size == its'.toArray.size) = true:=by simp; lia
      have e2:min its.toArray.size its'.toArray.size = ds.length:=by simp; lia
      rw [e1,e2,Bool.and_true,← Dn hlen] at q
      exact q
     ·have e1:(its.toArray.size == its'.toArray.size) = false:=by simp; lia
      have e3:Dy ds es = false:=by
       cases q:Dy ds es with
       | false=>rfl
       | true=>exact absurd (Dp q) hlen
      rw [e1,Bool.and_false] at q
      rw [e3]
      exact q
   | lst h' =>
    cases ry
    obtain ⟨its',_,hl'⟩:=Bf hok h'
    exact SeqAt.EqAt.tuple_list hil hl' (lt0 hu)
theorem QE (hok:HOk P w H s.heap) {A:Around} {n:Nat} {x y:V} {d e:D} {v u:Value} (r:RepA N H x d) (q:RepA N' H y e) (rx:RelV x v) (ry:RelV y u) (hs:Sh n d) (hu:A.units + n < cLine):SeqAt.RcAt A s v u (eqD d e):=by
 cases r with
 | non =>
  cases rx
  cases q with
  | non=>cases ry; exact SeqAt.RcAt.none_none
  | bl b=>cases ry; exact SeqAt.RcAt.none_bool b
  | int b=>obtain ⟨t,rfl⟩:=ry; exact SeqAt.RcAt.none_int b t
  | str b=>obtain ⟨t,rfl⟩:=ry; exact SeqAt.RcAt.none_str b t
  | lst h=>cases ry; obtain ⟨its,_,hl⟩:=Bf hok h; exact SeqAt.RcAt.none_list hl (lt0 hu)
  | tup h=>cases ry; obtain ⟨its,_,hl⟩:=Bw hok h; exact SeqAt.RcAt.none_tuple hl (lt0 hu)
 | bl a =>
  cases rx
  cases q with
  | non=>cases ry; exact SeqAt.RcAt.bool_none a
  | bl b=>cases ry; exact SeqAt.RcAt.bool_bool a b
  | int b=>obtain ⟨t,rfl⟩:=ry; exact SeqAt.RcAt.bool_int a b t
  | str b=>obtain ⟨t,rfl⟩:=ry; exact SeqAt.RcAt.bool_str a b t
  | lst h=>cases ry; obtain ⟨its,_,hl⟩:=Bf hok h; exact SeqAt.RcAt.bool_list a hl (lt0 hu)
  | tup h=>cases ry; obtain ⟨its,_,hl⟩:=Bw hok h; exact SeqAt.RcAt.bool_tuple a hl (lt0 hu)
 | int a =>
  obtain ⟨t',rfl⟩:=rx
  cases q with
  | non=>cases ry; exact SeqAt.RcAt.int_none a t'
  | bl b=>cases ry; exact SeqAt.RcAt.int_bool a t' b
  | int b=>obtain ⟨t,rfl⟩:=ry; exact SeqAt.RcAt.int_int a t' b t
  | str b=>obtain ⟨t,rfl⟩:=ry; exact SeqAt.RcAt.int_str a t' b t
  | lst h=>cases ry; obtain ⟨its,_,hl⟩:=Bf hok h; exact SeqAt.RcAt.int_list a t' hl (lt0 hu)
  | tup h=>cases ry; obtain ⟨its,_,hl⟩:=Bw hok h; exact SeqAt.RcAt.int_tuple a t' hl (lt0 hu)
 | str a =>
  obtain ⟨t',rfl⟩:=rx
  cases q with
  | non=>cases ry; exact SeqAt.RcAt.str_none a t'
  | bl b=>cases ry; exact SeqAt.RcAt.str_bool a t' b
  | int b=>obtain ⟨t,rfl⟩:=ry; exact SeqAt.RcAt.str_int a t' b t
  | str b=>obtain ⟨t,rfl⟩:=ry; exact SeqAt.RcAt.str_str a t' b t
  | lst h=>cases ry; obtain ⟨its,_,hl⟩:=Bf hok h; exact SeqAt.RcAt.str_list a t' hl (lt0 hu)
  | tup h=>cases ry; obtain ⟨its,_,hl⟩:=Bw hok h; exact SeqAt.RcAt.str_tuple a t' hl (lt0 hu)
 | @lst a vs ds h hz hn hl hr =>
  cases rx
  obtain ⟨its,rv,hil⟩:=Bf hok h
  cases hs with
  | @lst n _ hs =>
   cases q with
   | non=>cases ry; exact SeqAt.RcAt.list_none hil (lt0 hu)
   | bl b=>cases ry; exact SeqAt.RcAt.list_bool b hil (lt0 hu)
   | int b=>obtain ⟨t,rfl⟩:=ry; exact SeqAt.RcAt.list_int b t hil (lt0 hu)
   | str b=>obtain ⟨t,rfl⟩:=ry; exact SeqAt.RcAt.list_str b t hil (lt0 hu)
   | @lst a' vs' es h' hz' hn' hl' hr' =>
    cases ry
    obtain ⟨its',rv',hil'⟩:=Bf hok h'
    have l1:=rv.length
    have l2:=rv'.length
    rw [F6]
    by_cases hlen:ds.length = es.length
    ·rw [Dn hlen,show ds.length = its.toArray.size by simp; lia]
     refine SeqAt.RcAt.lists hil hil' (by simp; lia) (lt0 hu) (DT rv rv' hl hl' fun i v d v' e u u' e1 e2 e3 e4 ru ru'=>?_)
     exact Ia hok (hr i v d e1 e2) (hr' i v' e e3 e4) ru ru' (hs d (List.mem_of_getElem? e2)) (lt1 hu)
    ·have:Dy ds es = false:=by
      cases q:Dy ds es with
      | false=>rfl
      | true=>exact absurd (Dp q) hlen
     rw [this]
     exact SeqAt.RcAt.lists_lengths hil hil' (by simp; lia) (lt0 hu)
   | tup h' =>
    cases ry
    obtain ⟨its',_,hl'⟩:=Bw hok h'
    exact SeqAt.RcAt.list_tuple hil hl' (lt0 hu)
 | @tup a vs ds h hz hl hr =>
  cases rx
  obtain ⟨its,rv,hil⟩:=Bw hok h
  cases hs with
  | @tup n _ hs =>
   cases q with
   | non=>cases ry; exact SeqAt.RcAt.tuple_none hil (lt0 hu)
   | bl b=>cases ry; exact SeqAt.RcAt.tuple_bool b hil (lt0 hu)
   | int b=>obtain ⟨t,rfl⟩:=ry; exact SeqAt.RcAt.tuple_int b t hil (lt0 hu)
   | str b=>obtain ⟨t,rfl⟩:=ry; exact SeqAt.RcAt.tuple_str b t hil (lt0 hu)
   | @tup a' vs' es h' hz' hl' hr' =>
    cases ry
    obtain ⟨its',rv',hil'⟩:=Bw hok h'
    have l1:=rv.length
    have l2:=rv'.length
    have q:=SeqAt.RcAt.tuples (A:=A) hil hil' (lt0 hu) (DT rv rv' hl hl' fun i v d v' e u u' e1 e2 e3 e4 ru ru'=>Ia hok (hr i v d e1 e2) (hr' i v' e e3 e4) ru ru' (hs d (List.mem_of_getElem? e2)) (lt1 hu))
    rw [F7]
    by_cases hlen:ds.length = es.length
    ·have e1:(its.toArray.size == its'.toArray.size) = true:=by simp; lia
     have e2:min its.toArray.size its'.toArray.size = ds.length:=by simp; lia
     rw [e1,e2,Bool.and_true,← Dn hlen] at q
     exact q
    ·have e1:(its.toArray.size == its'.toArray.size) = false:=by simp; lia
     have e3:Dy ds es = false:=by
      cases q:Dy ds es with
      | false=>rfl
      | true=>exact absurd (Dp q) hlen
     rw [e1,Bool.and_false] at q
     rw [e3]
     exact q
   | lst h' =>
    cases ry
    obtain ⟨its',_,hl'⟩:=Bf hok h'
    exact SeqAt.RcAt.tuple_list hil hl' (lt0 hu)
end
section
variable {X:Cx} {k:Nat}
theorem BD (hr:Room k X.A):OpR X (compareOp .Eq) (fun x y H Q=>∃ d e,Rep H x d∧Rep H y e∧Sh 16 d∧Q (.bl (eqD d e)) H):=by
 intro pins s σ H x y v u Q I rx ry h
 obtain ⟨d,e,r1,r2,hs,q⟩:=h
 exact EqBoolInt.of_rc (QE I.hok r1 r2 rx ry hs (by have:=hr.units; lia)) ⟨.bl _,H,I,rfl,q⟩
end
structure FlyAt (P:Program) (w:World) (outer:List Env) (H:Hp) (s:Shared) (a C:Addr) (a0:Value) (B:Heap) (H':Hp) (s':Shared):Prop where
 os:s'.os = s.os
 bare:AllBare s'.gens
 fly:Heap.FlyingW B outer a (.ref C) a0 s'.heap
 keep:∀ b o,s.heap.get? b = some o→H b = none→b ∉ frs outer→B.get? b = some o
 slot:∀ b o,s.heap.get? b = some o→H b = none→b∈frs outer→∃ sl,s'.heap.get? b = some { o with slots:=sl }
 free:∀ b o,s.heap.get? b = some o→H b = none→H' b = none
 there:∀ b o,s.heap.get? b = some o→b ∉ frs outer→∃ o',B.get? b = some o'
 tups:∀ b xs,H b = some (.tup xs)→H' b = some (.tup xs)
 frzs:∀ b o u,H b = some (.frz o u)→H' b = some (.frz o u)
 tbls:∀ b ps,H b = some (.tbl ps)→∃ more,H' b = some (.tbl (ps ++ more))
 hok:HOk P w H' B
 pl:A8 s'.heap a
noncomputable def Fly (P:Program) (w:World):CXT:=fun outer H s E e s'=>∃ (a C:Addr) (a0:Value) (B:Heap) (H':Hp),e = .ref a∧FlyAt P w outer H s a C a0 B H' s'∧E (.ref C) none H'
theorem CU {h base:Heap} {l:List Env} (F:h.FunFrames base l) {b:Addr} (hb:b∈frs l) {o:Obj} (e:h.get? b = some o):∀ vs,o.data ≠ .fields vs:=by
 obtain ⟨_,o',e',d⟩:=F.mem hb
 rw [e] at e'; cases e'
 exact d
theorem Fb {env:Env} {l:List Env} {L:Addr} (h:env.frame = some L):frs (env :: l) = L :: frs l:=by
 unfold frs
 rw [List.filterMap_cons,h]
section
variable {P:Program} {w:World} {K:Frag} {mg:Str→Option Value} {base:Heap} {N:List Str} {qual:Str} {scope:Scope} {f:Addr} {cd:Value} {A:Around} {outer:List Env} {s:Shared} {H:Hp} {E E':XK}
theorem Jo (hE:∀ c d H',E' c d H'→E c d H'):Passes (Fly P w) (A5 (Fly P w) P w K mg base N qual scope f cd A outer s H E) E':=by
 intro pins σ H1 s1 e s' I fl
 obtain ⟨a,C,a0,B,H',rfl,F,q⟩:=fl
 have lt:∀ {b:Addr} {o:Obj},s.heap.get? b = some o→b≠s.heap.objs.size:=fun e=>Nat.ne_of_lt (Heap.lt_size e)
 have hfs:frs (envOfC qual scope s.heap.objs.size f cd :: outer) = s.heap.objs.size :: frs outer:=Fb rfl
 have nex:∀ b:Addr,b ∉ (A5 (Fly P w) P w K mg base N qual scope f cd A outer s H E).ex:=fun b z=>absurd (show b∈([]:List Addr) from z) (by simp)
 have u:=I.base
 show wpAny (model P w) (A.deeper (envOfC qual scope s.heap.objs.size f cd)) (leaving (envOfC qual scope s.heap.objs.size f cd) (.ref a)) _ _ s'
 refine Fi (L:=s.heap.objs.size) I.ok.frames rfl F.fly F.pl fun h' fl' sm pl=>?_
 refine ⟨a,C,a0,B,H',rfl,⟨F.os.trans I.os,F.bare,fl',fun b o e n hb=>?_,fun b o e n hb=>?_,fun b o e n=>?_,fun b o e hb=>?_,fun b xs e=>F.tups b xs (u.tups b xs e),fun b o v e=>F.frzs b o v (u.frzs b o v e),fun b ps e=>?_,F.hok,pl⟩,hE _ _ _ q⟩
 ·refine F.keep b o (u.keep b o e n hb (nex b)) (u.free b o e n (nex b)) ?_
  show b ∉ frs (envOfC qual scope s.heap.objs.size f cd :: outer)
  rw [hfs]
  exact fun z=>(List.mem_cons.mp z).elim (lt e) hb
 ·obtain ⟨sl,e1⟩:=u.slot b o e n hb (nex b)
  obtain ⟨sl',e2⟩:=F.slot b _ e1 (u.free b o e n (nex b)) (by show b∈frs (envOfC qual scope s.heap.objs.size f cd :: outer); rw [hfs]; exact List.mem_cons_of_mem _ hb)
  obtain ⟨sl3,e3⟩:=sm b { o with slots:=sl' } e2 (show ∀ vs,o.data ≠ .fields vs from CU I.ok.funs hb e)
  exact ⟨sl3,e3⟩
 ·obtain ⟨o',e1⟩:=u.there b o e (nex b)
  exact F.free b o' e1 (u.free b o e n (nex b))
 ·obtain ⟨o',e1⟩:=u.there b o e (nex b)
  refine F.there b o' e1 ?_
  show b ∉ frs (envOfC qual scope s.heap.objs.size f cd :: outer)
  rw [hfs]
  exact fun z=>(List.mem_cons.mp z).elim (lt e) hb
 ·obtain ⟨m1,e1⟩:=u.tbls b ps e
  obtain ⟨m2,e2⟩:=F.tbls b _ e1
  exact ⟨m1 ++ m2,by rw [e2,Array.append_assoc]⟩
theorem J5 {pins:List (Addr × Obj)} {σ:St} {H1:Hp} {s1:Shared} {h2:Heap} {e C:Addr} {args:List Value} (I:Inv (A5 (Fly P w) P w K mg base N qual scope f cd A outer s H E) pins σ H1 s1)
  (hm:Heap.MadeExcOf s1.heap h2 e (.ref C) args) (q:E (.ref C) none H1):(A5 (Fly P w) P w K mg base N qual scope f cd A outer s H E).xe (.ref e) { s1 with heap:=h2 }:=by
 have lt:∀ {b:Addr} {o:Obj},s.heap.get? b = some o→b≠s.heap.objs.size:=fun e=>Nat.ne_of_lt (Heap.lt_size e)
 have hfs:frs (envOfC qual scope s.heap.objs.size f cd :: outer) = s.heap.objs.size :: frs outer:=Fb rfl
 have nex:∀ b:Addr,b ∉ (A5 (Fly P w) P w K mg base N qual scope f cd A outer s H E).ex:=fun b z=>absurd (show b∈([]:List Addr) from z) (by simp)
 have u:=I.base
 have hB:∀ {b:Addr} {o:Obj},s1.heap.get? b = some o→b ∉ frs (envOfC qual scope s.heap.objs.size f cd :: outer)→(PySem.W.hideAll s1.heap (frs (envOfC qual scope s.heap.objs.size f cd :: outer))).get? b = some o:=fun e n=>PySem.W.hideAll_get _ e n
 show wpAny (model P w) (A.deeper (envOfC qual scope s.heap.objs.size f cd)) (leaving (envOfC qual scope s.heap.objs.size f cd) (.ref e)) _ _ _
 refine Jg (L:=s.heap.objs.size) (base:=PySem.W.hideAll s1.heap (frs (envOfC qual scope s.heap.objs.size f cd :: outer))) (h:=s1.heap) (s:={ s1 with heap:=h2 }) I.ok.frames rfl (fun b o e=>PySem.W.of_hideAll _ e)
  (PySem.W.funFrames_hide I.stack fun env he b hb=>List.mem_filterMap.mpr ⟨env,he,hb⟩) hm fun h' t fl' sm pl=>?_
 refine ⟨e,C,.ref t,_,H1,rfl,⟨I.os,I.bare,fl',fun b o e n hb=>?_,fun b o e n hb=>?_,fun b o e n=>u.free b o e n (nex b),fun b o e hb=>?_,u.tups,u.frzs,u.tbls,fun b o e=>?_,pl⟩,q⟩
 ·refine hB (u.keep b o e n hb (nex b)) ?_
  rw [hfs]
  exact fun z=>(List.mem_cons.mp z).elim (lt e) hb
 ·obtain ⟨sl,e1⟩:=u.slot b o e n hb (nex b)
  obtain ⟨sl3,e3⟩:=sm b { o with slots:=sl } (hm.keeps b { o with slots:=sl } e1) (show ∀ vs,o.data ≠ .fields vs from CU I.ok.funs hb e)
  exact ⟨sl3,e3⟩
 ·obtain ⟨o',e1⟩:=u.there b o e (nex b)
  exact ⟨o',hB e1 (by rw [hfs]; exact fun z=>(List.mem_cons.mp z).elim (lt e) hb)⟩
 ·refine (I.hok b o e).stay (fun c w' hc q=>hB q fun z=>?_) (fun _ q=>q) fun _ _ q=>q
  have n:H1 c = none:=I.stkFree c z
  rcases hc with rfl | hc
  ·rw [n] at e; cases e
  ·rw [n] at hc; cases hc
end
noncomputable def NG:List Value:=[.type "ValueError",.type "Exception",.type "BaseException",.type "object"]
theorem KP {K:Frag} {h:Heap} {C:Addr} {bmB:List Value} {newId:String} (X:K.In h) (q:PySem.W.excIn K C bmB newId = true) :
  ∃ bm N nm qn bs hdct sn sub ab col dd k0 k1 k2 k3 k5 mN,h.get? C = some (excClassObj nm qn C N bs bm hdct sn sub ab col dd k0 k1 k2 k3 k5 newId)∧h.Ns N mN∧mN "__init__" = none∧OwnTail h bmB bm:=by
 unfold PySem.W.excIn at q
 split at q
 ·rename_i dd cd sl ho
  split at q
  ·rename_i C' bm k0 k1 k2 k3 n k5 hm hs
   simp only [Bool.and_eq_true,beq_iff_eq,Bool.not_eq_true'] at q
   obtain ⟨⟨⟨⟨⟨rfl,rfl⟩,hdel⟩,ht⟩,hok⟩,hni⟩:=q
   obtain ⟨nm,bs,mro,ns,qn,hd,sn,sub,ab,col,del⟩:=cd
   dsimp only at hm hdel hok hni
   subst hm hdel
   have hsl:sl = #[k0,k1,k2,k3,some (.builtin n),k5]:=by
    obtain ⟨l⟩:=sl
    simp only at hs
    rw [hs]
   subst hsl
   exact ⟨bm,ns,nm,qn,bs,hd,sn,sub,ab,col,dd,k0,k1,k2,k3,k5,_,X _ _ ho,.of_isNs (PySem.W.isNs_of_in X hok),PySem.W.nsMap_none_of_in X hok hni,PySem.W.tail_of_in X ht⟩
  ·cases q
 ·cases q
structure Exc (K:Frag) (mg:Str→Option Value) (x:Str) (C:Addr):Prop where
 at_:mg x = some (.ref C)
 own:PySem.W.excIn K C NG "ValueError.__new__" = true
section
variable {P:Program} {w:World} {K:Frag} {mg:Str→Option Value} {base:Heap} {N:List Str} {qual:Str} {scope:Scope} {f:Addr} {cd:Value} {A:Around} {outer:List Env} {s:Shared} {H:Hp} {E:XK}
noncomputable def Kx (E:XK) (C:Addr) (ta:TA):TS:=fun _ σ H=>ta σ H fun vs H1=>vs.length≤sizeLine∧E (.ref C) none H1
theorem Nc {x:Str} {C:Addr} {np cpos pos:Pos} {e:Expr} {es:List Expr} {ta:TA} (X:Exc K mg x C) (hh:A.handled = none)
  (ha:PA (A5 (Fly P w) P w K mg base N qual scope f cd A outer s H E) (e :: es) ta)
  (hg:Gl (A5 (Fly P w) P w K mg base N qual scope f cd A outer s H E) x:=by rfl) (hdb:(x == ("__debug__" : Str)) = false:=by decide +kernel)
  (he:starEach (e :: es) (A5 (Fly P w) P w K mg base N qual scope f cd A outer s H E).env = (false,eval e (A5 (Fly P w) P w K mg base N qual scope f cd A outer s H E).env) :: starEach es (A5 (Fly P w) P w K mg base N qual scope f cd A outer s H E).env:=by rfl)
  (hpl:(backTo cpos (starEach es (A5 (Fly P w) P w K mg base N qual scope f cd A outer s H E).env)).any (·.1) = false:=by rfl) :
  PS (A5 (Fly P w) P w K mg base N qual scope f cd A outer s H E) (.Raise (some (.Call (.Name x np) (e :: es) [] cpos)) none pos) (Kx E C ta):=by
 intro pins s1 σ H1 D I h
 obtain ⟨bm,Nn,nm,qn,bs,hdct,sn,sub,ab,col,dd,k0,k1,k2,k3,k5,mN,hC,hN,hni,T⟩:=KP I.mod.kin X.own
 refine wpAny_Raise_call_subU (C:=C) (nm:=nm) (q:=qn) (N:=Nn) (bs:=bs) (bm:=bm) (hdct:=hdct) (sn:=sn) (sub:=sub) (ab:=ab) (col:=col) (dd:=dd) (k0:=k0) (k1:=k1) (k2:=k2) (k3:=k3) (k5:=k5)
  PySem.F.excBase_ValueError dK PySem.F.excBase_ValueError (mN:=mN) (T.hasType PySem.F.excBase_ValueError.hasBase) (show A.handled = none from hh)
  (by rw [he]; show (false || (backTo cpos (starEach es (A5 (Fly P w) P w K mg base N qual scope f cd A outer s H E).env)).any (·.1)) = false; rw [hpl]; rfl) hni (ED I hg X.at_ ⟨rfl,?_⟩ hdb)
 have hA:=ha cpos pins s1 σ H1 _ I h
 rw [he] at hA ⊢
 refine Calls.evalArgs_plain (thn hA fun us s2 ⟨vs,H2,I2,r2,hz,q2⟩=>⟨rfl,by rw [← r2.length]; exact hz,I2.bk _ _ hC,hN.keeps I2.bk,T.keeps I2.bk,fun h' e' hm=>?_⟩)
 exact J5 I2 hm q2
end
structure Blt (mg:Str→Option Value) (K:Frag):Prop where
 isinstance:mg "isinstance" = none
 len:mg "len" = none
 all:mg "all" = none
 any:mg "any" = none
 range:mg "range" = none
 list:mg "list" = none
 int:mg "int" = none
 bool:mg "bool" = none
 tuple:mg "tuple" = none
 str:mg "str" = none
 abs:mg "abs" = none
 max:mg "max" = none
 min:mg "min" = none
 dict:mg "dict" = none
section
variable {X:Cx} {x:Str} {p pos:Pos} {e:Expr} {es:List Expr} {t:TA} {id T:String} {r:List V→Hp→VK→Prop}
theorem LH (hc:Cg X (.builtin id) r) (hm:X.mg x = none) (hv:bootBuiltins x = some (.builtin id)) (hn:x ≠ "__name__") (hdb:(x == ("__debug__" : Str)) = false) (hg:Gl X x)
  (he:starEach (e :: es) X.env = (false,eval e X.env) :: starEach es X.env) (hpl:(backTo pos (starEach es X.env)).any (·.1) = false) (ha:PA X (e :: es) t):PE X (.Call (.Name x p) (e :: es) [] pos) (tCB r t):=GV hc hg hm hv ha hn hdb he hpl
theorem LI (hc:Cg X (.type T) r) (hm:X.mg x = none) (hv:bootBuiltins x = some (.type T)) (hn:x ≠ "__name__") (hdb:(x == ("__debug__" : Str)) = false) (hg:Gl X x)
  (he:starEach (e :: es) X.env = (false,eval e X.env) :: starEach es X.env) (hpl:(backTo pos (starEach es X.env)).any (·.1) = false) (ha:PA X (e :: es) t):PE X (.Call (.Name x p) (e :: es) [] pos) (tCB r t):=LJ hc hg hm hv ha hn hdb he hpl
theorem Ow {t:TE} (he:∀ whole,isTrue e X.env whole = (do let v ← whole; standAt e.pos; holding [v] (truthy v))) (h:PE X e t):PT X e (tB t):=Qy h he
end
section
variable {X:Cx} {p pos:Pos} {e:Expr} {es:List Expr} {t:TA}
noncomputable def isInt:D→Bool
 | .int _=>true
 | .bl _=>true
 | .non | .str _ | .lst _ | .tup _=>false
noncomputable def isBool:D→Bool
 | .bl _=>true
 | .non | .int _ | .str _ | .lst _ | .tup _=>false
noncomputable def Dt:D→Bool
 | .lst _=>true
 | .non | .bl _ | .int _ | .str _ | .tup _=>false
noncomputable def isTup:D→Bool
 | .tup _=>true
 | .non | .bl _ | .int _ | .str _ | .lst _=>false
noncomputable def isStr:D→Bool
 | .str _=>true
 | .non | .bl _ | .int _ | .lst _ | .tup _=>false
noncomputable def rIs (T:String) (f:D→Bool):List V→Hp→VK→Prop:=fun xs H Q=>∃ x d,xs = [x,.ty T]∧Rep H x d∧Q (.bl (f d)) H
theorem NT {T:String} {f:D→Bool} (hf:∀ d,isI (EL d) T = f d) (hT:T∈["int","bool","tuple","list","str"]):Cg X (.builtin "isinstance") (rIs T f):=by
 intro pins s σ H xs us Q I r h
 obtain ⟨x,d,rfl,rp,q⟩:=h
 exact Me pins s σ H _ us Q I r ⟨x,EL d,T,rfl,rp.typ,hT,by rw [hf]; exact q⟩
theorem NZ:∀ d,isI (EL d) "int" = isInt d:=fun d=>by cases d <;> (simp only [EL,isInt]; decide +kernel)
theorem Mx:∀ d,isI (EL d) "bool" = isBool d:=fun d=>by cases d <;> (simp only [EL,isBool]; decide +kernel)
theorem My:∀ d,isI (EL d) "list" = Dt d:=fun d=>by cases d <;> (simp only [EL,Dt]; decide +kernel)
theorem Lr:∀ d,isI (EL d) "tuple" = isTup d:=fun d=>by cases d <;> (simp only [EL,isTup]; decide +kernel)
theorem N0:∀ d,isI (EL d) "str" = isStr d:=fun d=>by cases d <;> (simp only [EL,isStr]; decide +kernel)
theorem GW {a:Expr} {ta:TE} {q:Pos} {x:Str} {T:String} {f:D→Bool} (hf:∀ d,isI (EL d) T = f d) (hT:T∈["int","bool","tuple","list","str"]) (hn:PE X (.Name x q) (tC (.ty T))) (hg:Gl X "isinstance") {K:Frag} (B:Blt X.mg K)
  (he:starEach [a,.Name x q] X.env = [(false,eval a X.env),(false,eval (.Name x q) X.env)]) (he2:starEach [.Name x q] X.env = [(false,eval (.Name x q) X.env)]) (ha:PE X a ta) :
  PE X (.Call (.Name "isinstance" p) [a,.Name x q] [] pos) (tCB (rIs T f) (CC ta (CC (tC (.ty T)) Gg))):=
 GV (NT hf hT) hg B.isinstance PyProof.Rows.Boot.«isinstance» (DE ha (DE hn FU he2) (he.trans (by rw [he2]))) dK dK (he.trans (by rw [he2])) (by rw [he2]; rfl)
theorem Qh {a:Expr} {ta:TE} {q:Pos} (hg:Gl X "isinstance") (hg2:Gl X "int") {K:Frag} (B:Blt X.mg K) (he:starEach [a,.Name "int" q] X.env = [(false,eval a X.env),(false,eval (.Name "int" q) X.env)]) (he2:starEach [.Name "int" q] X.env = [(false,eval (.Name "int" q) X.env)]) (ha:PE X a ta) :
  PE X (.Call (.Name "isinstance" p) [a,.Name "int" q] [] pos) (tCB (rIs "int" isInt) (CC ta (CC (tC (.ty "int")) Gg))):=GW NZ (by decide) (EF hg2 B.int PyProof.Rows.Boot.«int» rfl dK dK) hg B he he2 ha
theorem Qg {a:Expr} {ta:TE} {q:Pos} (hg:Gl X "isinstance") (hg2:Gl X "bool") {K:Frag} (B:Blt X.mg K) (he:starEach [a,.Name "bool" q] X.env = [(false,eval a X.env),(false,eval (.Name "bool" q) X.env)]) (he2:starEach [.Name "bool" q] X.env = [(false,eval (.Name "bool" q) X.env)]) (ha:PE X a ta) :
  PE X (.Call (.Name "isinstance" p) [a,.Name "bool" q] [] pos) (tCB (rIs "bool" isBool) (CC ta (CC (tC (.ty "bool")) Gg))):=GW Mx (by decide) (EF hg2 B.bool PyProof.Rows.Boot.«bool» rfl dK dK) hg B he he2 ha
theorem Qi {a:Expr} {ta:TE} {q:Pos} (hg:Gl X "isinstance") (hg2:Gl X "list") {K:Frag} (B:Blt X.mg K) (he:starEach [a,.Name "list" q] X.env = [(false,eval a X.env),(false,eval (.Name "list" q) X.env)]) (he2:starEach [.Name "list" q] X.env = [(false,eval (.Name "list" q) X.env)]) (ha:PE X a ta) :
  PE X (.Call (.Name "isinstance" p) [a,.Name "list" q] [] pos) (tCB (rIs "list" Dt) (CC ta (CC (tC (.ty "list")) Gg))):=GW My (by decide) (EF hg2 B.list PyProof.Rows.Boot.«list» rfl dK dK) hg B he he2 ha
theorem Qj {a:Expr} {ta:TE} {q:Pos} (hg:Gl X "isinstance") (hg2:Gl X "tuple") {K:Frag} (B:Blt X.mg K) (he:starEach [a,.Name "tuple" q] X.env = [(false,eval a X.env),(false,eval (.Name "tuple" q) X.env)]) (he2:starEach [.Name "tuple" q] X.env = [(false,eval (.Name "tuple" q) X.env)]) (ha:PE X a ta) :
  PE X (.Call (.Name "isinstance" p) [a,.Name "tuple" q] [] pos) (tCB (rIs "tuple" isTup) (CC ta (CC (tC (.ty "tuple")) Gg))):=GW Lr (by decide) (EF hg2 B.tuple PyProof.Rows.Boot.«tuple» rfl dK dK) hg B he he2 ha
theorem Qk {a:Expr} {ta:TE} {q:Pos} (hg:Gl X "isinstance") (hg2:Gl X "str") {K:Frag} (B:Blt X.mg K) (he:starEach [a,.Name "str" q] X.env = [(false,eval a X.env),(false,eval (.Name "str" q) X.env)]) (he2:starEach [.Name "str" q] X.env = [(false,eval (.Name "str" q) X.env)]) (ha:PE X a ta) :
  PE X (.Call (.Name "isinstance" p) [a,.Name "str" q] [] pos) (tCB (rIs "str" isStr) (CC ta (CC (tC (.ty "str")) Gg))):=GW N0 (by decide) (EF hg2 B.str PyProof.Rows.Boot.«str» rfl dK dK) hg B he he2 ha
noncomputable def Sm (K:Frag):List V→Hp→VK→Prop:=fun xs H Q=>∃ p bs,xs = [.ref p]∧SqL K H p (Fv bs)∧Q (.bl (bs.all id)) H
noncomputable def RP (K:Frag):List V→Hp→VK→Prop:=fun xs H Q=>(∃ p ys,xs = [.ref p]∧(SqL K H p ys∨SqT K H p ys)∧Q (.int ys.length) H)∨∃ z,xs = [.str z]∧z.length≤sizeLine∧Q (.int z.length) H
end
section
variable {X:Cx} {a b c e:Expr} {ta tb tc:TE} {p pos:Pos} {es:List Expr} {t:TA} {x:Str}
theorem LF:OpR X (compareOp .LtE) (fun x y H Q=>∃ i j,x = .str i∧y = .str j∧Q (.bl (!decide (j.cps.toList < i.cps.toList))) H):=by
 intro pins s σ H x y v u Q I rx ry h
 obtain ⟨i,j,rfl,rfl,q⟩:=h
 obtain ⟨t,rfl⟩:=rx
 obtain ⟨t',rfl⟩:=ry
 exact PySem.P.le_str (Mm I q rfl)
noncomputable def Sn:R2:=fun x y H Q=>∃ d e,Rep H x d∧Rep H y e∧Sh 16 d∧Q (.bl (eqD d e)) H
noncomputable def O6:R2:=fun x y H Q=>(∃ i j,x = .int i∧y = .int j∧Q (.bl (decide (i < j))) H)∨∃ i j,x = .str i∧y = .str j∧Q (.bl (decide (i.cps.toList < j.cps.toList))) H
noncomputable def O5:R2:=fun x y H Q=>(∃ i j,x = .int i∧y = .int j∧Q (.bl (decide (i≤j))) H)∨∃ i j,x = .str i∧y = .str j∧Q (.bl (!decide (j.cps.toList < i.cps.toList))) H
theorem EE:OpR X (compareOp .Lt) O6:=RB.or LG
theorem De:OpR X (compareOp .LtE) O5:=RA.or LF
noncomputable def PEc (X:Cx) (own:List Str) (scope:Scope) (e:Expr) (t:TE):Prop:=∀ C s H fp pins,PE (cxC X own scope C s H fp pins) e t
noncomputable def PTc (X:Cx) (own:List Str) (scope:Scope) (ifs:List Expr) (t:TT):Prop:=∀ C s H fp pins,PTs (cxC X own scope C s H fp pins) ifs t
structure Names (N:List Str):Prop where
 nd:N.Nodup
theorem Qm {scope:Scope} {iter elt:Expr} {ifs:List Expr} {px:Pos} {wi:TI} {tt:TT} {te:TE} (hok:BX [x] X.N scope X.env.scope = true) (hc:X.calm = true) {NN:List Str} (hn:Names NN) (hX:X.N = NN) (hx:scope.names.lookup x = some .local)
  (hs:∀ z,foldedSetIterable iter X.env z = pure z) (hi:PI X (.Name x px) iter wi) (ht:PTc X [x] scope ifs tt) (he:PEc X [x] scope elt te) :
  PE X (.ListComp elt [⟨.Name x px,iter,ifs,0⟩] scope pos) (tLc wi OV tt te):=by
 have hnx:∀ y∈X.N,x≠y:=fun y hy z=>by
  simp only [BX,Bool.and_eq_true,List.all_eq_true] at hok
  have:=hok.2 x (by simp)
  rw [z] at this
  simp [hy] at this
 exact RH hc hok hi (fun C s H fp pins=>GX rfl (List.nodup_cons.mpr ⟨fun z=>hnx x z rfl,by rw [hX]; exact hn.nd⟩) (lookup_relabel_local hx)) ht he hs
structure GInt (mg:Str→Option Value) (x:Str) (n:Int):Prop where
 at_:∃ t,mg x = some (.int n t)
theorem Ol {mg:Str→Option Value} {n:Int} (G:GInt mg x n) (hm:X.mg = mg) (hg:Gl X x) (hd:(x == ("__debug__" : Str)) = false):PE X (.Name x pos) (tC (.int n)):=by
 subst hm
 obtain ⟨t,e⟩:=G.at_
 exact K4 hg e ⟨t,rfl⟩ hd
end
section
variable {P:Program} {w:World} {K:Frag} {mg:Str→Option Value} {base:Heap}
theorem Fun.okF {x qual:Str} {st:Stmt} {f:Addr} {fd:FuncData} {N ps:List Str} {k:Nat} {sp:Sp} (F:Fun K x qual st f fd) (S:FnScope N ps (Aq st)) (len:∀ vs H Q E,sp vs H Q E→vs.length = ps.length)
  (hbody:∀ (cdv:Value) (A:Around) (outer:List Env) (s:Shared) (H:Hp) (vs:List V) (Q:VK) (E:XK),Room k (A.deeper (envOfC qual (Aq st) s.heap.objs.size f cdv))→sp vs H Q E →
   ∃ t,PSs (A5 (Fly P w) P w K mg base N qual (Aq st) f cdv A outer s H E) (BU st) t∧t { nx:=fun _ H'=>Q .non H',rt:=Q } (start N vs) H):FnOk P w K mg base (Fly P w) (k + 1) f fd ps sp:=by
 obtain ⟨oc,od,kV,doc,pm,an,cdv,ct,osl,rfl,lk,hcd⟩:=F.ex
 exact Mo lk hcd S len fun A outer s H vs Q E hr hsp=>hbody cdv A outer s H vs Q E hr hsp
theorem LN {N:List Str} {qual:Str} {scope:Scope} {f:Addr} {cd:Value} {A:Around} {outer:List Env} {s:Shared} {H:Hp} {E:XK} {x:Str} {C:Addr} {np cpos pos:Pos} {e:Expr} {es:List Expr} {ta:TA} {k:Nat} (X:Exc K mg x C)
  (hr:Room k (A.deeper (envOfC qual scope s.heap.objs.size f cd)))
  (hg:Gl (A5 (Fly P w) P w K mg base N qual scope f cd A outer s H E) x) (hdb:(x == ("__debug__" : Str)) = false)
  (he:starEach (e :: es) (A5 (Fly P w) P w K mg base N qual scope f cd A outer s H E).env = (false,eval e (A5 (Fly P w) P w K mg base N qual scope f cd A outer s H E).env) :: starEach es (A5 (Fly P w) P w K mg base N qual scope f cd A outer s H E).env)
  (hpl:(backTo cpos (starEach es (A5 (Fly P w) P w K mg base N qual scope f cd A outer s H E).env)).any (·.1) = false)
  (ha:PA (A5 (Fly P w) P w K mg base N qual scope f cd A outer s H E) (e :: es) ta) :
  PS (A5 (Fly P w) P w K mg base N qual scope f cd A outer s H E) (.Raise (some (.Call (.Name x np) (e :: es) [] cpos)) none pos) (Kx E C ta):=Nc X hr.hd ha hg hdb he hpl
end
noncomputable def glue (ys:List Str):Str:=⟨(ys.map fun y=>y.cps.toList).flatten.toArray⟩
section
variable {X:Cx} {a e:Expr} {ta te:TE} {apos cpos:Pos}
end
section
variable {X:Cx} {p pos:Pos} {e:Expr} {es:List Expr} {t:TA}
noncomputable def OA (K:Frag):List V→Hp→VK→Prop:=fun xs H Q=>∃ p ys,xs = [.ref p]∧(SqL K H p ys∨SqT K H p ys)∧∀ l,H l = none→Q (.ref l) (upd H l (.lst ys))
end
end L2
end
section
namespace J
open PySem L2
inductive A where
 | fz (d:D) | lst (as:List A) | tup (as:List A) | scr (ns:List Int) | dic (kvs:List (Key × D)) | opq (a:Addr) (o:Obj)
inductive Own where
 | own | lent | ro
 deriving DecidableEq
noncomputable abbrev Slot:=Option (Own × A)
noncomputable abbrev Ro:=List Slot
inductive R where
 | val (a:A) | ref (i:Nat)
mutual
noncomputable def er:A→Option D
 | .fz d=>some d
 | .lst as=>(ers as).map D.lst
 | .tup as=>(ers as).map D.tup
 | .scr _=>none
 | .dic _=>none
 | .opq _ _=>none
noncomputable def ers:List A→Option (List D)
 | []=>some []
 | a :: as=>(er a).bind fun d=>(ers as).map (d :: ·)
end
noncomputable def fzs:List A→Option (List D)
 | []=>some []
 | .fz d :: as=>(fzs as).map (d :: ·)
 | _ :: _=>none
noncomputable def peek (ρ:Ro):R→Option A
 | .val a=>some a
 | .ref i=>match ρ[i]? with
  | some (some (_,a))=>some a
  | _=>none
noncomputable def peeks (ρ:Ro):List R→Option (List A)
 | []=>some []
 | r :: rs=>(peek ρ r).bind fun a=>(peeks ρ rs).map (a :: ·)
noncomputable def share (ρ:Ro):R→Option (D × Ro)
 | .val a=>(er a).map (·,ρ)
 | .ref i=>match ρ[i]? with
  | some (some (.own,a))=>(er a).map fun d=>(d,ρ.set i (some (.own,.fz d)))
  | _=>none
noncomputable def move (ρ:Ro):R→Option (A × Ro)
 | .val a=>some (a,ρ)
 | .ref i=>match ρ[i]? with
  | some (some (.own,a))=>some (a,ρ.set i none)
  | _=>none
noncomputable abbrev ME:=Ro→Option (R × Ro)
noncomputable abbrev MT:=Ro→Option (Bool × Ro)
noncomputable abbrev MA:=Ro→Option (List R × Ro)
noncomputable def Ab (i:Nat):ME:=fun ρ=>match ρ[i]? with
 | some (some (_,.fz d))=>some (.val (.fz d),ρ)
 | some (some _)=>some (.ref i,ρ)
 | _=>none
noncomputable def Ae (d:D):ME:=fun ρ=>some (.val (.fz d),ρ)
noncomputable def Af:MA:=fun ρ=>some ([],ρ)
noncomputable def Aa (m:ME) (ms:MA):MA:=fun ρ=>(m ρ).bind fun p=>(ms p.2).map fun q=>(p.1 :: q.1,q.2)
noncomputable def opM (f:List A→Option A) (m:MA):ME:=fun ρ=>(m ρ).bind fun p=>(peeks p.2 p.1).bind fun as=>(f as).map fun a=>(.val a,p.2)
noncomputable def Ee:A→Option Bool
 | .fz (.bl b)=>some b
 | .fz .non | .fz (.int _) | .fz (.str _) | .fz (.lst _) | .fz (.tup _) | .lst _ | .tup _ | .scr _ | .dic _ | .opq _ _=>none
noncomputable def AG (m:ME):MT:=fun ρ=>(m ρ).bind fun p=>(peek p.2 p.1).bind fun a=>(Ee a).map (·,p.2)
noncomputable def andM (a b:ME):ME:=fun ρ=>(AG a ρ).bind fun p=>if p.1 then b p.2 else some (.val (.fz (.bl false)),p.2)
noncomputable def notM (a:ME):ME:=fun ρ=>(AG a ρ).map fun p=>(.val (.fz (.bl (!p.1))),p.2)
noncomputable def Sb (a b:MT):MT:=fun ρ=>(a ρ).bind fun p=>if p.1 then b p.2 else some (false,p.2)
noncomputable def orT (a b:MT):MT:=fun ρ=>(a ρ).bind fun p=>if p.1 then some (true,p.2) else b p.2
noncomputable def C4 (a:MT):MT:=fun ρ=>(a ρ).map fun p=>(!p.1,p.2)
noncomputable def ER (f g:List A→Option A) (a b c:ME):ME:=fun ρ=>(a ρ).bind fun p=>(b p.2).bind fun q=>(peeks q.2 [p.1,q.1]).bind fun as=>(f as).bind fun z=>(Ee z).bind fun k =>
 if k then (c q.2).bind fun r=>(peeks r.2 [q.1,r.1]).bind fun bs=>(g bs).map fun z=>(.val z,r.2) else some (.val (.fz (.bl false)),q.2)
noncomputable def Ad (m:ME):ME:=fun ρ=>(m ρ).bind fun p=>(share p.2 p.1).map fun q=>(.val (.fz q.1),q.2)
noncomputable def vals:List R→Option (List A)
 | []=>some []
 | .val a :: rs=>(vals rs).map (a :: ·)
 | .ref _ :: _=>none
noncomputable abbrev LIM:Nat:=sizeLine
noncomputable def mkT (as:List A):A:=match fzs as with
 | some ds=>.fz (.tup ds)
 | none=>.tup as
noncomputable def II (m:MA):ME:=fun ρ=>(m ρ).bind fun p=>(vals p.1).bind fun as=>if as.length≤LIM then some (.val (mkT as),p.2) else none
noncomputable def lstM (m:MA):ME:=fun ρ=>(m ρ).bind fun p=>(vals p.1).bind fun as=>if as.length≤LIM then some (.val (.lst as),p.2) else none
noncomputable abbrev Fn:=List (Own × A)→Option (A × List A)
noncomputable def Ed (ρ:Ro):R→Option (Own × A)
 | .val a=>some (.own,a)
 | .ref i=>match ρ[i]? with
  | some (some (.ro,a))=>some (.ro,a)
  | some (some (_,a))=>some (.lent,a)
  | _=>none
noncomputable def CI (ρ:Ro):List R→Option (List (Own × A))
 | []=>some []
 | r :: rs=>(Ed ρ r).bind fun a=>(CI ρ rs).map (a :: ·)
noncomputable def Kt (ρ:Ro) (i:Nat) (a:A):Ro:=match ρ[i]? with
 | some (some (st,_))=>ρ.set i (some (st,a))
 | _=>ρ
noncomputable def back:List R→List A→Ro→Ro
 | .ref i :: rs,a :: as,ρ=>back rs as (Kt ρ i a)
 | .val _ :: rs,_ :: as,ρ=>back rs as ρ
 | [],_,ρ=>ρ
 | .ref _ :: _,[],ρ=>ρ
 | .val _ :: _,[],ρ=>ρ
noncomputable def refs:List R→List Nat
 | []=>[]
 | .ref i :: rs=>i :: refs rs
 | .val _ :: rs=>refs rs
noncomputable def Ak (Φ:Fn) (m:MA):ME:=fun ρ=>(m ρ).bind fun p=>(CI p.2 p.1).bind fun args=>if (refs p.1).Nodup then (Φ args).map fun q=>(.val q.1,back p.1 q.2 p.2) else none
noncomputable def Ba:A→Option (List D)
 | .fz (.lst ds)=>some ds
 | .fz (.tup ds)=>some ds
 | .lst as=>fzs as
 | .scr ns=>some (ns.map D.int)
 | .fz .non | .fz (.bl _) | .fz (.int _) | .fz (.str _) | .tup _ | .dic _ | .opq _ _=>none
noncomputable abbrev MI:=Ro→Option (List D × Option Nat × Ro)
noncomputable def nameOf:R→Option Nat
 | .val _=>none
 | .ref i=>some i
noncomputable def CZ (m:ME):MI:=fun ρ=>(m ρ).bind fun p=>(peek p.2 p.1).bind fun a=>(Ba a).map fun ds=>(ds,nameOf p.1,p.2)
noncomputable def C5 (lo:Int) (n:Nat):List D:=(List.range n).map fun (k:Nat)=>D.int (lo + (k:Int))
noncomputable def BL (m:ME):MI:=fun ρ=>(m ρ).bind fun p=>match p.1 with
 | .val (.fz (.int j))=>if -(2 ^ 62)≤j∧j < 2 ^ 62 then some (C5 0 j.toNat,none,p.2) else none
 | _=>none
noncomputable def lock (ρ:Ro):Option Nat→Ro
 | none=>ρ
 | some i=>match ρ[i]? with
  | some (some (_,a))=>ρ.set i (some (.ro,a))
  | _=>ρ
noncomputable def unlock (old ρ:Ro):Option Nat→Ro
 | none=>ρ
 | some i=>match old[i]? with
  | some s=>ρ.set i s
  | none=>ρ
noncomputable def M5 (n:Nat) (d:D):Option (List D):=match n with
 | 0=>some [d]
 | n=>match d with
  | .tup ds=>if ds.length = n then some ds else none
  | _=>none
noncomputable def own (d:D):Slot:=some (.own,.fz d)
noncomputable def F2 (pat:Nat) (c:MT) (e:ME):List D→Ro→Option (List D × Ro)
 | [],ρ=>some ([],ρ)
 | d :: ds,ρ=>(M5 pat d).bind fun bs=>(c (bs.map own ++ ρ)).bind fun p =>
  if p.1 then (e p.2).bind fun q=>(share q.2 q.1).bind fun s=>(F2 pat c e ds (s.2.drop bs.length)).map fun t=>(s.1 :: t.1,t.2)
  else F2 pat c e ds (p.2.drop bs.length)
noncomputable def D9:MT:=fun ρ=>some (true,ρ)
noncomputable def BH (it:MI) (pat:Nat) (c:MT) (e:ME):ME:=fun ρ=>(it ρ).bind fun p=>if p.1.length≤LIM then (F2 pat c e p.1 (lock p.2.2 p.2.1)).map fun q=>(.val (.lst (q.1.map A.fz)),unlock p.2.2 q.2 p.2.1) else none
inductive Fl where
 | next (ρ:Ro) | brk (ρ:Ro) | cnt (ρ:Ro) | ret (a:A) (ρ:Ro)
noncomputable abbrev MS:=Ro→Option Fl
noncomputable def free (ρ:Ro) (i:Nat):Bool:=match ρ[i]? with
 | some none=>true
 | some (some (.own,_))=>true
 | _=>false
noncomputable def keep (ρ:Ro):R→Option (A × Ro)
 | .val a=>some (a,ρ)
 | r=>(share ρ r).map fun q=>(.fz q.1,q.2)
noncomputable def AY:MS:=fun ρ=>some (.next ρ)
noncomputable def Cz:MS:=fun _=>none
noncomputable def AL (a b:MS):MS:=fun ρ=>(a ρ).bind fun f=>match f with
 | .next ρ1=>b ρ1
 | f=>some f
noncomputable def AK (i:Nat) (m:ME):MS:=fun ρ=>(m ρ).bind fun p=>(keep p.2 p.1).bind fun q=>if free q.2 i then some (.next (q.2.set i (some (.own,q.1)))) else none
noncomputable def Ew:A→Option (List A)
 | .tup as=>some as
 | .fz (.tup ds)=>some (ds.map A.fz)
 | .fz .non | .fz (.bl _) | .fz (.int _) | .fz (.str _) | .fz (.lst _) | .lst _ | .scr _ | .dic _ | .opq _ _=>none
noncomputable def CP:List Nat→List A→Ro→Option Ro
 | [],[],ρ=>some ρ
 | i :: is,a :: as,ρ=>if free ρ i then CP is as (ρ.set i (some (.own,a))) else none
 | [],_ :: _,_=>none
 | _ :: _,[],_=>none
noncomputable def KC (is:List Nat) (m:ME):MS:=fun ρ=>(m ρ).bind fun p=>(keep p.2 p.1).bind fun q=>(Ew q.1).bind fun as=>(CP is as q.2).map .next
noncomputable def Hf (m:ME):MS:=fun ρ=>(m ρ).map fun p=>.next p.2
noncomputable def retS (m:ME):MS:=fun ρ=>(m ρ).bind fun p=>(move p.2 p.1).map fun q=>.ret q.1 q.2
noncomputable def ifS (c:MT) (a b:MS):MS:=fun ρ=>(c ρ).bind fun p=>if p.1 then a p.2 else b p.2
noncomputable def Hx (is:List Nat) (one:Bool) (d:D) (ρ:Ro):Option Ro:=match one,is with
 | true,[i]=>if free ρ i then some (ρ.set i (own d)) else none
 | false,is=>(match d with
  | .tup ds=>CP is (ds.map A.fz) ρ
  | _=>none)
 | _,_=>none
noncomputable def forL (is:List Nat) (one:Bool) (b:MS):List D→Ro→Option Fl
 | [],ρ=>some (.next ρ)
 | d :: ds,ρ=>(Hx is one d ρ).bind fun ρ1=>(b ρ1).bind fun f=>match f with
  | .next ρ2=>forL is one b ds ρ2
  | .cnt ρ2=>forL is one b ds ρ2
  | .brk ρ2=>some (.next ρ2)
  | f=>some f
noncomputable def IK (old:Ro) (n:Option Nat):Fl→Fl
 | .next ρ=>.next (unlock old ρ n)
 | .brk ρ=>.brk (unlock old ρ n)
 | .cnt ρ=>.cnt (unlock old ρ n)
 | .ret a ρ=>.ret a (unlock old ρ n)
noncomputable def GB (is:List Nat) (one:Bool) (it:MI) (b:MS):MS:=fun ρ=>(it ρ).bind fun p=>(forL is one b p.1 (lock p.2.2 p.2.1)).map (IK p.2.2 p.2.1)
noncomputable def Hm:Slot→A
 | some (_,a)=>a
 | none=>.fz .non
noncomputable def fnM (np nn:Nat) (b:MS):Fn:=fun args=>if args.length = np then (b (args.map some ++ List.replicate (nn - np) none)).bind fun f=>match f with
  | .next ρ=>some (.fz .non,(ρ.take np).map Hm)
  | .ret a ρ=>some (a,(ρ.take np).map Hm)
  | _=>none
 else none
noncomputable def imm:HO→Bool
 | .tup _=>true
 | .frz _ _=>true
 | _=>false
noncomputable def Kept (L:Addr→Prop) (H H':Hp):Prop:=∀ b o,H b = some o→(¬ L b∨imm o = true)→H' b = some o
theorem Kept.refl {L:Addr→Prop} {H:Hp}:Kept L H H:=fun _ _ h _=>h
theorem Kept.trans {L L':Addr→Prop} {H H1 H2:Hp} (x:Kept L H H1) (y:Kept L' H1 H2) (h:∀ p,L' p→L p∨H p = none):Kept L H H2:=fun b o e c =>
 y b o (x b o e c) (c.imp (fun n z=>(h b z).elim n fun q=>by rw [e] at q; cases q) id)
theorem Kept.mono {L L':Addr→Prop} {H H':Hp} (x:Kept L H H') (h:∀ p,L p→L' p):Kept L' H H':=fun b o e c=>x b o e (c.imp (fun n z=>n (h b z)) id)
theorem B8.kept {L:Addr→Prop} {H H':Hp} (s:B8 H H'):Kept L H H':=fun b o e _=>s b o e
noncomputable def Rc (K:Frag) (H:Hp) (a:Addr) (xs:List V):Prop:=∀ H',(∀ o u,H a = some (.frz o u)→H' a = some (.frz o u))→SqL K H' a xs
mutual
noncomputable def AE (K:Frag) (N:Addr→Prop) (H:Hp) (v:V):A→List Addr→Prop
 | .fz d,L=>L = []∧RepA N H v d
 | .lst as,L=>∃ a vs L',v = .ref a∧L = a :: L'∧H a = some (.lst vs)∧vs.length≤sizeLine∧As K N H vs as L'
 | .tup as,L=>∃ a vs,v = .ref a∧H a = some (.tup vs)∧vs.length≤sizeLine∧As K N H vs as L
 | .scr ns,L=>∃ a,v = .ref a∧L = []∧Rc K H a (ns.map V.int)∧ns.length≤sizeLine
 | .dic kvs,L=>∃ a us,v = .ref a∧L = [a]∧H a = some (.dK us)∧us.length≤sizeLine∧Paired (fun (u:Key × V) (k:Key × D)=>u.1 = k.1∧RepA N H u.2 k.2) us kvs
 | .opq a o,L=>v = .ref a∧L = []∧∃ u,H a = some (.frz o u)
noncomputable def As (K:Frag) (N:Addr→Prop) (H:Hp):List V→List A→List Addr→Prop
 | [],[],L=>L = []
 | v :: vs,a :: as,L=>∃ L1 L2,L = L1 ++ L2∧AE K N H v a L1∧As K N H vs as L2
 | [],_ :: _,_=>False
 | _ :: _,[],_=>False
end
theorem _root_.L2.RepA.tr {N N' M:Addr→Prop} {H H':Hp} (hM:∀ p,M p→N p) (k:Kept M H H') (hN:∀ p,N' p→N p∨H p = none) {v:V} {d:D} (r:RepA N H v d):RepA N' H' v d:=by
 induction r with
 | non=>exact .non
 | bl b=>exact .bl b
 | int i=>exact .int i
 | str x hx=>exact .str x hx
 | lst h hz hn hl _ ih =>
  refine .lst (k _ _ h (.inl fun z=>hn (hM _ z))) hz (fun z=>?_) hl ih
  rcases hN _ z with q | q
  ·exact hn q
  ·rw [h] at q; cases q
 | tup h hz hl _ ih=>exact .tup (k _ _ h (.inr rfl)) hz hl ih
theorem Paired.mapQ {α β:Type} {F G:α → β → Prop}:∀ {l₁:List α} {l₂:List β},Paired F l₁ l₂ → (∀ a b,F a b→G a b)→Paired G l₁ l₂
 | _,_,.nil,_=>.nil
 | _,_,.cons r t,f=>.cons (f _ _ r) (Paired.mapQ t f)
section
variable {K:Frag} {N N' M:Addr→Prop} {H H':Hp}
mutual
theorem AE.tr (hM:∀ p,M p→N p) (k:Kept M H H') (hN:∀ p,N' p→N p∨H p = none):∀ {a:A} {v:V} {L:List Addr},(∀ p∈L,¬ M p)→AE K N H v a L→AE K N' H' v a L
 | .fz d,v,L,hL,r=>by
  simp only [AE] at r ⊢
  exact ⟨r.1,r.2.tr hM k hN⟩
 | .lst as,v,L,hL,r=>by
  simp only [AE] at r ⊢
  obtain ⟨a,vs,L',rfl,rfl,h,hz,hs⟩:=r
  exact ⟨a,vs,L',rfl,rfl,k _ _ h (.inl (hL a (by simp))),hz,As.tr hM k hN (fun p hp=>hL p (by simp [hp])) hs⟩
 | .tup as,v,L,hL,r=>by
  simp only [AE] at r ⊢
  obtain ⟨a,vs,rfl,h,hz,hs⟩:=r
  exact ⟨a,vs,rfl,k _ _ h (.inr rfl),hz,As.tr hM k hN hL hs⟩
 | .scr ns,v,L,hL,r=>by
  simp only [AE] at r ⊢
  obtain ⟨a,rfl,rfl,h,hz⟩:=r
  exact ⟨a,rfl,rfl,fun H2 q=>h H2 fun o u e=>q o u (k _ _ e (.inr rfl)),hz⟩
 | .dic kvs,v,L,hL,r=>by
  simp only [AE] at r ⊢
  obtain ⟨a,us,rfl,rfl,h,hz,hs⟩:=r
  exact ⟨a,us,rfl,rfl,k _ _ h (.inl (hL a (by simp))),hz,Paired.mapQ hs fun _ _ q=>⟨q.1,q.2.tr hM k hN⟩⟩
 | .opq a o,v,L,hL,r=>by
  simp only [AE] at r ⊢
  obtain ⟨rfl,rfl,u,h⟩:=r
  exact ⟨rfl,rfl,u,k _ _ h (.inr rfl)⟩
theorem As.tr (hM:∀ p,M p→N p) (k:Kept M H H') (hN:∀ p,N' p→N p∨H p = none):∀ {as:List A} {vs:List V} {L:List Addr},(∀ p∈L,¬ M p)→As K N H vs as L→As K N' H' vs as L
 | [],vs,L,hL,r=>by
  cases vs <;> simp only [As] at r ⊢
  exact r
 | a :: as,vs,L,hL,r=>by
  cases vs with
  | nil=>simp only [As] at r
  | cons v vs =>
   simp only [As] at r ⊢
   obtain ⟨L1,L2,rfl,h1,h2⟩:=r
   exact ⟨L1,L2,rfl,AE.tr hM k hN (fun p hp=>hL p (by simp [hp])) h1,As.tr hM k hN (fun p hp=>hL p (by simp [hp])) h2⟩
end
end
noncomputable def ad (O:Addr→Prop) (L:List Addr):Addr→Prop:=fun p=>O p∨p∈L
noncomputable def NN (fp:Nat→List Addr) (O:Addr→Prop):Addr→Prop:=fun p=>(∃ i,p∈fp i)∨O p
noncomputable def Fp (fp:Nat→List Addr):Addr→Prop:=fun p=>∃ i,p∈fp i
structure Rel (K:Frag) (ρ:Ro) (σ:St) (H:Hp) (O:Addr→Prop) (fp:Nat→List Addr):Prop where
 len : ρ.length = σ.length
 slot:∀ i st a,ρ[i]? = some (some (st,a))→∃ v,σ[i]? = some (some v)∧AE K (NN fp O) H v a (fp i)
 out:∀ i,(∀ st a,ρ[i]? ≠ some (some (st,a)))→fp i = []
 nd:∀ i,(fp i).Nodup
 inj:∀ i j p,p∈fp i→p∈fp j→i = j
 off:∀ i p,p∈fp i→¬ O p
 al:∀ p,NN fp O p→H p≠none
noncomputable def JH (ρ ρ':Ro) (σ σ':St):Prop:=∀ (j:Nat) st a,ρ[j]? = some (some (st,a))→st ≠ .own→∃ a',ρ'[j]? = some (some (st,a')) ∧ σ'[j]? = σ[j]? ∧ (st = .ro→a' = a)
theorem JH.refl {ρ:Ro} {σ:St}:JH ρ ρ σ σ:=fun _ _ a h _=>⟨a,h,rfl,fun _=>rfl⟩
theorem JH.trans {ρ ρ1 ρ2:Ro} {σ σ1 σ2:St} (x:JH ρ ρ1 σ σ1) (y:JH ρ1 ρ2 σ1 σ2):JH ρ ρ2 σ σ2:=fun j st a h n=>by
 obtain ⟨a1,h1,e1,f1⟩:=x j st a h n
 obtain ⟨a2,h2,e2,f2⟩:=y j st a1 h1 n
 exact ⟨a2,h2,e2.trans e1,fun z=>(f2 z).trans (f1 z)⟩
noncomputable def RR (K:Frag) (N:Addr→Prop) (H:Hp) (σ:St) (v:V):R→List Addr→Prop
 | .val a,L=>AE K N H v a L
 | .ref i,L=>L = [] ∧ σ[i]? = some (some v)
noncomputable def RRs (K:Frag) (N:Addr→Prop) (H:Hp) (σ:St):List V→List R→List Addr→Prop
 | [],[],L=>L = []
 | v :: vs,r :: rs,L=>∃ L1 L2,L = L1 ++ L2∧RR K N H σ v r L1∧RRs K N H σ vs rs L2
 | [],_ :: _,_=>False
 | _ :: _,[],_=>False
structure Post (K:Frag) (O:Addr→Prop) (fp:Nat→List Addr) (H:Hp) (ρ ρ':Ro) (σ σ':St) (L:List Addr) (fp':Nat→List Addr) (H':Hp):Prop where
 rel:Rel K ρ' σ' H' (ad O L) fp'
 nd:L.Nodup
 lo:∀ p∈L,¬ O p
 new:∀ p,(p∈L∨Fp fp' p)→Fp fp p∨H p = none
 kept:Kept (Fp fp) H H'
 ln : σ'.length = σ.length
 stab:JH ρ ρ' σ σ'
noncomputable def Hr (K:Frag) (O:Addr→Prop) (fp:Nat→List Addr) (H:Hp) (ρ ρ':Ro) (σ:St) (r:R) (v:V) (H':Hp):Prop:=
 ∃ L fp',Post K O fp H ρ ρ' σ σ L fp' H'∧RR K (NN fp' (ad O L)) H' σ v r L
noncomputable def Ra (K:Frag) (O:Addr→Prop) (fp:Nat→List Addr) (H:Hp) (ρ ρ':Ro) (σ:St) (rs:List R) (vs:List V) (H':Hp):Prop:=
 ∃ L fp',Post K O fp H ρ ρ' σ σ L fp' H'∧RRs K (NN fp' (ad O L)) H' σ vs rs L
noncomputable def tE (K:Frag) (m:ME):TE:=fun σ H Q=>∃ ρ O fp,Rel K ρ σ H O fp∧∃ r ρ',m ρ = some (r,ρ')∧∀ v H',Hr K O fp H ρ ρ' σ r v H'→Q v H'
noncomputable def tT (K:Frag) (m:MT):TT:=fun σ H Q=>∃ ρ O fp,Rel K ρ σ H O fp∧∃ b ρ',m ρ = some (b,ρ')∧∀ fp' H',Post K O fp H ρ ρ' σ σ [] fp' H'→Q b H'
noncomputable def tA (K:Frag) (m:MA):TA:=fun σ H Q=>∃ ρ O fp,Rel K ρ σ H O fp∧∃ rs ρ',m ρ = some (rs,ρ')∧∀ vs H',Ra K O fp H ρ ρ' σ rs vs H'→Q vs H'
section
variable {K:Frag} {ρ ρ' ρ1 ρ2:Ro} {σ σ' σ1 σ2:St} {H H' H1 H2:Hp} {O O':Addr→Prop} {fp fp' fp1 fp2:Nat→List Addr} {L L1 L2:List Addr}
theorem HR {p:Addr}:ad O [] p↔O p:=by simp [ad]
theorem HQ {p:Addr}:ad (ad O L1) L2 p↔ad O (L1 ++ L2) p:=by simp [ad,or_assoc]
theorem Rel.congr (r:Rel K ρ σ H O fp) (h:∀ p,O p↔O' p):Rel K ρ σ H O' fp:=by
 have e:O = O':=funext fun p=>propext (h p)
 exact e ▸ r
theorem Rel.weak (r:Rel K ρ σ H O fp) (h:∀ p,O' p→O p):Rel K ρ σ H O' fp where
 len:=r.len
 slot:=fun i st a e=>by
  obtain ⟨v,e1,q⟩:=r.slot i st a e
  exact ⟨v,e1,q.tr (M:=fun _=>False) (fun _ z=>z.elim) .refl (fun p z=>.inl (z.imp id (h p))) fun _ _ z=>z⟩
 out:=r.out
 nd:=r.nd
 inj:=r.inj
 off:=fun i p hp z=>r.off i p hp (h p z)
 al:=fun p z=>r.al p (z.imp id (h p))
theorem Rel.grow (r:Rel K ρ σ H O fp) (s:B8 H H') (hO:∀ p,O' p→O p∨H p = none) (al:∀ p,O' p→H' p≠none):Rel K ρ σ H' O' fp where
 len:=r.len
 slot:=fun i st a e=>by
  obtain ⟨v,e1,q⟩:=r.slot i st a e
  refine ⟨v,e1,q.tr (M:=fun _=>False) (fun _ z=>z.elim) (fun b o e _=>s b o e) (fun p z=>?_) fun _ _ z=>z⟩
  rcases z with z | z
  ·exact .inl (.inl z)
  ·exact (hO p z).imp .inr id
 out:=r.out
 nd:=r.nd
 inj:=r.inj
 off:=fun i p hp z=>by
  rcases hO p z with q | q
  ·exact r.off i p hp q
  ·exact r.al p (.inl ⟨i,hp⟩) q
 al:=fun p z=>by
  rcases z with z | z
  ·cases q:H p with
   | none=>exact absurd q (r.al p (.inl z))
   | some o=>rw [s p o q]; simp
  ·exact al p z
theorem Rel.post (r:Rel K ρ σ H O fp):Post K O fp H ρ ρ σ σ [] fp H:=
 ⟨r.congr fun p=>HR.symm,List.nodup_nil,fun _ h=>by simp at h,fun p h=>by rcases h with h | h; simp at h; exact .inl h,.refl,rfl,.refl⟩
theorem Post.then (x:Post K O fp H ρ ρ1 σ σ1 L1 fp1 H1) (y:Post K (ad O L1) fp1 H1 ρ1 ρ2 σ1 σ2 L2 fp2 H2):Post K O fp H ρ ρ2 σ σ2 (L1 ++ L2) fp2 H2 where
 rel:=y.rel.congr fun p=>HQ
 nd:=List.nodup_append.mpr ⟨x.nd,y.nd,fun a ha b hb e=>by subst e; exact y.lo a hb (.inr ha)⟩
 lo:=fun p hp z=>by
  rcases List.mem_append.mp hp with q | q
  ·exact x.lo p q z
  ·exact y.lo p q (.inl z)
 new:=fun p hp=>by
  have key:Fp fp1 p∨H1 p = none→Fp fp p∨H p = none:=fun q=>by
   rcases q with q | q
   ·exact x.new p (.inr q)
   ·cases e:H p with
    | none=>exact .inr rfl
    | some o =>
     by_cases hf:Fp fp p
     ·exact .inl hf
     ·rw [x.kept p o e (.inl hf)] at q; cases q
  rcases hp with q | q
  ·rcases List.mem_append.mp q with q | q
   ·exact x.new p (.inl q)
   ·exact key (y.new p (.inl q))
  ·exact key (y.new p (.inr q))
 kept:=x.kept.trans y.kept fun p z=>x.new p (.inr z)
 ln:=y.ln.trans x.ln
 stab:=x.stab.trans y.stab
theorem Post.drop (x:Post K O fp H ρ ρ1 σ σ1 (L1 ++ L2) fp1 H1):Post K O fp H ρ ρ1 σ σ1 L2 fp1 H1 where
 rel:=x.rel.weak fun p z=>z.imp id fun q=>List.mem_append_right _ q
 nd:=(List.nodup_append.mp x.nd).2.1
 lo:=fun p hp=>x.lo p (List.mem_append_right _ hp)
 new:=fun p hp=>x.new p (hp.imp (List.mem_append_right _) id)
 kept:=x.kept
 ln:=x.ln
 stab:=x.stab
theorem Post.drop0 (x:Post K O fp H ρ ρ1 σ σ1 L1 fp1 H1):Post K O fp H ρ ρ1 σ σ1 [] fp1 H1:=Post.drop (L1:=L1) (L2:=[]) (by rw [List.append_nil]; exact x)
theorem Post.rr {v:V} {r:R} (y:Post K (ad O L1) fp1 H1 ρ1 ρ2 σ σ L2 fp2 H2) (hr:Rel K ρ1 σ H1 (ad O L1) fp1) (h:RR K (NN fp1 (ad O L1)) H1 σ v r L) (hL:∀ p∈L,p∈L1):RR K (NN fp2 (ad O (L1 ++ L2))) H2 σ v r L:=by
 cases r with
 | ref i=>exact h
 | val a =>
  refine AE.tr (M:=Fp fp1) (fun p z=>.inl z) y.kept (fun p z=>?_) (fun p hp z=>?_) h
  ·rcases z with z | z
   ·exact (y.new p (.inr z)).imp (fun q=>.inl q) id
   ·rcases z with z | z
    ·exact .inl (.inr (.inl z))
    ·rcases List.mem_append.mp z with z | z
     ·exact .inl (.inr (.inr z))
     ·exact (y.new p (.inl z)).imp (fun q=>.inl q) id
  ·obtain ⟨i,hi⟩:=z
   exact hr.off i p hi (.inr (hL p hp))
theorem tE.mono {m:ME} {Q Q':VK} (h:tE K m σ H Q) (q:∀ v H',Q v H'→Q' v H'):tE K m σ H Q':=by
 obtain ⟨ρ,O,fp,r,x,ρ',e,k⟩:=h
 exact ⟨ρ,O,fp,r,x,ρ',e,fun v H' z=>q v H' (k v H' z)⟩
theorem Kv {Q:List V→Hp→Prop} (h:tA K Af σ H Q):Gg σ H Q:=by
 obtain ⟨ρ,O,fp,r,x,ρ',e,k⟩:=h
 cases e
 exact k [] H ⟨[],fp,r.post,rfl⟩
theorem Gq {m:ME} {ms:MA} {Q:List V→Hp→Prop} (h:tA K (Aa m ms) σ H Q):CC (tE K m) (tA K ms) σ H Q:=by
 obtain ⟨ρ,O,fp,r,x,ρ',e,k⟩:=h
 simp only [Aa,bind_eq_some_iff,map_eq_some_iff] at e
 obtain ⟨⟨r1,ρ1⟩,e1,⟨rs,ρ2⟩,e2,e3⟩:=e
 cases e3
 refine ⟨ρ,O,fp,r,r1,ρ1,e1,fun v H1 yy=>?_⟩
 obtain ⟨L1,fp1,p1,q1⟩:=yy
 refine ⟨ρ1,ad O L1,fp1,p1.rel,rs,_,e2,fun vs H2 yy=>?_⟩
 obtain ⟨L2,fp2,p2,q2⟩:=yy
 refine k (v :: vs) H2 ⟨L1 ++ L2,fp2,p1.then p2,L1,L2,rfl,p2.rr p1.rel q1 fun _ z=>z,?_⟩
 have e:ad (ad O L1) L2 = ad O (L1 ++ L2):=funext fun p=>propext HQ
 rw [← e]
 exact q2
end
section
variable {K:Frag} {N N' M:Addr→Prop} {H H':Hp}
mutual
theorem AE.al:∀ {a:A} {v:V} {L:List Addr},AE K N H v a L→∀ p∈L,H p≠none
 | .fz d,v,L,r,p,hp=>by
  simp only [AE] at r
  rw [r.1] at hp; simp at hp
 | .lst as,v,L,r,p,hp=>by
  simp only [AE] at r
  obtain ⟨a,vs,L',rfl,rfl,h,hz,hs⟩:=r
  rcases List.mem_cons.mp hp with rfl | hp
  ·rw [h]; simp
  ·exact As.al hs p hp
 | .tup as,v,L,r,p,hp=>by
  simp only [AE] at r
  obtain ⟨a,vs,rfl,h,hz,hs⟩:=r
  exact As.al hs p hp
 | .scr ns,v,L,r,p,hp=>by
  simp only [AE] at r
  obtain ⟨a,rfl,rfl,h,hz⟩:=r
  simp at hp
 | .dic kvs,v,L,r,p,hp=>by
  simp only [AE] at r
  obtain ⟨a,us,rfl,rfl,h,hz,hs⟩:=r
  have:p = a:=by simpa using hp
  subst this; rw [h]; simp
 | .opq a o,v,L,r,p,hp=>by
  simp only [AE] at r
  obtain ⟨rfl,rfl,_⟩:=r
  simp at hp
theorem As.al:∀ {as:List A} {vs:List V} {L:List Addr},As K N H vs as L→∀ p∈L,H p≠none
 | [],vs,L,r,p,hp=>by
  cases vs <;> simp only [As] at r
  rw [r] at hp; simp at hp
 | a :: as,vs,L,r,p,hp=>by
  cases vs with
  | nil=>simp only [As] at r
  | cons v vs =>
   simp only [As] at r
   obtain ⟨L1,L2,rfl,h1,h2⟩:=r
   rcases List.mem_append.mp hp with hp | hp
   ·exact AE.al h1 p hp
   ·exact As.al h2 p hp
end
theorem As.len:∀ {as:List A} {vs:List V} {L:List Addr},As K N H vs as L→vs.length = as.length:=by
 intro _l
 induction _l with
 | nil =>
  intro _m
  cases _m with
  | nil =>
   intro _ _
   exact rfl
  | cons _ _ =>
   intro _ r
   simp only [As] at r
 | cons a as ih =>
  intro _m
  cases _m with
  | nil =>
   intro _ r
   simp only [As] at r
  | cons v vs =>
   intro L r
   simp only [As] at r
   obtain ⟨L1,L2,rfl,h1,h2⟩:=r
   simp [ih h2]
noncomputable def AD (N:Addr→Prop) (H:Hp):List V→List D→Prop
 | [],[]=>True
 | v :: vs,d :: ds=>RepA N H v d∧AD N H vs ds
 | _,_=>False
theorem AD.len:∀ {vs:List V} {ds:List D},AD N H vs ds→vs.length = ds.length:=by
 intro _l
 induction _l with
 | nil =>
  intro _m
  cases _m with
  | nil =>
   intro _
   exact rfl
  | cons _ _ =>
   intro r
   simp only [AD] at r
 | cons v vs ih =>
  intro _m
  cases _m with
  | nil =>
   intro r
   simp only [AD] at r
  | cons d ds =>
   intro r
   simp [ih r.2]
theorem AD.get:∀ {vs:List V} {ds:List D},AD N H vs ds→∀ (i:Nat) v d,vs[i]? = some v→ds[i]? = some d→RepA N H v d
 | [],[],_,i,v,d,h,_=>by simp at h
 | [],_ :: _,r,_,_,_,_,_=>by simp only [AD] at r
 | _ :: _,[],r,_,_,_,_,_=>by simp only [AD] at r
 | x :: vs,y :: ds,r,0,v,d,h1,h2=>by simp at h1 h2; subst h1; subst h2; exact r.1
 | x :: vs,y :: ds,r,i + 1,v,d,h1,h2=>AD.get r.2 i v d (by simpa using h1) (by simpa using h2)
theorem AD.mk:∀ {vs:List V} {ds:List D},vs.length = ds.length→(∀ (i:Nat) v d,vs[i]? = some v→ds[i]? = some d→RepA N H v d)→AD N H vs ds:=by
 intro _l
 induction _l with
 | nil =>
  intro _m
  cases _m with
  | nil =>
   intro _ _
   exact trivial
  | cons _ _ =>
   intro hl _
   simp at hl
 | cons v vs ih =>
  intro _m
  cases _m with
  | nil =>
   intro hl _
   simp at hl
  | cons d ds =>
   intro hl h
   exact ⟨h 0 v d rfl rfl,ih (by simpa using hl) fun i v d e1 e2=>h (i + 1) v d (by simpa using e1) (by simpa using e2)⟩
theorem OE {a:Addr} {vs:List V} {ds:List D} (h:H a = some (.lst vs)) (hz:vs.length≤sizeLine) (hn:¬ N a) (r:AD N H vs ds):RepA N H (.ref a) (.lst ds):=.lst h hz hn r.len r.get
theorem Iz {a:Addr} {vs:List V} {ds:List D} (h:H a = some (.tup vs)) (hz:vs.length≤sizeLine) (r:AD N H vs ds):RepA N H (.ref a) (.tup ds):=.tup h hz r.len r.get
theorem AD.tr (hM:∀ p,M p→N p) (k:Kept M H H') (hN:∀ p,N' p→N p∨H p = none):∀ {vs:List V} {ds:List D},AD N H vs ds→AD N' H' vs ds
 | [],[],_=>trivial
 | [],_ :: _,r=>by simp only [AD] at r
 | _ :: _,[],r=>by simp only [AD] at r
 | v :: vs,d :: ds,r=>⟨r.1.tr hM k hN,AD.tr hM k hN r.2⟩
theorem Dw (h:∀ p,N' p→N p) {v:V} {d:D} (r:RepA N H v d):RepA N' H v d:=r.tr (M:=fun _=>False) (fun _ z=>z.elim) .refl fun p z=>.inl (h p z)
theorem IL (h:∀ p,N' p→N p) {vs:List V} {ds:List D} (r:AD N H vs ds):AD N' H vs ds:=r.tr (M:=fun _=>False) (fun _ z=>z.elim) .refl fun p z=>.inl (h p z)
theorem Dc (h:∀ p,N' p→N p) {v:V} {a:A} {L:List Addr} (r:AE K N H v a L):AE K N' H v a L:=r.tr (M:=fun _=>False) (fun _ z=>z.elim) .refl (fun p z=>.inl (h p z)) fun _ _ z=>z
theorem Q4 (h:∀ p,N' p→N p) {vs:List V} {as:List A} {L:List Addr} (r:As K N H vs as L):As K N' H vs as L:=r.tr (M:=fun _=>False) (fun _ z=>z.elim) .refl (fun p z=>.inl (h p z)) fun _ _ z=>z
mutual
theorem AE.er:∀ {a:A} {v:V} {L:List Addr} {d:D},AE K N H v a L→J.er a = some d→RepA (fun p=>N p∧p ∉ L) H v d
 | .fz d,v,L,d',r,e=>by
  simp only [AE] at r
  simp only [J.er,Option.some.injEq] at e
  subst e
  exact Dw (fun p z=>z.1) r.2
 | .lst as,v,L,d',r,e=>by
  simp only [AE] at r
  simp only [J.er,map_eq_some_iff] at e
  obtain ⟨a,vs,L',rfl,rfl,h,hz,hs⟩:=r
  obtain ⟨ds,e,rfl⟩:=e
  exact OE h hz (fun z=>z.2 (by simp)) (IL (fun p z=>⟨z.1,fun q=>z.2 (by simp [q])⟩) (As.er hs e))
 | .tup as,v,L,d',r,e=>by
  simp only [AE] at r
  simp only [J.er,map_eq_some_iff] at e
  obtain ⟨a,vs,rfl,h,hz,hs⟩:=r
  obtain ⟨ds,e,rfl⟩:=e
  exact Iz h hz (As.er hs e)
 | .scr ns,v,L,d',r,e=>by simp [J.er] at e
 | .dic kvs,v,L,d',r,e=>by simp [J.er] at e
 | .opq _ _,v,L,d',r,e=>by simp [J.er] at e
theorem As.er:∀ {as:List A} {vs:List V} {L:List Addr} {ds:List D},As K N H vs as L→J.ers as = some ds→AD (fun p=>N p∧p ∉ L) H vs ds
 | [],vs,L,ds,r,e=>by
  cases vs <;> simp only [As] at r
  simp only [J.ers,Option.some.injEq] at e
  subst e
  trivial
 | a :: as,vs,L,ds,r,e=>by
  cases vs with
  | nil=>simp only [As] at r
  | cons v vs =>
   simp only [As] at r
   simp only [J.ers,bind_eq_some_iff,map_eq_some_iff] at e
   obtain ⟨L1,L2,rfl,h1,h2⟩:=r
   obtain ⟨d,e1,ds',e2,rfl⟩:=e
   exact ⟨Dw (fun p z=>⟨z.1,fun q=>z.2 (by simp [q])⟩) (AE.er h1 e1),IL (fun p z=>⟨z.1,fun q=>z.2 (by simp [q])⟩) (As.er h2 e2)⟩
end
theorem As.fzs:∀ {as:List A} {vs:List V} {L:List Addr} {ds:List D},As K N H vs as L→J.fzs as = some ds→L = []∧AD N H vs ds
 | [],vs,L,ds,r,e=>by
  cases vs <;> simp only [As] at r
  simp only [J.fzs,Option.some.injEq] at e
  subst e
  exact ⟨r,trivial⟩
 | a :: as,vs,L,ds,r,e=>by
  cases vs with
  | nil=>simp only [As] at r
  | cons v vs =>
   simp only [As] at r
   obtain ⟨L1,L2,rfl,h1,h2⟩:=r
   cases a with
   | fz d =>
    simp only [J.fzs,map_eq_some_iff] at e
    obtain ⟨ds',e,rfl⟩:=e
    simp only [AE] at h1
    obtain ⟨e1,q⟩:=As.fzs h2 e
    exact ⟨by rw [h1.1,e1]; rfl,h1.2,q⟩
   | _=>simp [J.fzs] at e
theorem DG {v:V} {d:D} (r:RepA N H v d):AE K N H v (.fz d) []:=by rw [AE]; exact ⟨rfl,r⟩
theorem As.of:∀ {vs:List V} {ds:List D},AD N H vs ds→As K N H vs (ds.map A.fz) []:=by
 intro _l
 induction _l with
 | nil =>
  intro _m
  cases _m with
  | nil =>
   intro _
   simp [As]
  | cons _ _ =>
   intro r
   simp only [AD] at r
 | cons v vs ih =>
  intro _m
  cases _m with
  | nil =>
   intro r
   simp only [AD] at r
  | cons d ds =>
   intro r
   simp only [List.map_cons,As]
   exact ⟨[],[],rfl,DG r.1,ih r.2⟩
end
section
variable {K:Frag} {ρ ρ' ρ1 ρ2:Ro} {σ σ' σ1 σ2:St} {H H' H1 H2:Hp} {O O':Addr→Prop} {fp fp' fp1 fp2:Nat→List Addr} {L L1 L2:List Addr}
noncomputable def pt (fp:Nat→List Addr) (i:Nat) (L:List Addr):Nat→List Addr:=fun j=>if j = i then L else fp j
theorem EG {i:Nat}:pt fp i L i = L:=by simp [pt]
theorem F8 {i j:Nat} (h:j≠i):pt fp i L j = fp j:=by simp [pt,h]
theorem BS {i j:Nat} {p:Addr} (h:p∈pt fp i L j):(j = i∧p∈L)∨(j≠i∧p∈fp j):=by
 by_cases e:j = i
 ·subst e; rw [EG] at h; exact .inl ⟨rfl,h⟩
 ·rw [F8 e] at h; exact .inr ⟨e,h⟩
theorem Rel.set (r:Rel K ρ σ H O fp) {i:Nat} {s:Slot} {o:Option V} (hi:i < ρ.length) (hO:∀ p,O' p→NN fp O p) (hL:∀ p∈L,NN fp O p) (nd:L.Nodup) (hd:∀ p∈L,∀ j,j≠i→p ∉ fp j) (ho:∀ p∈L,¬ O' p) (hoo:∀ j p,j≠i→p∈fp j→¬ O' p)
  (hs:∀ st a,s = some (st,a)→∃ v,o = some v∧AE K (NN (pt fp i L) O') H v a L) (hn:s = none→L = []):Rel K (ρ.set i s) (σ.set i o) H O' (pt fp i L) where
 len:=by simp [r.len]
 slot:=fun j st a e=>by
  by_cases hj:j = i
  ·subst hj
   rw [List.getElem?_set_self hi] at e
   obtain ⟨v,e1,q⟩:=hs st a (Option.some.inj e)
   refine ⟨v,?_,by rw [EG]; exact q⟩
   rw [List.getElem?_set_self (by rw [← r.len]; exact hi),e1]
  ·rw [List.getElem?_set_ne (Ne.symm hj)] at e
   obtain ⟨v,e1,q⟩:=r.slot j st a e
   refine ⟨v,by rw [List.getElem?_set_ne (Ne.symm hj)]; exact e1,?_⟩
   rw [F8 hj]
   refine Dc (fun p z=>?_) q
   rcases z with ⟨k,z⟩ | z
   ·rcases BS z with ⟨_,z⟩ | ⟨_,z⟩
    ·exact hL p z
    ·exact .inl ⟨k,z⟩
   ·exact hO p z
 out:=fun j h=>by
  by_cases hj:j = i
  ·subst hj
   rw [EG]
   cases s with
   | none=>exact hn rfl
   | some x=>exact absurd (List.getElem?_set_self hi) (h x.1 x.2)
  ·rw [F8 hj]
   exact r.out j fun st a e=>h st a (by rw [List.getElem?_set_ne (Ne.symm hj)]; exact e)
 nd:=fun j=>by
  by_cases hj:j = i
  ·subst hj; rw [EG]; exact nd
  ·rw [F8 hj]; exact r.nd j
 inj:=fun j k p h1 h2=>by
  rcases BS h1 with ⟨e1,z1⟩ | ⟨e1,z1⟩
  ·rcases BS h2 with ⟨e2,z2⟩ | ⟨e2,z2⟩
   ·rw [e1,e2]
   ·exact absurd z2 (hd p z1 k e2)
  ·rcases BS h2 with ⟨e2,z2⟩ | ⟨e2,z2⟩
   ·exact absurd z1 (hd p z2 j e1)
   ·exact r.inj j k p z1 z2
 off:=fun j p h z=>by
  rcases BS h with ⟨e1,z1⟩ | ⟨e1,z1⟩
  ·exact ho p z1 z
  ·exact hoo j p e1 z1 z
 al:=fun p z=>by
  rcases z with ⟨j,z⟩ | z
  ·rcases BS z with ⟨_,z⟩ | ⟨_,z⟩
   ·exact r.al p (hL p z)
   ·exact r.al p (.inl ⟨j,z⟩)
  ·exact r.al p (hO p z)
theorem G7 {i:Nat} {v:V} (h : σ[i]? = some (some v)) : σ.set i (some v) = σ:=by
 apply List.ext_getElem?
 intro j
 by_cases e:j = i
 ·subst e
  have:=(List.getElem?_eq_some_iff.mp h).1
  rw [List.getElem?_set_self this,h]
 ·rw [List.getElem?_set_ne (Ne.symm e)]
theorem AF {α:Type} {l:List α} {i:Nat} {x:α} (h:l[i]? = some x):i < l.length:=(List.getElem?_eq_some_iff.mp h).1
theorem FL {p:Addr}:NN fp (ad O []) p↔NN fp O p:=by simp [NN,ad]
theorem D7 {v:V} {r:R} {d:D} (x:Post K O fp H ρ ρ1 σ σ L fp1 H1) (q:RR K (NN fp1 (ad O L)) H1 σ v r L) (e:share ρ1 r = some (d,ρ2)) :
  ∃ fp2,Post K O fp H ρ ρ2 σ σ [] fp2 H1∧RepA (NN fp2 (ad O [])) H1 v d:=by
 cases r with
 | val a =>
  simp only [share,map_eq_some_iff] at e
  obtain ⟨d',e,e'⟩:=e
  cases e'
  refine ⟨fp1,x.drop0,Dw (fun p z=>?_) (AE.er q e)⟩
  have z':=FL.mp z
  refine ⟨z'.imp id .inl,fun hp=>?_⟩
  rcases z' with ⟨i,z⟩ | z
  ·exact x.rel.off i p z (.inr hp)
  ·exact x.lo p hp z
 | ref i =>
  obtain ⟨rfl,hv⟩:=q
  simp only [share] at e
  split at e
  ·rename_i a ha
   simp only [map_eq_some_iff] at e
   obtain ⟨d',e,e'⟩:=e
   cases e'
   obtain ⟨v',hv',q⟩:=x.rel.slot i _ _ ha
   rw [hv] at hv'; cases hv'
   have q2:RepA (NN (pt fp1 i []) (ad O [])) H1 v d:=Dw (fun p z=>by
    rcases z with ⟨j,z⟩ | z
    ·rcases BS z with ⟨_,z⟩ | ⟨hj,z⟩
     ·simp at z
     ·exact ⟨.inl ⟨j,z⟩,fun hp=>hj (x.rel.inj j i p z hp)⟩
    ·exact ⟨.inr z,fun hp=>x.rel.off i p hp z⟩) (AE.er q e)
   have R:=x.rel.set (i:=i) (s:=some (.own,.fz d)) (o:=some v) (L:=[]) (O':=ad O []) (AF ha) (fun p z=>.inr z) (fun p hp=>by simp at hp) List.nodup_nil (fun p hp=>by simp at hp) (fun p hp=>by simp at hp)
    (fun j p _ h=>x.rel.off j p h) (fun st a e=>by cases e; exact ⟨v,rfl,DG q2⟩) (fun e=>by cases e)
   rw [G7 hv] at R
   refine ⟨pt fp1 i [],⟨R,List.nodup_nil,fun p hp=>by simp at hp,fun p hp=>?_,x.kept,rfl,fun j st a' h n=>?_⟩,q2⟩
   ·rcases hp with hp | ⟨j,hp⟩
    ·simp at hp
    ·rcases BS hp with ⟨_,z⟩ | ⟨_,z⟩
     ·simp at z
     ·exact x.new p (.inr ⟨j,z⟩)
   ·obtain ⟨a2,h2,_,f2⟩:=x.stab j st a' h n
    refine ⟨a2,?_,rfl,f2⟩
    rw [List.getElem?_set_ne]
    ·exact h2
    ·rintro rfl
     rw [ha] at h2; cases h2; exact n rfl
  ·cases e
theorem Lz {v:V} {r:R} {a:A} (x:Post K O fp H ρ ρ1 σ σ L fp1 H1) (q:RR K (NN fp1 (ad O L)) H1 σ v r L) (e:move ρ1 r = some (a,ρ2)) :
  ∃ L2 fp2,Post K O fp H ρ ρ2 σ σ L2 fp2 H1∧AE K (NN fp2 (ad O L2)) H1 v a L2:=by
 cases r with
 | val a =>
  simp only [move,Option.some.injEq] at e
  cases e
  exact ⟨L,fp1,x,q⟩
 | ref i =>
  obtain ⟨rfl,hv⟩:=q
  simp only [move] at e
  split at e
  ·rename_i a' ha
   cases e
   obtain ⟨v',hv',q⟩:=x.rel.slot i _ _ ha
   rw [hv] at hv'; cases hv'
   have nn:∀ p,NN (pt fp1 i []) (ad O (fp1 i)) p→NN fp1 (ad O []) p:=fun p z=>by
    rcases z with ⟨j,z⟩ | z | z
    ·rcases BS z with ⟨_,z⟩ | ⟨_,z⟩
     ·simp at z
     ·exact .inl ⟨j,z⟩
    ·exact .inr (.inl z)
    ·exact .inl ⟨i,z⟩
   have R:=x.rel.set (i:=i) (s:=none) (o:=some v) (L:=[]) (O':=ad O (fp1 i)) (AF ha) (fun p z=>nn p (.inr z)) (fun p hp=>by simp at hp) List.nodup_nil (fun p hp=>by simp at hp) (fun p hp=>by simp at hp)
    (fun j p hj h z=>by
     rcases z with z | z
     ·exact x.rel.off j p h (.inl z)
     ·exact hj (x.rel.inj j i p h z)) (fun st a e=>by cases e) (fun _=>rfl)
   rw [G7 hv] at R
   refine ⟨fp1 i,pt fp1 i [],⟨R,x.rel.nd i,fun p hp z=>x.rel.off i p hp (.inl z),fun p hp=>?_,x.kept,rfl,fun j st a' h n=>?_⟩,Dc nn q⟩
   ·rcases hp with hp | ⟨j,hp⟩
    ·exact x.new p (.inr ⟨i,hp⟩)
    ·rcases BS hp with ⟨_,z⟩ | ⟨_,z⟩
     ·simp at z
     ·exact x.new p (.inr ⟨j,z⟩)
   ·obtain ⟨a2,h2,_,f2⟩:=x.stab j st a' h n
    refine ⟨a2,?_,rfl,f2⟩
    rw [List.getElem?_set_ne]
    ·exact h2
    ·rintro rfl
     rw [ha] at h2; cases h2; exact n rfl
  ·cases e
end
section
variable {K:Frag} {ρ ρ' ρ1 ρ2:Ro} {σ σ' σ1 σ2:St} {H H' H1 H2:Hp} {O O' N:Addr→Prop} {fp fp' fp1 fp2:Nat→List Addr} {L L1 L2:List Addr}
theorem Jw {v:V} {d:D} (r:RepA N H v d):RR K N H σ v (.val (.fz d)) []:=DG (K:=K) r
noncomputable def IP (K:Frag) (N:Addr→Prop) (H:Hp) (a:A) (v:V) (H':Hp):Prop:=B8 H H'∧∃ L,AE K (fun p=>N p∨p∈L) H' v a L∧L.Nodup∧∀ p∈L,H p = none
noncomputable abbrev HP (K:Frag) (N:Addr→Prop) (H:Hp):List V→List A→Prop
 | [],[]=>True
 | v :: vs,a :: as=>(∃ L,AE K N H v a L)∧HP K N H vs as
 | _,_=>False
noncomputable def OpN (K:Frag) (f:List A→Option A) (r:List V→Hp→VK→Prop):Prop:=
 ∀ N H xs as b Q,HP K N H xs as→f as = some b→(∀ v H',IP K N H b v H'→Q v H')→r xs H Q
theorem Rel.peek {r:R} {v:V} {a:A} (x:Rel K ρ σ H O fp) (q:RR K (NN fp O) H σ v r L) (e:peek ρ r = some a):∃ L,AE K (NN fp O) H v a L:=by
 cases r with
 | val b =>
  simp only [J.peek,Option.some.injEq] at e
  subst e
  exact ⟨L,q⟩
 | ref i =>
  simp only [J.peek] at e
  split at e
  ·rename_i st b hb
   cases e
   obtain ⟨v',h1,h2⟩:=x.slot i _ _ hb
   rw [q.2] at h1; cases h1
   exact ⟨_,h2⟩
  ·cases e
theorem Rel.peeks (x:Rel K ρ σ H O fp):∀ {rs:List R} {vs:List V} {as:List A} {L:List Addr},RRs K (NN fp O) H σ vs rs L→J.peeks ρ rs = some as→HP K (NN fp O) H vs as
 | [],[],as,L,_,e=>by
  simp only [J.peeks,Option.some.injEq] at e
  subst e
  trivial
 | [],_ :: _,_,_,q,_=>by simp only [RRs] at q
 | _ :: _,[],_,_,q,_=>by simp only [RRs] at q
 | r :: rs,v :: vs,as,L,q,e=>by
  simp only [J.peeks,bind_eq_some_iff,map_eq_some_iff] at e
  obtain ⟨a,e1,as',e2,rfl⟩:=e
  simp only [RRs] at q
  obtain ⟨L1,L2,rfl,q1,q2⟩:=q
  exact ⟨x.peek q1 e1,x.peeks q2 e2⟩
theorem Post.out {a:A} {v:V} (x:Post K O fp H ρ ρ1 σ σ L fp1 H1) (o:IP K (NN fp1 (ad O L)) H1 a v H2):Hr K O fp H ρ ρ1 σ (.val a) v H2:=by
 obtain ⟨s,L',r,nd,nw⟩:=o
 have al:=r.al
 have alO:∀ p,NN fp1 (ad O L) p→H1 p≠none:=x.rel.al
 refine ⟨L',fp1,⟨x.rel.grow s (fun p z=>z.imp .inl (nw p)) fun p z=>?_,nd,fun p hp z=>alO p (.inr (.inl z)) (nw p hp),fun p hp=>?_,x.kept.trans (B8.kept (L:=fun _=>False) s) fun _ z=>z.elim,x.ln,x.stab⟩,?_⟩
 ·rcases z with z | z
  ·intro q
   have:=alO p (.inr (.inl z))
   cases e:H1 p with
   | none=>exact this e
   | some o=>rw [s p o e] at q; cases q
  ·exact al p z
 ·rcases hp with hp | hp
  ·have e1:=nw p hp
   cases e:H p with
   | none=>exact .inr rfl
   | some o =>
    by_cases hf:Fp fp p
    ·exact .inl hf
    ·rw [x.kept p o e (.inl hf)] at e1; cases e1
  ·exact x.new p (.inr hp)
 ·refine Dc (fun p z=>?_) r
  rcases z with z | z | z
  ·exact .inl (.inl z)
  ·exact .inl (.inr (.inl z))
  ·exact .inr z
theorem Lf {f:List A→Option A} {r:List V→Hp→VK→Prop} {m:MA} {Q:VK} (ok:OpN K f r) (h:tE K (opM f m) σ H Q):tA K m σ H fun vs H1=>r vs H1 Q:=by
 obtain ⟨ρ,O,fp,rl,x,ρ',e,k⟩:=h
 simp only [opM,bind_eq_some_iff,map_eq_some_iff] at e
 obtain ⟨⟨rs,ρ1⟩,e1,as,e2,b,e3,e4⟩:=e
 cases e4
 refine ⟨ρ,O,fp,rl,rs,_,e1,fun vs H1 yy=>?_⟩
 obtain ⟨L,fp1,p,q⟩:=yy
 exact ok _ H1 vs as b Q (p.rel.peeks q e2) e3 fun v H' o=>k v H' (p.out o)
theorem QP {i:Nat} {Q:VK} (h:tE K (Ab i) σ H Q):OQ i σ H Q:=by
 obtain ⟨ρ,O,fp,rl,x,ρ',e,k⟩:=h
 simp only [Ab] at e
 split at e
 ·rename_i st d hd
  cases e
  obtain ⟨v,h1,h2⟩:=rl.slot i _ _ hd
  refine ⟨v,h1,k v H ⟨[],fp,rl.post,?_⟩⟩
  rw [AE] at h2
  exact Jw (Dw (fun p z=>FL.mp z) h2.2)
 ·rename_i y hn hy
  cases e
  obtain ⟨st,a⟩:=y
  obtain ⟨v,h1,h2⟩:=rl.slot i _ _ hy
  exact ⟨v,h1,k v H ⟨[],fp,rl.post,rfl,h1⟩⟩
 ·cases e
theorem G9 {d:D} {v:V} {Q:VK} (hv:∀ N H,RepA N H v d) (h:tE K (Ae d) σ H Q):tC v σ H Q:=by
 obtain ⟨ρ,O,fp,rl,x,ρ',e,k⟩:=h
 cases e
 exact k v H ⟨[],fp,rl.post,Jw (hv _ _)⟩
theorem NA {m:ME} {Q:VK} (h:tE K (Ad m) σ H Q):tE K m σ H Q:=by
 obtain ⟨ρ,O,fp,rl,x,ρ',e,k⟩:=h
 simp only [Ad,bind_eq_some_iff,map_eq_some_iff] at e
 obtain ⟨⟨r,ρ1⟩,e1,⟨d,ρ2⟩,e2,e3⟩:=e
 cases e3
 refine ⟨ρ,O,fp,rl,r,ρ1,e1,fun v H1 yy=>?_⟩
 obtain ⟨L,fp1,p,q⟩:=yy
 obtain ⟨fp2,p2,q2⟩:=D7 p q e2
 exact k v H1 ⟨[],fp2,p2,Jw q2⟩
theorem Nj {v:V} {a:A} {b:Bool} (h:AE K N H v a L) (e:Ee a = some b):v = .bl b:=by
 cases a with
 | fz d =>
  cases d with
  | bl c =>
   simp only [Ee,Option.some.injEq] at e
   subst e
   rw [AE] at h
   obtain ⟨_,h⟩:=h
   cases h
   rfl
  | _=>simp [Ee] at e
 | _=>simp [Ee] at e
theorem IH {m:ME} {Q:Bool→Hp→Prop} (h:tT K (AG m) σ H Q):tE K m σ H fun x H1=>∃ c,x = .bl c∧Q c H1:=by
 obtain ⟨ρ,O,fp,rl,x,ρ',e,k⟩:=h
 simp only [AG,bind_eq_some_iff,map_eq_some_iff] at e
 obtain ⟨⟨r,ρ1⟩,e1,a,e2,b,e3,e4⟩:=e
 cases e4
 refine ⟨ρ,O,fp,rl,r,_,e1,fun v H1 yy=>?_⟩
 obtain ⟨L,fp1,p,q⟩:=yy
 obtain ⟨L',q'⟩:=p.rel.peek q e2
 exact ⟨_,Nj q' e3,k fp1 H1 p.drop0⟩
theorem Post.next {σ2:St} (x:Post K O fp H ρ ρ1 σ σ1 [] fp1 H1) (y:Post K O fp1 H1 ρ1 ρ2 σ1 σ2 L2 fp2 H2):Post K O fp H ρ ρ2 σ σ2 L2 fp2 H2:=by
 have e:ad O [] = O:=funext fun p=>propext HR
 exact Post.then (L1:=[]) x (by rw [e]; exact y)
theorem Post.rel0 (x:Post K O fp H ρ ρ1 σ σ1 [] fp1 H1):Rel K ρ1 σ1 H1 O fp1:=x.rel.congr fun p=>HR
theorem Hr.pre {r:R} {v:V} (x:Post K O fp H ρ ρ1 σ σ [] fp1 H1) (y:Hr K O fp1 H1 ρ1 ρ2 σ r v H2):Hr K O fp H ρ ρ2 σ r v H2:=by
 obtain ⟨L,fp2,p,q⟩:=y
 exact ⟨L,fp2,x.next p,q⟩
theorem R4 {a b:MT} {Q:Bool→Hp→Prop} (h:tT K (orT a b) σ H Q):tT K a σ H fun c H1=>if c = true then Q true H1 else tT K b σ H1 Q:=by
 obtain ⟨ρ,O,fp,rl,x,ρ',e,k⟩:=h
 simp only [orT,bind_eq_some_iff] at e
 obtain ⟨⟨c,ρ1⟩,e1,e2⟩:=e
 refine ⟨ρ,O,fp,rl,c,ρ1,e1,fun fp1 H1 p=>?_⟩
 cases c with
 | false =>
  simp at e2
  rw [if_neg Bool.false_ne_true]
  exact ⟨ρ1,O,fp1,p.rel0,x,ρ',e2,fun fp2 H2 p2=>k fp2 H2 (p.next p2)⟩
 | true =>
  simp at e2
  obtain ⟨rfl,rfl⟩:=e2
  rw [if_pos rfl]
  exact k fp1 H1 p
theorem Q1 {a:MT} {Q:Bool→Hp→Prop} (h:tT K (C4 a) σ H Q):tT K a σ H fun c H1=>Q (!c) H1:=by
 obtain ⟨ρ,O,fp,rl,x,ρ',e,k⟩:=h
 simp only [C4,map_eq_some_iff] at e
 obtain ⟨⟨c,ρ1⟩,e1,e2⟩:=e
 cases e2
 exact ⟨ρ,O,fp,rl,c,_,e1,k⟩
theorem Li {m:ME} {Q:Bool→Hp→Prop} {ρ ρ':Ro} {b:Bool} {O:Addr→Prop} {fp:Nat→List Addr} (rl:Rel K ρ σ H O fp) (e:AG m ρ = some (b,ρ')) (k:∀ fp' H',Post K O fp H ρ ρ' σ σ [] fp' H'→Q b H'):tE K m σ H fun x H1=>∃ c,x = .bl c∧Q c H1:=
 IH ⟨ρ,O,fp,rl,b,ρ',e,k⟩
theorem QK {a b:ME} {Q:VK} (h:tE K (andM a b) σ H Q):tE K a σ H fun x H1=>∃ c,x = .bl c∧if c = true then tE K b σ H1 Q else Q (.bl false) H1:=by
 obtain ⟨ρ,O,fp,rl,x,ρ',e,k⟩:=h
 simp only [andM,bind_eq_some_iff] at e
 obtain ⟨⟨c,ρ1⟩,e1,e2⟩:=e
 refine Li (Q:=fun c H1=>if c = true then tE K b σ H1 Q else Q (.bl false) H1) rl e1 fun fp1 H1 p=>?_
 cases c with
 | true =>
  rw [if_pos rfl] at e2 ⊢
  exact ⟨ρ1,O,fp1,p.rel0,x,ρ',e2,fun v H2 p2=>k v H2 (p2.pre p)⟩
 | false =>
  simp at e2
  obtain ⟨rfl,rfl⟩:=e2
  rw [if_neg Bool.false_ne_true]
  exact k _ H1 ⟨[],fp1,p,Jw (.bl _)⟩
theorem QN {a:ME} {Q:VK} (h:tE K (notM a) σ H Q):tE K a σ H fun x H1=>∃ c,x = .bl c∧Q (.bl (!c)) H1:=by
 obtain ⟨ρ,O,fp,rl,x,ρ',e,k⟩:=h
 simp only [notM,map_eq_some_iff] at e
 obtain ⟨⟨c,ρ1⟩,e1,e2⟩:=e
 cases e2
 exact Li (Q:=fun c H1=>Q (.bl (!c)) H1) rl e1 fun fp1 H1 p=>k _ H1 ⟨[],fp1,p,Jw (.bl _)⟩
theorem RRs.vals:∀ {rs:List R} {vs:List V} {as:List A} {L:List Addr},RRs K N H σ vs rs L→J.vals rs = some as→As K N H vs as L:=by
 intro _l
 induction _l with
 | nil =>
  intro _m
  cases _m with
  | nil =>
   intro as L q e
   simp only [J.vals,Option.some.injEq] at e
   subst e
   simp only [RRs] at q
   simp only [As]
   exact q
  | cons _ _ =>
   intro _ _ q _
   simp only [RRs] at q
 | cons r rs ih =>
  intro _m
  cases _m with
  | nil =>
   intro _ _ q _
   simp only [RRs] at q
  | cons v vs =>
   intro as L q e
   cases r with
   | ref i=>simp [J.vals] at e
   | val a =>
    simp only [J.vals,map_eq_some_iff] at e
    obtain ⟨as',e2,rfl⟩:=e
    simp only [RRs] at q
    obtain ⟨L1,L2,rfl,q1,q2⟩:=q
    simp only [As]
    exact ⟨L1,L2,rfl,q1,ih q2 e2⟩
theorem CY {p:Addr} {o:HO} (h:H p = none):B8 H (upd H p o):=fun b o' e=>by
 rw [Ax (CW e h)]; exact e
theorem Post.more {L':List Addr} (x:Post K O fp H ρ ρ1 σ σ1 L fp1 H1) (s:B8 H1 H2) (nd:L'.Nodup) (h:∀ p∈L',p∈L∨(H1 p = none∧H2 p≠none)):Post K O fp H ρ ρ1 σ σ1 L' fp1 H2 where
 rel:=x.rel.grow s (fun p z=>by
   rcases z with z | z
   ·exact .inl (.inl z)
   ·rcases h p z with q | q
    ·exact .inl (.inr q)
    ·exact .inr q.1) fun p z=>by
   have key:H1 p≠none→H2 p≠none:=fun n q=>by
    cases e:H1 p with
    | none=>exact n e
    | some o=>rw [s p o e] at q; cases q
   rcases z with z | z
   ·exact key (x.rel.al p (.inr (.inl z)))
   ·rcases h p z with q | q
    ·exact key (x.rel.al p (.inr (.inr q)))
    ·exact q.2
 nd:=nd
 lo:=fun p hp z=>by
  rcases h p hp with q | q
  ·exact x.lo p q z
  ·exact x.rel.al p (.inr (.inl z)) q.1
 new:=fun p hp=>by
  rcases hp with hp | hp
  ·rcases h p hp with q | q
   ·exact x.new p (.inl q)
   ·cases e:H p with
    | none=>exact .inr rfl
    | some o =>
     by_cases hf:Fp fp p
     ·exact .inl hf
     ·have:=x.kept p o e (.inl hf)
      rw [q.1] at this; cases this
  ·exact x.new p (.inr hp)
 kept:=x.kept.trans (B8.kept (L:=fun _=>False) s) fun _ z=>z.elim
 ln:=x.ln
 stab:=x.stab
theorem QO {m:MA} {Q:VK} (h:tE K (II m) σ H Q):Q2 (tA K m) σ H Q:=by
 obtain ⟨ρ,O,fp,rl,x,ρ',e,k⟩:=h
 simp only [II,bind_eq_some_iff] at e
 obtain ⟨⟨rs,ρ1⟩,e1,as,e2,e3⟩:=e
 split at e3
 ·rename_i hz
  cases e3
  refine ⟨ρ,O,fp,rl,rs,_,e1,fun vs H1 yy=>?_⟩
  obtain ⟨L,fp1,p,q⟩:=yy
  have q':=q.vals e2
  have hl:=q'.len
  refine ⟨by rw [hl]; exact hz,fun a ha=>k _ _ ?_⟩
  have s:=CY (o:=.tup vs) ha
  have q2:As K (NN fp1 (ad O L)) (upd H1 a (.tup vs)) vs as L:=q'.tr (M:=fun _=>False) (fun _ z=>z.elim) (B8.kept s) (fun p z=>.inl z) fun _ _ z=>z
  unfold mkT
  split
  ·rename_i ds hd
   obtain ⟨rfl,qd⟩:=q2.fzs hd
   exact ⟨[],fp1,p.more s List.nodup_nil (fun p hp=>by simp at hp),Jw (Iz AV (by rw [hl]; exact hz) qd)⟩
  ·refine ⟨L,fp1,p.more s p.nd (fun p hp=>.inl hp),?_⟩
   show AE _ _ _ _ _ _
   rw [AE]
   exact ⟨a,vs,rfl,AV,by rw [hl]; exact hz,q2⟩
 ·cases e3
theorem QM {m:MA} {Q:VK} (h:tE K (lstM m) σ H Q):RX (tA K m) σ H Q:=by
 obtain ⟨ρ,O,fp,rl,x,ρ',e,k⟩:=h
 simp only [lstM,bind_eq_some_iff] at e
 obtain ⟨⟨rs,ρ1⟩,e1,as,e2,e3⟩:=e
 split at e3
 ·rename_i hz
  cases e3
  refine ⟨ρ,O,fp,rl,rs,_,e1,fun vs H1 yy=>?_⟩
  obtain ⟨L,fp1,p,q⟩:=yy
  have q':=q.vals e2
  have hl:=q'.len
  refine ⟨by rw [hl]; exact hz,fun a ha=>k _ _ ?_⟩
  have s:=CY (o:=.lst vs) ha
  have nL:a ∉ L:=fun z=>p.rel.al a (.inr (.inr z)) ha
  refine ⟨a :: L,fp1,p.more s (List.nodup_cons.mpr ⟨nL,p.nd⟩) (fun b hb=>?_),?_⟩
  ·rcases List.mem_cons.mp hb with rfl | hb
   ·exact .inr ⟨ha,by rw [AV]; simp⟩
   ·exact .inl hb
  ·show AE _ _ _ _ _ _
   rw [AE]
   refine ⟨a,vs,L,rfl,rfl,AV,by rw [hl]; exact hz,q'.tr (M:=fun _=>False) (fun _ z=>z.elim) (B8.kept s) (fun b z=>?_) fun _ _ z=>z⟩
   rcases z with z | z | z
   ·exact .inl (.inl z)
   ·exact .inl (.inr (.inl z))
   ·rcases List.mem_cons.mp z with rfl | z
    ·exact .inr ha
    ·exact .inl (.inr (.inr z))
 ·cases e3
end
noncomputable def L6 (K:Frag) (O:Addr→Prop) (fp:Nat→List Addr) (H:Hp) (ρ:Ro) (σ:St) (D:Ends):Fl→Prop
 | .next ρ'=>∀ σ' fp' H',Post K O fp H ρ ρ' σ σ' [] fp' H'→D.nx σ' H'
 | .brk ρ'=>∀ σ' fp' H',Post K O fp H ρ ρ' σ σ' [] fp' H'→D.bk σ' H'
 | .cnt ρ'=>∀ σ' fp' H',Post K O fp H ρ ρ' σ σ' [] fp' H'→D.ct σ' H'
 | .ret a ρ'=>∀ σ' v L fp' H',Post K O fp H ρ ρ' σ σ' L fp' H'→AE K (NN fp' (ad O L)) H' v a L→D.rt v H'
noncomputable def tS (K:Frag) (m:MS):TS:=fun D σ H=>∃ ρ O fp,Rel K ρ σ H O fp∧∃ fl,m ρ = some fl∧L6 K O fp H ρ σ D fl
section
variable {K:Frag} {ρ ρ' ρ1 ρ2:Ro} {σ σ' σ1 σ2:St} {H H' H1 H2:Hp} {O O' N:Addr→Prop} {fp fp' fp1 fp2:Nat→List Addr} {L L1 L2:List Addr} {D:Ends}
theorem L6.pre {fl:Fl} (x:Post K O fp H ρ ρ1 σ σ1 [] fp1 H1) (w:L6 K O fp H ρ σ D fl):L6 K O fp1 H1 ρ1 σ1 D fl:=by
 cases fl with
 | next ρ'=>exact fun σ' fp' H' p=>w σ' fp' H' (x.next p)
 | brk ρ'=>exact fun σ' fp' H' p=>w σ' fp' H' (x.next p)
 | cnt ρ'=>exact fun σ' fp' H' p=>w σ' fp' H' (x.next p)
 | ret a ρ'=>exact fun σ' v L fp' H' p q=>w σ' v L fp' H' (x.next p) q
theorem OP (h:tS K AY D σ H):O9 D σ H:=by
 obtain ⟨ρ,O,fp,rl,fl,e,w⟩:=h
 cases e
 exact w σ fp H rl.post
theorem QY {a b:MS} (h:tS K (AL a b) D σ H):Q0 (tS K a) (tS K b) D σ H:=by
 obtain ⟨ρ,O,fp,rl,fl,e,w⟩:=h
 simp only [AL,bind_eq_some_iff] at e
 obtain ⟨f1,e1,e2⟩:=e
 refine ⟨ρ,O,fp,rl,f1,e1,?_⟩
 cases f1 with
 | next ρ1=>exact fun σ1 fp1 H1 p=>⟨ρ1,O,fp1,p.rel0,fl,e2,w.pre p⟩
 | brk ρ1=>cases e2; exact w
 | cnt ρ1=>cases e2; exact w
 | ret a ρ1=>cases e2; exact w
theorem R3 {c:MT} {a b:MS} (h:tS K (ifS c a b) D σ H):QR (tT K c) (tS K a) (tS K b) D σ H:=by
 obtain ⟨ρ,O,fp,rl,fl,e,w⟩:=h
 simp only [ifS,bind_eq_some_iff] at e
 obtain ⟨⟨c,ρ1⟩,e1,e2⟩:=e
 refine ⟨ρ,O,fp,rl,c,ρ1,e1,fun fp1 H1 p=>?_⟩
 cases c with
 | true =>
  simp at e2
  rw [if_pos rfl]
  exact ⟨ρ1,O,fp1,p.rel0,fl,e2,w.pre p⟩
 | false =>
  simp at e2
  rw [if_neg Bool.false_ne_true]
  exact ⟨ρ1,O,fp1,p.rel0,fl,e2,w.pre p⟩
theorem QU {m:ME} (h:tS K (Hf m) D σ H):Ld (tE K m) D σ H:=by
 obtain ⟨ρ,O,fp,rl,fl,e,w⟩:=h
 simp only [Hf,map_eq_some_iff] at e
 obtain ⟨⟨r,ρ1⟩,e1,e2⟩:=e
 cases e2
 exact ⟨ρ,O,fp,rl,r,ρ1,e1,fun v H1 ⟨L,fp1,p,q⟩=>w σ fp1 H1 p.drop0⟩
theorem QX {m:ME} (h:tS K (retS m) D σ H):R1 (tE K m) D σ H:=by
 obtain ⟨ρ,O,fp,rl,fl,e,w⟩:=h
 simp only [retS,bind_eq_some_iff,map_eq_some_iff] at e
 obtain ⟨⟨r,ρ1⟩,e1,⟨a,ρ2⟩,e2,e3⟩:=e
 cases e3
 refine ⟨ρ,O,fp,rl,r,ρ1,e1,fun v H1 yy=>?_⟩
 obtain ⟨L,fp1,p,q⟩:=yy
 obtain ⟨L2,fp2,p2,q2⟩:=Lz p q e2
 exact w σ v L2 fp2 H1 p2 q2
theorem Mq {i:Nat} (h:free ρ i = true):i < ρ.length∧∀ st a,ρ[i]? = some (some (st,a))→st = .own:=by
 unfold free at h
 split at h
 ·rename_i e
  exact ⟨AF e,fun st a e'=>by rw [e] at e'; cases e'⟩
 ·rename_i a e
  exact ⟨AF e,fun st a e'=>by rw [e] at e'; cases e'; rfl⟩
 ·cases h
theorem Post.store {i:Nat} {v:V} {a:A} {σ1:St} (x:Post K O fp H ρ ρ1 σ σ1 (L1 ++ L2) fp1 H1) (hf:free ρ1 i = true) (q:AE K (NN fp1 (ad O (L1 ++ L2))) H1 v a L1) :
  Post K O fp H ρ (ρ1.set i (some (.own,a))) σ (σ1.set i (some v)) L2 (pt fp1 i L1) H1:=by
 obtain ⟨hi,ho⟩:=Mq hf
 have nd:=List.nodup_append.mp x.nd
 have nn:∀ p,NN (pt fp1 i L1) (ad O L2) p→NN fp1 (ad O (L1 ++ L2)) p:=fun p z=>by
  rcases z with ⟨j,z⟩ | z | z
  ·rcases BS z with ⟨_,z⟩ | ⟨_,z⟩
   ·exact .inr (.inr (List.mem_append_left _ z))
   ·exact .inl ⟨j,z⟩
  ·exact .inr (.inl z)
  ·exact .inr (.inr (List.mem_append_right _ z))
 refine ⟨x.rel.set (O':=ad O L2) hi (fun p z=>nn p (.inr z)) (fun p hp=>.inr (.inr (List.mem_append_left _ hp))) nd.1 (fun p hp j _ z=>x.rel.off j p z (.inr (List.mem_append_left _ hp))) (fun p hp z=>?_)
  (fun j p _ h z=>x.rel.off j p h (z.imp id (List.mem_append_right _))) (fun st a' e=>by cases e; exact ⟨v,rfl,Dc nn q⟩) (fun e=>by cases e),nd.2.1,fun p hp=>x.lo p (List.mem_append_right _ hp),fun p hp=>?_,x.kept,by rw [List.length_set]; exact x.ln,fun j st a' h n=>?_⟩
 ·rcases z with z | z
  ·exact x.lo p (List.mem_append_left _ hp) z
  ·exact nd.2.2 p hp p z rfl
 ·rcases hp with hp | ⟨j,hp⟩
  ·exact x.new p (.inl (List.mem_append_right _ hp))
  ·rcases BS hp with ⟨_,z⟩ | ⟨_,z⟩
   ·exact x.new p (.inl (List.mem_append_left _ z))
   ·exact x.new p (.inr ⟨j,z⟩)
 ·obtain ⟨a2,h2,e2,f2⟩:=x.stab j st a' h n
  have hj:j≠i:=by
   rintro rfl
   exact n (ho st a2 h2)
  exact ⟨a2,by rw [List.getElem?_set_ne (Ne.symm hj)]; exact h2,by rw [List.getElem?_set_ne (Ne.symm hj)]; exact e2,f2⟩
theorem FG {v:V} {r:R} {a:A} (x:Post K O fp H ρ ρ1 σ σ L fp1 H1) (q:RR K (NN fp1 (ad O L)) H1 σ v r L) (e:keep ρ1 r = some (a,ρ2)) :
  ∃ L2 fp2,Post K O fp H ρ ρ2 σ σ L2 fp2 H1∧AE K (NN fp2 (ad O L2)) H1 v a L2:=by
 cases r with
 | val b =>
  simp only [keep,Option.some.injEq] at e
  cases e
  exact ⟨L,fp1,x,q⟩
 | ref i =>
  simp only [keep,map_eq_some_iff] at e
  obtain ⟨⟨d,ρ3⟩,e,e'⟩:=e
  cases e'
  obtain ⟨fp2,p,q2⟩:=D7 x q e
  exact ⟨[],fp2,p,DG q2⟩
theorem NC {i:Nat} {m:ME} (h:tS K (AK i m) D σ H):LX (tE K m) (GC i) D σ H:=by
 obtain ⟨ρ,O,fp,rl,fl,e,w⟩:=h
 simp only [AK,bind_eq_some_iff] at e
 obtain ⟨⟨r,ρ1⟩,e1,⟨a,ρ2⟩,e2,e3⟩:=e
 split at e3
 ·rename_i hf
  cases e3
  refine ⟨ρ,O,fp,rl,r,ρ1,e1,fun v H1 yy=>?_⟩
  obtain ⟨L,fp1,p,q⟩:=yy
  obtain ⟨L2,fp2,p2,q2⟩:=FG p q e2
  exact w _ _ H1 (Post.store (L1:=L2) (L2:=[]) (by rw [List.append_nil]; exact p2) hf (by rw [List.append_nil]; exact q2))
 ·cases e3
noncomputable def Ej:List Nat→TGs
 | []=>Rj
 | i :: is=>OZ (GC i) (Ej is)
theorem HN {Q:St→Hp→Prop}:∀ {is:List Nat} {as:List A} {vs:List V} {ρ1 ρ2:Ro} {σ1:St} {fp1:Nat→List Addr} {L:List Addr},Post K O fp H ρ ρ1 σ σ1 L fp1 H1→As K (NN fp1 (ad O L)) H1 vs as L→CP is as ρ1 = some ρ2 →
  (∀ σ' fp',Post K O fp H ρ ρ2 σ σ' [] fp' H1→Q σ' H1)→Ej is vs σ1 H1 Q:=by
 intro _l
 induction _l with
 | nil =>
  intro _m
  cases _m with
  | nil =>
   intro vs ρ1 ρ2 σ1 fp1 L x q e k
   cases vs with
   | cons v vs=>simp only [As] at q
   | nil =>
    simp only [CP,Option.some.injEq] at e
    subst e
    exact ⟨rfl,k σ1 fp1 x.drop0⟩
  | cons _ _ =>
   intro _ _ _ _ _ _ _ _ e _
   simp [CP] at e
 | cons i is ih =>
  intro _m
  cases _m with
  | nil =>
   intro _ _ _ _ _ _ _ _ e _
   simp [CP] at e
  | cons a as =>
   intro vs ρ1 ρ2 σ1 fp1 L x q e k
   cases vs with
   | nil=>simp only [As] at q
   | cons v vs =>
    simp only [As] at q
    obtain ⟨L1,L2,rfl,q1,q2⟩:=q
    simp only [CP] at e
    split at e
    ·rename_i hf
     refine ⟨v,vs,rfl,?_⟩
     have p:=x.store hf q1
     refine ih p (Q4 (fun p z=>?_) q2) e k
     rcases z with ⟨j,z⟩ | z | z
     ·rcases BS z with ⟨_,z⟩ | ⟨_,z⟩
      ·exact .inr (.inr (List.mem_append_left _ z))
      ·exact .inl ⟨j,z⟩
     ·exact .inr (.inl z)
     ·exact .inr (.inr (List.mem_append_right _ z))
    ·cases e
theorem AE.parts {v:V} {a:A} {as:List A} (q:AE K N H v a L) (e:Ew a = some as):∃ p vs,v = .ref p∧SqT K H p vs∧As K N H vs as L:=by
 cases a with
 | tup bs =>
  simp only [Ew,Option.some.injEq] at e
  subst e
  rw [AE] at q
  obtain ⟨p,vs,rfl,h,hz,hs⟩:=q
  exact ⟨p,vs,rfl,.inl (.inl h),hs⟩
 | fz d =>
  cases d with
  | tup ds =>
   simp only [Ew,Option.some.injEq] at e
   subst e
   rw [AE] at q
   obtain ⟨rfl,q⟩:=q
   cases q with
   | tup h hz hl hr=>exact ⟨_,_,rfl,.inl (.inl h),As.of (AD.mk hl hr)⟩
  | _=>simp [Ew] at e
 | _=>simp [Ew] at e
theorem G6:∀ {is:List Nat} {as:List A} {ρ1 ρ2:Ro},CP is as ρ1 = some ρ2→is.length = as.length:=by
 intro _l
 induction _l with
 | nil =>
  intro _m
  cases _m with
  | nil =>
   intro _ _ _
   exact rfl
  | cons _ _ =>
   intro _ _ e
   simp [CP] at e
 | cons i is ih =>
  intro _m
  cases _m with
  | nil =>
   intro _ _ e
   simp [CP] at e
  | cons a as =>
   intro _ _ e
   simp only [CP] at e
   split at e
   ·simp [ih e]
   ·cases e
theorem QZ {is:List Nat} {m:ME} (h:tS K (KC is m) D σ H):LX (tE K m) (Pr K is.length (Ej is)) D σ H:=by
 obtain ⟨ρ,O,fp,rl,fl,e,w⟩:=h
 simp only [KC,bind_eq_some_iff,map_eq_some_iff] at e
 obtain ⟨⟨r,ρ1⟩,e1,⟨a,ρ2⟩,e2,as,e3,ρ3,e4,e5⟩:=e
 cases e5
 refine ⟨ρ,O,fp,rl,r,ρ1,e1,fun v H1 yy=>?_⟩
 obtain ⟨L,fp1,p,q⟩:=yy
 obtain ⟨L2,fp2,p2,q2⟩:=FG p q e2
 obtain ⟨pa,vs,rfl,hS,hs⟩:=q2.parts e3
 exact ⟨pa,vs,rfl,hS,by rw [hs.len,G6 e4],HN p2 hs e4 fun σ' fp' p'=>w σ' fp' H1 p'⟩
end
noncomputable def ItR (J:It) (C:(Addr→Prop)→Hp→Prop) (ds:List D):Prop:=∀ N H,C N H→(∀ i,i < ds.length→J.go i H)∧(∀ i,ds.length≤i→J.stop i H)∧∀ i x H' d,J.yld i H x H'→ds[i]? = some d→B8 H H'∧RepA N H' x d
noncomputable def R7 (H H':Hp):Prop:=∀ p xs,H p = some (.tup xs)→H' p = some (.tup xs)
noncomputable def ItP (K:Frag) (O:Addr→Prop) (fp:Nat→List Addr) (H:Hp) (ρ ρ':Ro) (σ:St) (ds:List D) (n:Option Nat) (J:It) (H':Hp):Prop:=
 ∃ r v a L fp',Post K O fp H ρ ρ' σ σ L fp' H'∧RR K (NN fp' (ad O L)) H' σ v r L∧n = nameOf r∧peek ρ' r = some a∧ItR J (fun N H=>(∃ L,AE K N H v a L)∧R7 H' H) ds
noncomputable def tI (K:Frag) (m:MI):TI:=fun σ H R=>∃ ρ O fp,Rel K ρ σ H O fp∧∃ ds n ρ',m ρ = some (ds,n,ρ')∧∀ J H',ItP K O fp H ρ ρ' σ ds n J H'→R J H'
section
variable {K:Frag} {ρ ρ' ρ1 ρ2:Ro} {σ σ' σ1 σ2:St} {H H' H1 H2:Hp} {O O' N:Addr→Prop} {fp fp' fp1 fp2:Nat→List Addr} {L L1 L2:List Addr}
theorem DU {n:Option Nat} {j:Nat}:(lock ρ n)[j]? = match ρ[j]? with
  | some (some (st,a))=>some (some (if n = some j then .ro else st,a))
  | x=>x:=by
 cases n with
 | none =>
  simp only [lock]
  split <;> simp_all
 | some i =>
  simp only [lock]
  split
  ·rename_i st a e
   by_cases h:j = i
   ·subst h
    rw [List.getElem?_set_self (AF e),e]
    simp
   ·rw [List.getElem?_set_ne (Ne.symm h)]
    split
    ·have:¬ (some i = some j):=fun z=>h (Option.some.inj z).symm
     simp [this, *]
    ·rfl
  ·rename_i hn
   by_cases h:j = i
   ·subst h
    split
    ·rename_i st a e
     exact absurd e (hn st a)
    ·rfl
   ·split
    ·have:¬ (some i = some j):=fun z=>h (Option.some.inj z).symm
     simp [this, *]
    ·rfl
theorem Rel.lock {n:Option Nat} (r:Rel K ρ σ H O fp):Rel K (J.lock ρ n) σ H O fp where
 len:=by
  rw [← r.len]
  cases n with
  | none=>rfl
  | some i=>simp only [J.lock]; split <;> simp
 slot:=fun i st a e=>by
  rw [DU] at e
  split at e
  ·rename_i st' a' e'
   simp only [Option.some.injEq,Prod.mk.injEq] at e
   obtain ⟨_,rfl⟩:=e
   exact r.slot i _ _ e'
  ·exact r.slot i _ _ e
 out:=fun i h=>r.out i fun st a e=>h (if n = some i then .ro else st) a (by rw [DU,e])
 nd:=r.nd
 inj:=r.inj
 off:=r.off
 al:=r.al
theorem Post.unlock {n:Option Nat} {a:A} (hn:∀ i,n = some i→∃ st,ρ1[i]? = some (some (st,a))) (x:Post K O fp1 H1 (J.lock ρ1 n) ρ2 σ1 σ2 L fp2 H2):Post K O fp1 H1 ρ1 (J.unlock ρ1 ρ2 n) σ1 σ2 L fp2 H2:=by
 cases n with
 | none=>exact x
 | some i =>
  obtain ⟨st,e⟩:=hn i rfl
  obtain ⟨a',e2,es,ea⟩:=x.stab i .ro a (by rw [DU,e]; simp) (by decide)
  cases ea rfl
  have eu:J.unlock ρ1 ρ2 (some i) = ρ2.set i (some (st,a)):=by simp only [J.unlock,e]
  rw [eu]
  have get:∀ j st' b,(ρ2.set i (some (st,a)))[j]? = some (some (st',b))→∃ st'',ρ2[j]? = some (some (st'',b)):=fun j st' b q=>by
   by_cases h:j = i
   ·subst h
    rw [List.getElem?_set_self (AF e2)] at q
    cases q
    exact ⟨_,e2⟩
   ·rw [List.getElem?_set_ne (Ne.symm h)] at q
    exact ⟨_,q⟩
  refine ⟨⟨by rw [List.length_set]; exact x.rel.len,fun j st' b q=>?_,fun j h=>?_,x.rel.nd,x.rel.inj,x.rel.off,x.rel.al⟩,x.nd,x.lo,x.new,x.kept,x.ln,fun j st' b q hs=>?_⟩
  ·obtain ⟨st'',q⟩:=get j st' b q
   exact x.rel.slot j _ _ q
  ·refine x.rel.out j fun st' b q=>?_
   by_cases hj:j = i
   ·subst hj
    exact h st a (List.getElem?_set_self (AF e2))
   ·exact h st' b (by rw [List.getElem?_set_ne (Ne.symm hj)]; exact q)
  ·by_cases hj:j = i
   ·subst hj
    rw [e] at q
    cases q
    exact ⟨a,List.getElem?_set_self (AF e2),es,fun _=>rfl⟩
   ·have q':(J.lock ρ1 (some i))[j]? = some (some (st',b)):=by
     rw [DU,q]
     have:¬ (some i = some j):=fun z=>hj (Option.some.inj z).symm
     simp [this]
    obtain ⟨b',q2,s2,f2⟩:=x.stab j st' b q' hs
    exact ⟨b',by rw [List.getElem?_set_ne (Ne.symm hj)]; exact q2,s2,f2⟩
noncomputable def Lp (K:Frag) (is:List Nat):Bool→TG
 | true=>GC (is.headD 0)
 | false=>Pr K is.length (Ej is)
theorem NQ {is:List Nat} {one:Bool} {d:D} {x:V} {Q:St→Hp→Prop} (p:Post K O fp H ρ ρ1 σ σ1 [] fp1 H1) (q:RepA (NN fp1 O) H1 x d) (e:Hx is one d ρ1 = some ρ2) (k:∀ σ' fp',Post K O fp H ρ ρ2 σ σ' [] fp' H1→Q σ' H1) :
  Lp K is one x σ1 H1 Q:=by
 have q0:RepA (NN fp1 (ad O [])) H1 x d:=Dw (fun p z=>FL.mp z) q
 cases one with
 | true =>
  unfold Hx at e
  match is,e with
  | [i],e =>
   dsimp only at e
   split at e
   ·rename_i hf
    cases e
    exact k _ _ (Post.store (L1:=[]) (L2:=[]) p hf (DG (K:=K) q0))
   ·cases e
  | [],e=>simp at e
  | _ :: _ :: _,e=>simp at e
 | false =>
  unfold Hx at e
  dsimp only at e
  cases d with
  | tup ds =>
   dsimp only at e
   cases q0 with
   | tup h hz hl hr =>
    refine ⟨_,_,rfl,.inl (.inl h),?_,HN p (As.of (AD.mk hl hr)) e k⟩
    have:=G6 e
    rw [List.length_map] at this
    rw [hl,this]
  | _=>simp at e
theorem QJ {r:R} {v:V} {a:A} {n:Option Nat} (hn:n = nameOf r) (hr:Rel K ρ1 σ H1 (ad O L) fp1) (q:RR K (NN fp1 (ad O L)) H1 σ v r L) (e:peek ρ1 r = some a) (p:Post K (ad O L) fp1 H1 (J.lock ρ1 n) ρ2 σ σ2 [] fp2 H2) :
  ∃ L',AE K (NN fp2 (ad O L)) H2 v a L':=by
 cases r with
 | val b =>
  simp only [peek,Option.some.injEq] at e
  subst e
  refine ⟨L,AE.tr (M:=Fp fp1) (fun p z=>.inl z) p.kept (fun x z=>?_) (fun x hx z=>?_) q⟩
  ·rcases z with z | z
   ·exact (p.new x (.inr z)).imp (fun y=>.inl y) id
   ·exact .inl (.inr z)
  ·obtain ⟨i,hi⟩:=z
   exact hr.off i x hi (.inr hx)
 | ref i =>
  subst hn
  simp only [peek] at e
  split at e
  ·rename_i st b hb
   cases e
   obtain ⟨a',e2,es,ea⟩:=p.stab i .ro a (by rw [DU,hb]; simp [nameOf]) (by decide)
   cases ea rfl
   obtain ⟨v',h1,h2⟩:=p.rel0.slot i _ _ e2
   rw [es,q.2] at h1
   cases h1
   exact ⟨_,h2⟩
  ·cases e
theorem QV {is:List Nat} {one:Bool} {it:MI} {b:MS} {D:Ends} (h:tS K (GB is one it b) D σ H):RW (tI K it) (Lp K is one) (tS K b) D σ H:=by
 obtain ⟨ρ,O,fp,rl,fl,e,w⟩:=h
 simp only [GB,bind_eq_some_iff,map_eq_some_iff] at e
 obtain ⟨⟨ds,n,ρ1⟩,e1,f,e2,e3⟩:=e
 subst e3
 refine ⟨ρ,O,fp,rl,ds,n,ρ1,e1,fun J H1 yy=>?_⟩
 obtain ⟨r,v,a,L,fp1,p1,q1,hn,ha,hJ⟩:=yy
 have hlk:∀ i,n = some i→∃ st,ρ1[i]? = some (some (st,a)):=fun i hi=>by
  rw [hn] at hi
  cases r with
  | val b=>simp [nameOf] at hi
  | ref j =>
   simp only [nameOf,Option.some.injEq] at hi
   subst hi
   simp only [peek] at ha
   split at ha
   ·rename_i st b hb
    cases ha
    exact ⟨st,hb⟩
   ·cases ha
 have rl1:Rel K (lock ρ1 n) σ H1 (ad O L) fp1:=p1.rel.lock
 -- what is wanted of the loop's end
 have w1:L6 K (ad O L) fp1 H1 (lock ρ1 n) σ D f:=by
  have un:∀ {ρ2:Ro} {σ2:St} {L2:List Addr} {fp2:Nat→List Addr} {H2:Hp},Post K (ad O L) fp1 H1 (lock ρ1 n) ρ2 σ σ2 L2 fp2 H2→Post K O fp H ρ (unlock ρ1 ρ2 n) σ σ2 L2 fp2 H2:=fun y=>(p1.then (y.unlock hlk)).drop
  cases f with
  | next ρ2=>exact fun σ' fp' H' p=>w σ' fp' H' (un p)
  | brk ρ2=>exact fun σ' fp' H' p=>w σ' fp' H' (un p)
  | cnt ρ2=>exact fun σ' fp' H' p=>w σ' fp' H' (un p)
  | ret b ρ2=>exact fun σ' v L2 fp' H' p q=>w σ' v L2 fp' H' (un p) (Dc (fun x z=>by
    rcases z with z | z | z
    ·exact .inl z
    ·exact .inr (.inl (.inl z))
    ·exact .inr (.inr z)) q)
 refine ⟨fun i m σ' H'=>m = ds.length - i∧i≤ds.length∧∃ ρ' fp',Post K (ad O L) fp1 H1 (lock ρ1 n) ρ' σ σ' [] fp' H'∧forL is one b (ds.drop i) ρ' = some f,⟨ds.length,by simp,Nat.zero_le _,lock ρ1 n,fp1,rl1.post,by simpa using e2⟩,?_⟩
 rintro i m σ2 H2 ⟨rfl,hi,ρ2,fp2,p2,e2⟩
 obtain ⟨L',src⟩:=QJ hn p1.rel q1 ha p2
 obtain ⟨go,stop,yld⟩:=hJ _ _ ⟨⟨L',src⟩,fun _ _ h=>p2.kept _ _ h (.inr rfl)⟩
 by_cases hlt:i < ds.length
 ·refine .inr ⟨go i hlt,_,fun σ' H' z=>⟨ds.length - (i + 1),by omega,rfl,hlt,z⟩,fun x H3 y=>?_⟩
  have hd:ds[i]? = some ds[i]:=by simp [hlt]
  obtain ⟨sm,qx⟩:=yld i x H3 _ y hd
  rw [List.drop_eq_getElem_cons hlt] at e2
  simp only [forL,bind_eq_some_iff] at e2
  obtain ⟨ρ3,e3,g,e4,e5⟩:=e2
  have p3:Post K (ad O L) fp1 H1 (lock ρ1 n) ρ2 σ σ2 [] fp2 H3:=p2.more sm List.nodup_nil (fun p hp=>by simp at hp)
  refine NQ p3 qx e3 fun σ4 fp4 p4=>?_
  refine ⟨ρ3,ad O L,fp4,p4.rel0,g,e4,?_⟩
  cases g with
  | next ρ5=>exact fun σ' fp' H' p=>⟨ρ5,fp',p4.next p,e5⟩
  | cnt ρ5=>exact fun σ' fp' H' p=>⟨ρ5,fp',p4.next p,e5⟩
  | brk ρ5 =>
   cases e5
   exact fun σ' fp' H' p=>w1 σ' fp' H' (p4.next p)
  | ret c ρ5 =>
   cases e5
   exact fun σ' v L fp' H' p q=>w1 σ' v L fp' H' (p4.next p) q
 ·have:i = ds.length:=by omega
  subst this
  simp only [List.drop_length,forL,Option.some.injEq] at e2
  subst e2
  exact .inl ⟨stop _ (Nat.le_refl _),w1 _ _ _ p2⟩
theorem Fd {v:V} {a:A} {ds:List D} (q:AE K N H v a L) (e:Ba a = some ds):∃ p vs,v = .ref p∧(SqL K H p vs∨SqT K H p vs)∧AD N H vs ds:=by
 cases a with
 | fz d =>
  rw [AE] at q
  obtain ⟨rfl,q⟩:=q
  cases d with
  | lst es =>
   simp only [Ba,Option.some.injEq] at e
   subst e
   cases q with
   | lst h hz hn hl hr=>exact ⟨_,_,rfl,.inl (.inl (.inl h)),AD.mk hl hr⟩
  | tup es =>
   simp only [Ba,Option.some.injEq] at e
   subst e
   cases q with
   | tup h hz hl hr=>exact ⟨_,_,rfl,.inr (.inl (.inl h)),AD.mk hl hr⟩
  | _=>simp [Ba] at e
 | lst as =>
  simp only [Ba] at e
  rw [AE] at q
  obtain ⟨p,vs,L',rfl,rfl,h,hz,hs⟩:=q
  exact ⟨p,vs,rfl,.inl (.inl (.inl h)),(hs.fzs e).2⟩
 | scr ns =>
  simp only [Ba,Option.some.injEq] at e
  subst e
  rw [AE] at q
  obtain ⟨p,rfl,rfl,h,hz⟩:=q
  refine ⟨p,_,rfl,.inl (h H fun _ _ z=>z),AD.mk (by simp) fun i v d e1 e2=>?_⟩
  rw [List.getElem?_map] at e1 e2
  cases q:ns[i]? with
  | none=>rw [q] at e1; cases e1
  | some k =>
   rw [q] at e1 e2
   cases e1; cases e2
   exact .int k
 | _=>simp [Ba] at e
noncomputable def Mw:A→Bool
 | .fz (.tup _)=>true
 | _=>false
theorem EU {v:V} {a:A} {ds:List D} (q:AE K N H v a L) (e:Ba a = some ds):∃ p vs,v = .ref p∧(if Mw a then SqT K H p vs else SqL K H p vs)∧AD N H vs ds:=by
 cases a with
 | fz d =>
  rw [AE] at q
  obtain ⟨rfl,q⟩:=q
  cases d with
  | lst es =>
   simp only [Ba,Option.some.injEq] at e
   subst e
   cases q with
   | lst h hz hn hl hr=>exact ⟨_,_,rfl,.inl (.inl h),AD.mk hl hr⟩
  | tup es =>
   simp only [Ba,Option.some.injEq] at e
   subst e
   cases q with
   | tup h hz hl hr=>exact ⟨_,_,rfl,.inl (.inl h),AD.mk hl hr⟩
  | _=>simp [Ba] at e
 | lst as =>
  simp only [Ba] at e
  rw [AE] at q
  obtain ⟨p,vs,L',rfl,rfl,h,hz,hs⟩:=q
  exact ⟨p,vs,rfl,.inl (.inl h),(hs.fzs e).2⟩
 | scr ns =>
  obtain ⟨p,vs,e1,e2,e3⟩:=Fd q e
  rw [AE] at q
  obtain ⟨p',rfl,rfl,h,hz⟩:=q
  cases e1
  refine ⟨p,_,rfl,h H fun _ _ z=>z,?_⟩
  simp only [Ba,Option.some.injEq] at e
  subst e
  refine AD.mk (by simp) fun i v d e1 e2=>?_
  rw [List.getElem?_map] at e1 e2
  cases q:ns[i]? with
  | none=>rw [q] at e1; cases e1
  | some k =>
   rw [q] at e1 e2
   cases e1; cases e2
   exact .int k
 | _=>simp [Ba] at e
noncomputable def Rn (K:Frag) (tl:TE):TI:=fun σ H R=>tl σ H fun x H1=>∃ a,x = .ref a∧(((∃ xs,SqL K H1 a xs)∧R (Itl K a) H1)∨((∃ xs,SqT K H1 a xs)∧R (Itt K a) H1))
theorem Pm {vs:List V} {ds:List D} (q:AD N H vs ds) {i:Nat} (h:i < ds.length):∃ x,vs[i]? = some x:=⟨vs[i]'(by rw [q.len]; exact h),by simp⟩
theorem QQ {m:ME} {R:It→Hp→Prop} (h:tI K (CZ m) σ H R):Rn K (tE K m) σ H R:=by
 obtain ⟨ρ,O,fp,rl,ds,n,ρ',e,k⟩:=h
 simp only [CZ,bind_eq_some_iff,map_eq_some_iff] at e
 obtain ⟨⟨r,ρ1⟩,e1,a,e2,ds',e3,e4⟩:=e
 cases e4
 refine ⟨ρ,O,fp,rl,r,ρ1,e1,fun v H1 yy=>?_⟩
 obtain ⟨L,fp1,p,q⟩:=yy
 obtain ⟨L',q'⟩:=p.rel.peek q e2
 obtain ⟨pa,vs,rfl,hk,_⟩:=EU q' e3
 refine ⟨pa,rfl,?_⟩
 cases hT:Mw a with
 | false =>
  rw [hT] at hk
  refine .inl ⟨⟨vs,hk⟩,k _ _ ⟨r,.ref pa,a,L,fp1,p,q,rfl,e2,fun N H2 yy=>?_⟩⟩
  obtain ⟨⟨L2,q2⟩,_⟩:=yy
  obtain ⟨pb,ws,e5,hk2,hd⟩:=EU q2 e3
  cases e5
  rw [hT] at hk2
  have hk2:SqL K H2 pa ws:=hk2
  refine ⟨fun i hi=>?_,fun i hi=>⟨ws,hk2,by rw [hd.len]; exact hi⟩,fun i x H' d y e=>?_⟩
  ·obtain ⟨x,hx⟩:=Pm hd hi
   exact ⟨ws,x,hk2,hx⟩
  ·obtain ⟨rfl,y⟩:=y
   exact ⟨fun _ _ z=>z,hd.get i x d (y ws hk2) e⟩
 | true =>
  rw [hT] at hk
  refine .inr ⟨⟨vs,hk⟩,k _ _ ⟨r,.ref pa,a,L,fp1,p,q,rfl,e2,fun N H2 yy=>?_⟩⟩
  obtain ⟨⟨L2,q2⟩,_⟩:=yy
  obtain ⟨pb,ws,e5,hk2,hd⟩:=EU q2 e3
  cases e5
  rw [hT] at hk2
  have hk2:SqT K H2 pa ws:=hk2
  refine ⟨fun i hi=>?_,fun i hi=>⟨ws,hk2,by rw [hd.len]; exact hi⟩,fun i x H' d y e=>?_⟩
  ·obtain ⟨x,hx⟩:=Pm hd hi
   exact ⟨ws,x,hk2,hx⟩
  ·obtain ⟨rfl,y⟩:=y
   exact ⟨fun _ _ z=>z,hd.get i x d (y ws hk2) e⟩
end
noncomputable def R5 (K:Frag):Nat→TU
 | 0=>OV
 | n + 1=>fun v H vs=>∃ a,v = .ref a∧SqT K H a vs∧vs.length = n + 1
noncomputable def sh (n:Nat) (fp:Nat→List Addr):Nat→List Addr:=fun j=>if j < n then [] else fp (j - n)
section
variable {K:Frag} {ρ ρ' ρ1 ρ2:Ro} {σ σ' σ1 σ2:St} {H H' H1 H2:Hp} {O O' N:Addr→Prop} {fp fp' fp1 fp2:Nat→List Addr} {L L1:List Addr}
theorem KQ {n:Nat} {p:Addr}:Fp (sh n fp) p↔Fp fp p:=by
 constructor
 ·rintro ⟨j,h⟩
  unfold sh at h
  split at h
  ·simp at h
  ·exact ⟨_,h⟩
 ·rintro ⟨j,h⟩
  refine ⟨j + n,?_⟩
  unfold sh
  rw [if_neg (by lia),Nat.add_sub_cancel]
  exact h
theorem MN {n:Nat} {p:Addr}:NN (sh n fp) O p↔NN fp O p:=or_congr KQ Iff.rfl
theorem Rel.block {vs:List V} {bs:List D} (r:Rel K ρ σ H O fp) (q:AD (NN fp O) H vs bs):Rel K (bs.map own ++ ρ) (vs.map some ++ σ) H O (sh bs.length fp) where
 len:=by simp [r.len,q.len]
 slot:=fun i st a e=>by
  by_cases hi:i < bs.length
  ·rw [List.getElem?_append_left (by simpa using hi),List.getElem?_map] at e
   have hb:bs[i]? = some bs[i]:=by simp [hi]
   rw [hb] at e
   simp only [Option.map_some,own,Option.some.injEq,Prod.mk.injEq] at e
   obtain ⟨rfl,rfl⟩:=e
   have hv:vs[i]? = some (vs[i]'(by rw [q.len]; exact hi)):=by simp
   refine ⟨_,by rw [List.getElem?_append_left (by simpa [q.len] using hi),List.getElem?_map,hv]; rfl,?_⟩
   simp only [sh,hi,if_true]
   exact DG (Dw (fun p z=>MN.mp z) (q.get i _ _ hv hb))
  ·rw [List.getElem?_append_right (by simpa using hi),List.length_map] at e
   obtain ⟨v,e1,q1⟩:=r.slot _ _ _ e
   refine ⟨v,by rw [List.getElem?_append_right (by simpa [q.len] using hi),List.length_map,q.len]; exact e1,?_⟩
   simp only [sh,hi,if_false]
   exact Dc (fun p z=>MN.mp z) q1
 out:=fun i h=>by
  unfold sh
  split
  ·rfl
  ·rename_i hi
   exact r.out _ fun st a e=>h st a (by rw [List.getElem?_append_right (by simpa using hi),List.length_map]; exact e)
 nd:=fun i=>by
  unfold sh
  split
  ·exact List.nodup_nil
  ·exact r.nd _
 inj:=fun i j p h1 h2=>by
  unfold sh at h1 h2
  split at h1
  ·simp at h1
  ·split at h2
   ·simp at h2
   ·have:=r.inj _ _ p h1 h2
    lia
 off:=fun i p h=>by
  unfold sh at h
  split at h
  ·simp at h
  ·exact r.off _ p h
 al:=fun p z=>r.al p (MN.mp z)
theorem Post.unblock {vs:List V} {bs:List D} (hl:vs.length = bs.length) (x:Post K O (sh bs.length fp) H (bs.map own ++ ρ) ρ2 (vs.map some ++ σ) (vs.map some ++ σ) L fp2 H2):Post K O fp H ρ (ρ2.drop bs.length) σ σ L (fun j=>fp2 (j + bs.length)) H2 where
 rel:=by
  have nn:∀ p,NN (fun j=>fp2 (j + bs.length)) (ad O L) p→NN fp2 (ad O L) p:=fun p z=>z.imp (fun ⟨j,h⟩=>⟨_,h⟩) id
  have hlen:=x.rel.len
  rw [List.length_append,List.length_map,hl] at hlen
  refine ⟨by rw [List.length_drop,hlen]; lia,fun i st a e=>?_,fun i h=>?_,fun i=>x.rel.nd _,fun i j p h1 h2=>?_,fun i p h=>x.rel.off _ p h,fun p z=>x.rel.al p (nn p z)⟩
  ·rw [List.getElem?_drop] at e
   obtain ⟨v,e1,q⟩:=x.rel.slot _ _ _ e
   refine ⟨v,?_,Dc nn (by rw [Nat.add_comm]; exact q)⟩
   rw [List.getElem?_append_right (by rw [List.length_map]; lia),List.length_map] at e1
   rw [← e1]
   congr 1
   lia
  ·exact x.rel.out _ fun st a e=>h st a (by rw [List.getElem?_drop,Nat.add_comm]; exact e)
  ·have:=x.rel.inj _ _ p h1 h2
   lia
 nd:=x.nd
 lo:=x.lo
 new:=fun p hp=>(x.new p (hp.imp id fun ⟨j,h⟩=>⟨_,h⟩)).imp KQ.mp id
 kept:=x.kept.mono fun p z=>KQ.mp z
 ln:=rfl
 stab:=fun j st a h n=>by
  have e:(bs.map own ++ ρ)[j + bs.length]? = some (some (st,a)):=by rw [List.getElem?_append_right (by simp),List.length_map,Nat.add_sub_cancel]; exact h
  obtain ⟨a',e1,_,f⟩:=x.stab _ _ _ e n
  exact ⟨a',by rw [List.getElem?_drop,Nat.add_comm]; exact e1,rfl,f⟩
theorem Post.updT {p:Addr} {o:HO} {ys:List V} (x:Post K O fp H ρ ρ1 σ σ1 L fp1 H1) (hp:p∈L) (hn:H p = none) (hy:H1 p = some (.lst ys)):Post K O fp H ρ ρ1 σ σ1 L fp1 (upd H1 p o):=by
 have off:∀ i,p ∉ fp1 i:=fun i z=>x.rel.off i p z (.inr hp)
 have alp:∀ q,H1 q≠none→upd H1 p o q≠none:=fun q z=>by
  by_cases e:q = p
  ·subst e; rw [AV]; simp
  ·rw [Ax e]; exact z
 have k:Kept (fun q=>q = p) H1 (upd H1 p o):=fun b u e c=>by
  by_cases hb:b = p
  ·subst hb
   rcases c with c | c
   ·exact absurd rfl c
   ·rw [hy] at e; cases e; cases c
  ·rw [Ax hb]; exact e
 refine ⟨⟨x.rel.len,fun i st a e=>?_,x.rel.out,x.rel.nd,x.rel.inj,x.rel.off,fun q z=>alp q (x.rel.al q z)⟩,x.nd,x.lo,x.new,fun b u e c=>?_,x.ln,x.stab⟩
 ·obtain ⟨v,e1,q⟩:=x.rel.slot i st a e
  exact ⟨v,e1,q.tr (M:=fun q=>q = p) (fun b z=>by rw [z]; exact .inr (.inr hp)) k (fun b z=>.inl z) fun b hb z=>off i (z ▸ hb)⟩
 ·have hb:b≠p:=fun z=>by rw [z,hn] at e; cases e
  rw [Ax hb]
  exact x.kept b u e c
theorem EI {p:Addr} {o:HO} {ys:List V} (hy:H p = some (.lst ys)):Kept (fun q=>q = p) H (upd H p o):=fun b u e c=>by
 by_cases hb:b = p
 ·subst hb
  rcases c with c | c
  ·exact absurd rfl c
  ·rw [hy] at e; cases e; cases c
 ·rw [Ax hb]; exact e
theorem Post.ds {vs:List V} {ds:List D} (x:Post K O fp H ρ ρ1 σ σ1 L fp1 H1) (q:AD (NN fp O) H vs ds):AD (NN fp1 (ad O L)) H1 vs ds:=
 q.tr (M:=Fp fp) (fun p z=>.inl z) x.kept fun p z=>by
  rcases z with z | z | z
  ·exact (x.new p (.inr z)).imp (fun y=>.inl y) id
  ·exact .inl (.inr z)
  ·exact (x.new p (.inl z)).imp (fun y=>.inl y) id
theorem FY:∀ {vs ws:List V} {ds es:List D},AD N H vs ds→AD N H ws es→AD N H (vs ++ ws) (ds ++ es)
 | [],_,[],_,_,q=>q
 | [],_,_ :: _,_,r,_=>by simp only [AD] at r
 | _ :: _,_,[],_,r,_=>by simp only [AD] at r
 | v :: vs,ws,d :: ds,es,r,q=>⟨r.1,FY r.2 q⟩
theorem Oh {n:Nat} {d:D} {bs:List D} {x:V} (q:RepA N H x d) (e:M5 n d = some bs):∃ vs,R5 K n x H vs∧AD N H vs bs:=by
 cases n with
 | zero =>
  simp only [M5,Option.some.injEq] at e
  subst e
  exact ⟨[x],rfl,q,trivial⟩
 | succ n =>
  simp only [M5] at e
  cases d with
  | tup ds =>
   dsimp only at e
   split at e
   ·rename_i hl
    cases e
    cases q with
    | tup h hz hl' hr=>exact ⟨_,⟨_,rfl,.inl (.inl h),by rw [hl']; exact hl⟩,AD.mk hl' hr⟩
   ·cases e
  | _=>simp at e
theorem OL {r:R} {v:V} {a:A} {n:Option Nat} {Lt:List Addr} (hn:n = nameOf r) (hr:Rel K ρ1 σ H1 (ad O L) fp1) (q:RR K (NN fp1 (ad O L)) H1 σ v r L) (e:peek ρ1 r = some a) (p:Post K (ad O L) fp1 H1 (J.lock ρ1 n) ρ2 σ σ2 Lt fp2 H2) :
  ∃ L',AE K (NN fp2 (ad (ad O L) Lt)) H2 v a L':=by
 cases r with
 | val b =>
  simp only [peek,Option.some.injEq] at e
  subst e
  refine ⟨L,AE.tr (M:=Fp fp1) (fun p z=>.inl z) p.kept (fun x z=>?_) (fun x hx z=>?_) q⟩
  ·rcases z with z | z | z
   ·exact (p.new x (.inr z)).imp (fun y=>.inl y) id
   ·exact .inl (.inr z)
   ·exact (p.new x (.inl z)).imp (fun y=>.inl y) id
  ·obtain ⟨i,hi⟩:=z
   exact hr.off i x hi (.inr hx)
 | ref i =>
  subst hn
  simp only [peek] at e
  split at e
  ·rename_i st b hb
   cases e
   obtain ⟨a',e2,es,ea⟩:=p.stab i .ro a (by rw [DU,hb]; simp [nameOf]) (by decide)
   cases ea rfl
   obtain ⟨v',h1,h2⟩:=p.rel.slot i _ _ e2
   rw [es,q.2] at h1
   cases h1
   exact ⟨_,h2⟩
  ·cases e
theorem IG {it:MI} {pat:Nat} {c:MT} {e:ME} {Q:VK} (h:tE K (BH it pat c e) σ H Q):tLc (tI K it) (R5 K pat) (tT K c) (tE K e) σ H Q:=by
 obtain ⟨ρ,O,fp,rl,x,ρ',h0,k⟩:=h
 simp only [BH,bind_eq_some_iff] at h0
 obtain ⟨⟨ds,n,ρ1⟩,e1,h0⟩:=h0
 split at h0
 case isFalse=>cases h0
 rename_i hz
 simp only [map_eq_some_iff] at h0
 obtain ⟨⟨es,ρf⟩,e2,e3⟩:=h0
 cases e3
 refine ⟨ρ,O,fp,rl,ds,n,ρ1,e1,fun J H1 yy acc hacc=>?_⟩
 obtain ⟨r,v,a,L,fp1,p1,q1,hn,ha,hJ⟩:=yy
 have hlk:∀ i,n = some i→∃ st,ρ1[i]? = some (some (st,a)):=fun i hi=>by
  rw [hn] at hi
  cases r with
  | val b=>simp [nameOf] at hi
  | ref j =>
   simp only [nameOf,Option.some.injEq] at hi
   subst hi
   simp only [peek] at ha
   split at ha
   ·rename_i st b hb
    cases ha
    exact ⟨st,hb⟩
   ·cases ha
 have rl1:Rel K (lock ρ1 n) σ H1 (ad O L) fp1:=p1.rel.lock
 have st0:Post K (ad O L) fp1 H1 (lock ρ1 n) (lock ρ1 n) σ σ [acc] fp1 (upd H1 acc (.lst [])):=rl1.post.more (CY hacc) (by simp) fun p hp=>by
  have:p = acc:=by simpa using hp
  subst this
  exact .inr ⟨hacc,by rw [AV]; simp⟩
 refine ⟨fun i m ys H'=>m = ds.length - i∧i≤ds.length∧H' acc = some (.lst ys)∧ys.length≤i∧∃ ρ' fp' done rest,Post K (ad O L) fp1 H1 (lock ρ1 n) ρ' σ σ [acc] fp' H'∧AD (NN fp' (ad (ad O L) [acc])) H' ys done∧F2 pat c e (ds.drop i) ρ' = some (rest,ρf)∧es = done ++ rest,
  ⟨ds.length,by simp,Nat.zero_le _,AV,by simp,lock ρ1 n,fp1,[],es,st0,trivial,by simpa using e2,rfl⟩,?_⟩
 rintro i m ys H2 ⟨rfl,hi,hy,hyl,ρ2,fp2,done,rest,p2,qd,e2,ees⟩
 refine ⟨hy,?_⟩
 obtain ⟨L',src⟩:=OL hn p1.rel q1 ha p2
 have offacc:∀ j,acc ∉ fp2 j:=fun j z=>p2.rel.off j acc z (.inr (by simp))
 by_cases hlt:i < ds.length
 ·obtain ⟨go,stop,yld⟩:=hJ _ _ ⟨⟨L',src⟩,fun _ _ h=>p2.kept _ _ h (.inr rfl)⟩
  refine .inr ⟨go i hlt,fun x H3 y=>?_⟩
  have hd:ds[i]? = some ds[i]:=by simp [hlt]
  obtain ⟨sm,qx0⟩:=yld i x H3 _ y hd
  have qx:RepA (NN fp2 (ad (ad O L) [acc])) H3 x ds[i]:=qx0
  have p3:Post K (ad O L) fp1 H1 (lock ρ1 n) ρ2 σ σ [acc] fp2 H3:=p2.more sm p2.nd fun p hp=>.inl hp
  have hy3:H3 acc = some (.lst ys):=sm _ _ hy
  have qd3:AD (NN fp2 (ad (ad O L) [acc])) H3 ys done:=qd.tr (M:=fun _=>False) (fun _ z=>z.elim) (B8.kept sm) fun p z=>.inl z
  rw [List.drop_eq_getElem_cons hlt] at e2
  simp only [F2,bind_eq_some_iff] at e2
  obtain ⟨bs,eb,⟨b,ρ3⟩,ec,e4⟩:=e2
  obtain ⟨vs,hu,hvs⟩:=Oh (K:=K) qx eb
  have rb:=p3.rel.block hvs
  refine ⟨vs,hu,_,_,_,rb,b,ρ3,ec,fun fp4 H4 p4=>?_⟩
  have keep:∀ {ρ5:Ro} {fp5:Nat→List Addr} {H5:Hp},Post K (ad (ad O L) [acc]) (sh bs.length fp2) H3 (bs.map own ++ ρ2) ρ5 (vs.map some ++ σ) (vs.map some ++ σ) [] fp5 H5 →
    H5 acc = some (.lst ys)∧Post K (ad O L) fp1 H1 (lock ρ1 n) (ρ5.drop bs.length) σ σ [acc] (fun j=>fp5 (j + bs.length)) H5∧AD (NN (fun j=>fp5 (j + bs.length)) (ad (ad O L) [acc])) H5 ys done:=fun {ρ5 fp5 H5} p5=>by
   have u:=p5.unblock hvs.len
   refine ⟨p5.kept _ _ hy3 (.inl fun z=>?_),p3.then u,IL (fun p z=>FL.mpr z) (u.ds qd3)⟩
   obtain ⟨j,z⟩:=KQ.mp z
   exact offacc j z
  cases b with
  | false =>
   simp only [Bool.false_eq_true,if_false] at e4
   dsimp only
   rw [if_neg Bool.false_ne_true]
   obtain ⟨h1,h2,h3⟩:=keep p4
   exact ⟨ds.length - (i + 1),by lia,rfl,hlt,h1,by lia,_,_,done,rest,h2,h3,e4,ees⟩
  | true =>
   simp only [if_true,bind_eq_some_iff,map_eq_some_iff] at e4
   obtain ⟨⟨r5,ρ5⟩,e5,⟨d6,ρ6⟩,e6,⟨rest',ρ7⟩,e7,e8⟩:=e4
   cases e8
   dsimp only
   rw [if_pos rfl]
   refine ⟨ρ3,_,fp4,p4.rel0,r5,ρ5,e5,fun y H5 yy=>?_⟩
   obtain ⟨L5,fp5,p5,q5⟩:=yy
   obtain ⟨fp6,p6,q6⟩:=D7 p5 q5 e6
   obtain ⟨h1,h2,h3⟩:=keep (p4.next p6)
   have hacc1:H1 acc = none:=hacc
   refine ⟨h1,Nat.lt_of_lt_of_le (Nat.lt_of_le_of_lt hyl hlt) hz,ds.length - (i + 1),by lia,rfl,hlt,AV,by simp; lia,_,_,done ++ [d6],rest',h2.updT (by simp) hacc1 h1,?_,e7,by rw [ees]; simp⟩
   have tr:∀ {ws:List V} {fs:List D},AD (NN (fun j=>fp6 (j + bs.length)) (ad (ad O L) [acc])) H5 ws fs→AD (NN (fun j=>fp6 (j + bs.length)) (ad (ad O L) [acc])) (upd H5 acc (.lst (ys ++ [y]))) ws fs:=fun q =>
    q.tr (M:=fun q=>q = acc) (fun b z=>by rw [z]; exact .inr (.inr (by simp))) (EI h1) fun p z=>.inl z
   refine tr (FY h3 ⟨Dw (fun p z=>?_) q6,trivial⟩)
   exact FL.mpr (z.imp (fun ⟨j,q⟩=>⟨_,q⟩) id)
 ·have:i = ds.length:=by lia
  subst this
  obtain ⟨go,stop,yld⟩:=hJ _ _ ⟨⟨L',src⟩,fun _ _ h=>p2.kept _ _ h (.inr rfl)⟩
  simp only [List.drop_length,F2,Option.some.injEq,Prod.mk.injEq] at e2
  obtain ⟨rfl,rfl⟩:=e2
  refine .inl ⟨stop _ (Nat.le_refl _),k _ _ ?_⟩
  have p3:=(p1.then (p2.unlock hlk)).drop
  refine ⟨[acc],fp2,p3,?_⟩
  show AE _ _ _ _ _ _
  rw [AE]
  rw [List.append_nil] at ees
  subst ees
  refine ⟨acc,ys,[],rfl,rfl,hy,Nat.le_trans hyl hz,As.of (IL (fun p z=>?_) qd)⟩
  rcases z with z | z | z
  ·exact .inl z
  ·exact .inr (.inl (.inl z))
  ·exact .inr (.inr z)
end
noncomputable def Eu:List (Own × A)→List A→Ro
 | (st,_) :: args,a :: as=>(if st = .own then none else some (st,a)) :: Eu args as
 | [],_=>[]
 | _ :: _,[]=>[]
noncomputable def Q7 (K:Frag) (O:Addr→Prop) (fp:Nat→List Addr) (H:Hp) (args:List (Own × A)) (as':List A) (vs:List V) (a:A) (v:V) (H':Hp):Prop:=
 ∃ L fp',Post K O fp H (args.map some) (Eu args as') (vs.map some) (vs.map some) L fp' H'∧AE K (NN fp' (ad O L)) H' v a L
noncomputable def spJ (K:Frag) (Φ:Fn) (np:Nat):Sp:=fun vs H Q _=>∃ args O fp,vs.length = np∧Rel K (args.map some) (vs.map some) H O fp∧∃ a as',Φ args = some (a,as')∧∀ v H',Q7 K O fp H args as' vs a v H'→Q v H'
theorem GR:∀ {args:List (Own × A)} {as:List A} {j:Nat} {st:Own} {a:A},(Eu args as)[j]? = some (some (st,a))→∃ a0,args[j]? = some (st,a0)∧st ≠ .own∧as[j]? = some a
 | [],_,j,st,a,h=>by simp [Eu] at h
 | _ :: _,[],j,st,a,h=>by simp [Eu] at h
 | (st0,a0) :: args,b :: as,0,st,a,h=>by
  simp only [Eu,List.getElem?_cons_zero,Option.some.injEq] at h
  split at h
  ·cases h
  ·rename_i hs
   cases h
   exact ⟨a0,rfl,hs,rfl⟩
 | (st0,a0) :: args,b :: as,j + 1,st,a,h=>by
  simp only [Eu,List.getElem?_cons_succ] at h
  obtain ⟨a1,h1,h2,h3⟩:=GR h
  exact ⟨a1,by simpa using h1,h2,by simpa using h3⟩
theorem GD:∀ {args:List (Own × A)} {as:List A} {j:Nat} {st:Own} {a0 a:A},args[j]? = some (st,a0)→st ≠ .own→as[j]? = some a→(Eu args as)[j]? = some (some (st,a))
 | [],_,j,st,a0,a,h,_,_=>by simp at h
 | _ :: _,[],j,st,a0,a,_,_,h=>by simp at h
 | (st0,b0) :: args,b :: as,0,st,a0,a,h,hs,h2=>by
  simp at h h2
  obtain ⟨rfl,rfl⟩:=h
  subst h2
  simp [Eu,hs]
 | (st0,b0) :: args,b :: as,j + 1,st,a0,a,h,hs,h2=>by
  simp only [Eu,List.getElem?_cons_succ]
  exact GD (by simpa using h) hs (by simpa using h2)
theorem GS:∀ {args:List (Own × A)} {as:List A},(Eu args as).length = min args.length as.length
 | [],_=>by simp [Eu]
 | _ :: _,[]=>by simp [Eu]
 | (st,_) :: args,a :: as=>by simp [Eu,GS]
section
variable {K:Frag} {ρ ρ' ρ1 ρ2:Ro} {σ σ' σ1 σ2:St} {H H' H1 H2:Hp} {O O' N:Addr→Prop} {fp fp' fp1 fp2:Nat→List Addr} {L L1:List Addr}
theorem Jv {args:List (Own × A)} {vs:List V} {n:Nat} (hl:vs.length = args.length) (x:Post K O fp H (args.map some ++ List.replicate n none) ρ' (vs.map some ++ List.replicate n none) σ' L fp' H') :
  ∃ fp2,Post K O fp H (args.map some) (Eu args ((ρ'.take args.length).map Hm)) (vs.map some) (vs.map some) L fp2 H'∧∀ p,NN fp2 (ad O L) p→NN fp' (ad O L) p:=by
 have hlen:args.length ≤ ρ'.length:=by
  have:=x.rel.len
  have:=x.ln
  simp at this
  lia
 have a0:∀ {j:Nat} {st:Own} {a:A},args[j]? = some (st,a)→(args.map some ++ List.replicate n (none:Slot))[j]? = some (some (st,a)):=fun {j st a} e=>by
  rw [List.getElem?_append_left (by simpa using AF e),List.getElem?_map,e]; rfl
 have v0:∀ {j:Nat},j < args.length→(vs.map some ++ List.replicate n (none:Option V))[j]? = (vs.map some)[j]?:=fun {j} h=>by
  rw [List.getElem?_append_left (by rw [List.length_map,hl]; exact h)]
 -- where a lent name stands
 have key:∀ {j:Nat} {st:Own} {a:A},args[j]? = some (st,a)→st ≠ .own→∃ a',ρ'[j]? = some (some (st,a')) ∧ σ'[j]? = (vs.map some)[j]? ∧ (st = .ro→a' = a)∧((ρ'.take args.length).map Hm)[j]? = some a':=fun {j st a} e h=>by
  obtain ⟨a',e1,e2,e3⟩:=x.stab j st a (a0 e) h
  refine ⟨a',e1,by rw [e2,v0 (AF e)],e3,?_⟩
  rw [List.getElem?_map,List.getElem?_take_of_lt (AF e),e1]
  rfl
 let fp2:Nat→List Addr:=fun j=>match (Eu args ((ρ'.take args.length).map Hm))[j]? with
  | some (some _)=>fp' j
  | _=>[]
 have sub:∀ j p,p∈fp2 j→p∈fp' j∧∃ st a,(Eu args ((ρ'.take args.length).map Hm))[j]? = some (some (st,a)):=fun j p h=>by
  simp only [fp2] at h
  split at h
  ·rename_i y e
   exact ⟨h,y.1,y.2,e⟩
  ·simp at h
 have nn:∀ p,NN fp2 (ad O L) p→NN fp' (ad O L) p:=fun p z=>z.imp (fun ⟨j,q⟩=>⟨j,(sub j p q).1⟩) id
 refine ⟨fp2,⟨⟨?_,fun j st a e=>?_,fun j h=>?_,fun j=>?_,fun i j p h1 h2=>x.rel.inj i j p (sub i p h1).1 (sub j p h2).1,fun j p h=>x.rel.off j p (sub j p h).1,fun p z=>x.rel.al p (nn p z)⟩,x.nd,x.lo,fun p hp=>x.new p (hp.imp id fun ⟨j,q⟩=>⟨j,(sub j p q).1⟩),x.kept,rfl,fun j st a e h=>?_⟩,nn⟩
 ·rw [GS]; simp [hl]; lia
 ·obtain ⟨a0,e1,e2,e3⟩:=GR e
  obtain ⟨a',e4,e5,_,e6⟩:=key e1 e2
  rw [e3] at e6; cases e6
  obtain ⟨v,e7,q⟩:=x.rel.slot j st a e4
  refine ⟨v,by rw [← e5]; exact e7,?_⟩
  have:fp2 j = fp' j:=by simp only [fp2,e]
  rw [this]
  exact Dc nn q
 ·simp only [fp2]
  split
  ·rename_i y e
   exact absurd e (h y.1 y.2)
  ·rfl
 ·simp only [fp2]
  split
  ·exact x.rel.nd j
  ·exact List.nodup_nil
 ·rw [List.getElem?_map] at e
  cases q:args[j]? with
  | none=>rw [q] at e; cases e
  | some y =>
   rw [q] at e
   cases e
   obtain ⟨a',e4,e5,e6,e7⟩:=key q h
   exact ⟨a',GD q h e7,rfl,e6⟩
theorem Rel.start {args:List (Own × A)} {vs:List V} (r:Rel K (args.map some) (vs.map some) H O fp) (n:Nat):Rel K (args.map some ++ List.replicate n none) (vs.map some ++ List.replicate n none) H O fp where
 len:=by have:=r.len; simp at this ⊢; exact this
 slot:=fun i st a e=>by
  by_cases hi:i < args.length
  ·rw [List.getElem?_append_left (by simpa using hi)] at e
   obtain ⟨v,e1,q⟩:=r.slot i st a e
   exact ⟨v,by rw [List.getElem?_append_left (by simpa using AF e1)]; exact e1,q⟩
  ·rw [List.getElem?_append_right (by simpa using hi),List.getElem?_replicate] at e
   split at e <;> cases e
 out:=fun i h=>r.out i fun st a e=>h st a (by rw [List.getElem?_append_left (by simpa using AF e)]; exact e)
 nd:=r.nd
 inj:=r.inj
 off:=r.off
 al:=r.al
theorem HU {np nn:Nat} {b:MS} {vs:List V} {Q:VK} {E:XK} (h:spJ K (fnM np nn b) np vs H Q E):tS K b { nx:=fun _ H'=>Q .non H',rt:=Q } (vs.map some ++ List.replicate (nn - np) none) H:=by
 obtain ⟨args,O,fp,hl,rl,a,as',e,k⟩:=h
 have hl2:vs.length = args.length:=by have:=rl.len; simp at this; exact this.symm
 simp only [fnM] at e
 split at e
 ·rename_i ha
  simp only [bind_eq_some_iff] at e
  obtain ⟨f,e1,e2⟩:=e
  refine ⟨_,O,fp,rl.start (nn - np),f,e1,?_⟩
  cases f with
  | next ρ' =>
   cases e2
   intro σ' fp' H' p
   obtain ⟨fp2,p2,_⟩:=Jv hl2 p
   rw [ha] at p2
   exact k _ _ ⟨[],fp2,p2,DG .non⟩
  | ret b ρ' =>
   cases e2
   intro σ' v L fp' H' p q
   obtain ⟨fp2,p2,n2⟩:=Jv hl2 p
   rw [ha] at p2
   exact k _ _ ⟨L,fp2,p2,Dc n2 q⟩
  | brk ρ'=>cases e2
  | cnt ρ'=>cases e2
 ·cases e
theorem RRs.split:∀ {rs:List R} {vs:List V} {L:List Addr},RRs K N H σ vs rs L→L.Nodup→∃ Ls:Nat→List Addr,(∀ j v r,vs[j]? = some v→rs[j]? = some r→RR K N H σ v r (Ls j))∧(∀ j p,p∈Ls j→p∈L)∧(∀ j,(Ls j).Nodup) ∧
  (∀ i j p,p∈Ls i→p∈Ls j→i = j)∧vs.length = rs.length∧∀ j,rs.length≤j→Ls j = []:=by
 intro _l
 induction _l with
 | nil =>
  intro _m
  cases _m with
  | nil =>
   intro L q nd
   exact ⟨fun _=>[],fun j v r h=>by simp at h,fun j p h=>by simp at h,fun _=>List.nodup_nil,fun i j p h=>by simp at h,rfl,fun _ _=>rfl⟩
  | cons _ _ =>
   intro _ q _
   simp only [RRs] at q
 | cons r rs ih =>
  intro _m
  cases _m with
  | nil =>
   intro _ q _
   simp only [RRs] at q
  | cons v vs =>
   intro L q nd
   simp only [RRs] at q
   obtain ⟨L1,L2,rfl,q1,q2⟩:=q
   obtain ⟨n1,n2,n3⟩:=List.nodup_append.mp nd
   obtain ⟨Ls,h1,h2,h3,h4,h5,h6⟩:=ih q2 n2
   refine ⟨fun j=>match j with | 0=>L1 | j + 1=>Ls j,fun j w s e1 e2=>?_,fun j p h=>?_,fun j=>?_,fun i j p e1 e2=>?_,by simp [h5],fun j hj=>?_⟩
   ·cases j with
    | zero=>simp at e1 e2; subst e1; subst e2; exact q1
    | succ j=>exact h1 j w s (by simpa using e1) (by simpa using e2)
   ·cases j with
    | zero=>exact List.mem_append_left _ h
    | succ j=>exact List.mem_append_right _ (h2 j p h)
   ·cases j with
    | zero=>exact n1
    | succ j=>exact h3 j
   ·cases i with
    | zero =>
     cases j with
     | zero=>rfl
     | succ j=>exact absurd rfl (n3 p e1 p (h2 j p e2))
    | succ i =>
     cases j with
     | zero=>exact absurd rfl (n3 p e2 p (h2 i p e1))
     | succ j=>rw [h4 i j p e1 e2]
   ·cases j with
    | zero=>simp at hj
    | succ j=>exact h6 j (by simpa using hj)
theorem DV:∀ {rs:List R} {j i:Nat},rs[j]? = some (.ref i)→i∈refs rs
 | [],j,i,h=>by simp at h
 | .ref k :: rs,0,i,h=>by simp at h; subst h; simp [refs]
 | .val a :: rs,0,i,h=>by simp at h
 | .ref k :: rs,j + 1,i,h=>by simp only [refs]; exact List.mem_cons_of_mem _ (DV (by simpa using h))
 | .val a :: rs,j + 1,i,h=>by simp only [refs]; exact DV (by simpa using h)
theorem G0:∀ {rs:List R},(refs rs).Nodup→∀ {i j k:Nat},rs[i]? = some (.ref k)→rs[j]? = some (.ref k)→i = j
 | [],_,i,j,k,h,_=>by simp at h
 | .val a :: rs,nd,0,_,_,h,_=>by simp at h
 | .val a :: rs,nd,_ + 1,0,_,_,h=>by simp at h
 | .val a :: rs,nd,i + 1,j + 1,k,h1,h2=>by
  have e:=G0 (rs:=rs) nd (i:=i) (j:=j) (k:=k) (by simpa using h1) (by simpa using h2)
  rw [e]
 | .ref a :: rs,nd,0,0,_,_,_=>rfl
 | .ref a :: rs,nd,0,j + 1,k,h1,h2=>by
  simp at h1; subst h1
  simp only [refs,List.nodup_cons] at nd
  exact absurd (DV (by simpa using h2)) nd.1
 | .ref a :: rs,nd,i + 1,0,k,h1,h2=>by
  simp at h2; subst h2
  simp only [refs,List.nodup_cons] at nd
  exact absurd (DV (by simpa using h1)) nd.1
 | .ref a :: rs,nd,i + 1,j + 1,k,h1,h2=>by
  simp only [refs,List.nodup_cons] at nd
  have e:=G0 (rs:=rs) nd.2 (i:=i) (j:=j) (k:=k) (by simpa using h1) (by simpa using h2)
  rw [e]
theorem G5 {i k:Nat} {a:A}:(Kt ρ k a)[i]? = if i = k then (match ρ[i]? with | some (some (st,_))=>some (some (st,a)) | x=>x) else ρ[i]?:=by
 unfold Kt
 split
 ·rename_i st b e
  by_cases h:i = k
  ·subst h
   rw [List.getElem?_set_self (AF e),if_pos rfl,e]
  ·rw [List.getElem?_set_ne (Ne.symm h),if_neg h]
 ·rename_i hn
  by_cases h:i = k
  ·subst h
   rw [if_pos rfl]
   split
   ·rename_i st b e
    exact absurd e (hn st b)
   ·rfl
  ·rw [if_neg h]
theorem DP:∀ {rs:List R} {as:List A} {ρ:Ro} {i:Nat},i ∉ refs rs→(back rs as ρ)[i]? = ρ[i]?
 | [],as,ρ,i,_=>by cases as <;> rfl
 | .ref k :: rs,[],ρ,i,_=>rfl
 | .val k :: rs,[],ρ,i,_=>rfl
 | .ref k :: rs,a :: as,ρ,i,h=>by
  simp only [refs,List.mem_cons,not_or] at h
  simp only [back]
  rw [DP h.2,G5,if_neg h.1]
 | .val k :: rs,a :: as,ρ,i,h=>by
  simp only [refs] at h
  simp only [back]
  exact DP h
theorem E3:∀ {rs:List R} {as:List A} {ρ:Ro} {i j:Nat} {st:Own} {b a:A},(refs rs).Nodup→rs[j]? = some (.ref i)→as[j]? = some a → ρ[i]? = some (some (st,b))→(back rs as ρ)[i]? = some (some (st,a))
 | [],as,ρ,i,j,st,b,a,_,h,_,_=>by simp at h
 | _ :: _,[],ρ,i,j,st,b,a,_,_,h,_=>by simp at h
 | .ref k :: rs,c :: as,ρ,i,0,st,b,a,nd,h1,h2,h3=>by
  simp at h1 h2
  subst h1; subst h2
  simp only [refs,List.nodup_cons] at nd
  simp only [back]
  rw [DP nd.1,G5,if_pos rfl,h3]
 | .val k :: rs,c :: as,ρ,i,0,st,b,a,nd,h1,h2,h3=>by simp at h1
 | .ref k :: rs,c :: as,ρ,i,j + 1,st,b,a,nd,h1,h2,h3=>by
  simp only [refs,List.nodup_cons] at nd
  simp only [back]
  have hk:i≠k:=by
   rintro rfl
   exact nd.1 (DV (by simpa using h1))
  exact E3 nd.2 (by simpa using h1) (by simpa using h2) (by rw [G5,if_neg hk]; exact h3)
 | .val k :: rs,c :: as,ρ,i,j + 1,st,b,a,nd,h1,h2,h3=>by
  simp only [refs] at nd
  simp only [back]
  exact E3 nd (by simpa using h1) (by simpa using h2) h3
theorem Gr:∀ {rs:List R} {as:List A} {ρ:Ro},(back rs as ρ).length = ρ.length
 | [],as,ρ=>by cases as <;> rfl
 | .ref k :: rs,[],ρ=>rfl
 | .val k :: rs,[],ρ=>rfl
 | .ref k :: rs,a :: as,ρ=>by
  simp only [back]
  rw [Gr]
  unfold Kt
  split <;> simp
 | .val k :: rs,a :: as,ρ=>by simp only [back]; exact Gr
theorem args_get:∀ {rs:List R} {args:List (Own × A)},CI ρ rs = some args→args.length = rs.length∧∀ (j:Nat) (r:R),rs[j]? = some r→∃ y,args[j]? = some y∧Ed ρ r = some y:=by
 intro _l
 induction _l with
 | nil =>
  intro args h
  simp only [CI,Option.some.injEq] at h
  subst h
  exact ⟨rfl,fun j r h=>by simp at h⟩
 | cons r rs ih =>
  intro args h
  simp only [CI,bind_eq_some_iff,map_eq_some_iff] at h
  obtain ⟨y,h1,ys,h2,rfl⟩:=h
  obtain ⟨e1,e2⟩:=ih h2
  refine ⟨by simp [e1],fun j s hj=>?_⟩
  cases j with
  | zero=>simp at hj; subst hj; exact ⟨y,rfl,h1⟩
  | succ j=>exact e2 j s (by simpa using hj)
theorem DO {i:Nat} {y:Own × A} (h:Ed ρ (.ref i) = some y):∃ st,ρ[i]? = some (some (st,y.2))∧y.1 ≠ .own∧(st = .ro→y.1 = .ro):=by
 simp only [Ed] at h
 split at h
 ·rename_i a e
  cases h
  exact ⟨_,e,fun z=>(by cases z),fun _=>rfl⟩
 ·rename_i st a hn e
  cases h
  refine ⟨_,e,fun z=>(by cases z),fun z=>?_⟩
  exact (hn z).elim
 ·cases h
end
section
variable {K:Frag} {ρ ρ' ρ1 ρ2:Ro} {σ σ' σ1 σ2:St} {H H' H1 H2:Hp} {O O' N:Addr→Prop} {fp fp' fp1 fp2:Nat→List Addr} {L L1:List Addr}
noncomputable def fpC (rs:List R) (Ls fp1:Nat→List Addr):Nat→List Addr:=fun j=>match rs[j]? with
 | some (.val _)=>Ls j
 | some (.ref i)=>fp1 i
 | none=>[]
noncomputable def ixR (rs:List R) (i:Nat):Option Nat:=rs.findIdx? fun r=>match r with
 | .ref k=>k == i
 | .val _=>false
theorem Fg {rs:List R} {i j:Nat} (h:ixR rs i = some j):rs[j]? = some (.ref i):=by
 unfold ixR at h
 obtain ⟨hj,h1,_⟩:=List.findIdx?_eq_some_iff_getElem.mp h
 cases e:rs[j] with
 | val a=>rw [e] at h1; simp at h1
 | ref k =>
  rw [e] at h1
  have:k = i:=by simpa using h1
  subst this
  rw [List.getElem?_eq_getElem hj,e]
theorem Ff {rs:List R} {i:Nat} (h:ixR rs i = none):i ∉ refs rs:=by
 unfold ixR at h
 rw [List.findIdx?_eq_none_iff] at h
 intro hm
 have:∀ {rs:List R},i∈refs rs→R.ref i∈rs:=by
  intro rs
  induction rs with
  | nil=>intro h; simp [refs] at h
  | cons r rs ih =>
   intro h
   cases r with
   | val a=>simp only [refs] at h; exact List.mem_cons_of_mem _ (ih h)
   | ref k =>
    simp only [refs,List.mem_cons] at h
    rcases h with rfl | h
    ·exact List.mem_cons_self
    ·exact List.mem_cons_of_mem _ (ih h)
 have:=h _ (this hm)
 simp at this
theorem Le {Φ:Fn} {np:Nat} {m:MA} {Q:VK} {E:XK} (hnp:∀ args y,Φ args = some y→args.length = np) (h:tE K (Ak Φ m) σ H Q):JB (spJ K Φ np) [] E (tA K m) σ H Q:=by
 obtain ⟨ρ,O,fp,rl,x,ρ',e,k⟩:=h
 simp only [Ak,bind_eq_some_iff] at e
 obtain ⟨⟨rs,ρ1⟩,e1,args,e2,e3⟩:=e
 split at e3
 case isFalse=>cases e3
 rename_i hnd
 simp only [map_eq_some_iff] at e3
 obtain ⟨⟨a,as'⟩,e3,e4⟩:=e3
 cases e4
 refine ⟨ρ,O,fp,rl,rs,ρ1,e1,fun vs H1 yy=>?_⟩
 obtain ⟨L,fp1,p,q⟩:=yy
 obtain ⟨Ls,s1,s2,s3,s4,s5,s6⟩:=q.split p.nd
 obtain ⟨g1,g2⟩:=args_get e2
 rw [List.append_nil]
 have rs_of:∀ {j:Nat} {y:Own × A},args[j]? = some y→∃ r v,rs[j]? = some r∧vs[j]? = some v∧Ed ρ1 r = some y:=fun {j y} hy=>by
  have hj:j < rs.length:=by rw [← g1]; exact AF hy
  obtain ⟨y',h1,h2⟩:=g2 j rs[j] (by simp [hj])
  rw [hy] at h1; cases h1
  exact ⟨rs[j],vs[j]'(by rw [s5]; exact hj),by simp [hj],by simp,h2⟩
 -- what goes with the call
 have fpc:∀ j pp,pp∈fpC rs Ls fp1 j→(∃ a,rs[j]? = some (.val a)∧pp∈Ls j)∨(∃ i,rs[j]? = some (.ref i)∧pp∈fp1 i):=fun j pp hp=>by
  unfold fpC at hp
  split at hp
  ·rename_i a e; exact .inl ⟨a,e,hp⟩
  ·rename_i i e; exact .inr ⟨i,e,hp⟩
  ·simp at hp
 have cN:∀ pp,Fp (fpC rs Ls fp1) pp→NN fp1 (ad O L) pp:=fun pp ⟨j,hp⟩=>by
  rcases fpc j pp hp with ⟨_,_,hp⟩ | ⟨i,_,hp⟩
  ·exact .inr (.inr (s2 j pp hp))
  ·exact .inl ⟨i,hp⟩
 have oN:∀ pp,O pp→¬ Fp (fpC rs Ls fp1) pp:=fun pp ho ⟨j,hp⟩=>by
  rcases fpc j pp hp with ⟨_,_,hp⟩ | ⟨i,_,hp⟩
  ·exact p.lo pp (s2 j pp hp) ho
  ·exact p.rel.off i pp hp (.inl ho)
 have kN:∀ i pp,pp∈fp1 i→i ∉ refs rs→¬ Fp (fpC rs Ls fp1) pp:=fun i pp hp hi ⟨j,hq⟩=>by
  rcases fpc j pp hq with ⟨_,_,hq⟩ | ⟨i',hr,hq⟩
  ·exact p.rel.off i pp hp (.inr (s2 j pp hq))
  ·have:=p.rel.inj i i' pp hp hq
   subst this
   exact hi (DV hr)
 let OC:Addr→Prop:=fun pp=>NN fp1 (ad O L) pp∧¬ Fp (fpC rs Ls fp1) pp
 have cNN:∀ pp,NN (fpC rs Ls fp1) OC pp→NN fp1 (ad O L) pp:=fun pp z=>z.elim (cN pp) fun z=>z.1
 have relC:Rel K (args.map some) (vs.map some) H1 OC (fpC rs Ls fp1):=by
  refine ⟨by simp [g1,s5],fun j st b hb=>?_,fun j h=>?_,fun j=>?_,fun i j pp h1 h2=>?_,fun j pp hp z=>z.2 ⟨j,hp⟩,fun pp z=>p.rel.al pp (cNN pp z)⟩
  ·rw [List.getElem?_map] at hb
   cases hy:args[j]? with
   | none=>rw [hy] at hb; cases hb
   | some y =>
    rw [hy] at hb
    cases hb
    obtain ⟨r,v,hr,hv,ha⟩:=rs_of hy
    refine ⟨v,by rw [List.getElem?_map,hv]; rfl,Dc cNN ?_⟩
    have q1:=s1 j v r hv hr
    cases r with
    | val c =>
     simp only [Ed,Option.some.injEq] at ha
     cases ha
     have:fpC rs Ls fp1 j = Ls j:=by simp [fpC,hr]
     rw [this]
     exact q1
    | ref i =>
     obtain ⟨st',h1,h2,_⟩:=DO ha
     obtain ⟨v',h3,h4⟩:=p.rel.slot i _ _ h1
     rw [q1.2] at h3; cases h3
     have:fpC rs Ls fp1 j = fp1 i:=by simp [fpC,hr]
     rw [this]
     exact h4
  ·unfold fpC
   split
   ·rename_i c e
    obtain ⟨y,hy,_⟩:=g2 j _ e
    exact absurd (by rw [List.getElem?_map,hy]; rfl) (h y.1 y.2)
   ·rename_i c e
    obtain ⟨y,hy,_⟩:=g2 j _ e
    exact absurd (by rw [List.getElem?_map,hy]; rfl) (h y.1 y.2)
   ·rfl
  ·unfold fpC
   split
   ·exact s3 j
   ·exact p.rel.nd _
   ·exact List.nodup_nil
  ·rcases fpc i pp h1 with ⟨c1,r1,z1⟩ | ⟨i1,r1,z1⟩
   ·rcases fpc j pp h2 with ⟨c2,r2,z2⟩ | ⟨i2,r2,z2⟩
    ·exact s4 i j pp z1 z2
    ·exact absurd (.inr (s2 i pp z1)) (p.rel.off i2 pp z2)
   ·rcases fpc j pp h2 with ⟨c2,r2,z2⟩ | ⟨i2,r2,z2⟩
    ·exact absurd (.inr (s2 j pp z2)) (p.rel.off i1 pp z1)
    ·have:=p.rel.inj i1 i2 pp z1 z2
     subst this
     exact G0 hnd r1 r2
 refine ⟨args,OC,fpC rs Ls fp1,by rw [s5,← g1]; exact hnp _ _ e3,relC,a,as',e3,fun v H2 ⟨L',fpD,pc,qc⟩=>k v H2 ?_⟩
 -- behind the call
 have hlen:rs.length≤as'.length:=by
  have:=pc.rel.len
  rw [GS] at this
  simp at this
  lia
 let fp2:Nat→List Addr:=fun i=>match ixR rs i with
  | some j=>fpD j
  | none=>fp1 i
 have fp2c:∀ i pp,pp∈fp2 i→(∃ j,rs[j]? = some (.ref i)∧pp∈fpD j)∨(i ∉ refs rs∧pp∈fp1 i):=fun i pp hp=>by
  simp only [fp2] at hp
  split at hp
  ·rename_i j e; exact .inl ⟨j,Fg e,hp⟩
  ·rename_i e; exact .inr ⟨Ff e,hp⟩
 have oOC:∀ pp,O pp→OC pp:=fun pp z=>⟨.inr (.inl z),oN pp z⟩
 have fOC:∀ i pp,pp∈fp1 i→i ∉ refs rs→OC pp:=fun i pp hp hi=>⟨.inl ⟨i,hp⟩,kN i pp hp hi⟩
 have nD:∀ pp,NN fp2 (ad O L') pp→NN fpD (ad OC L') pp:=fun pp z=>by
  rcases z with ⟨i,z⟩ | z | z
  ·rcases fp2c i pp z with ⟨j,_,z⟩ | ⟨hi,z⟩
   ·exact .inl ⟨j,z⟩
   ·exact .inr (.inl (fOC i pp z hi))
  ·exact .inr (.inl (oOC pp z))
  ·exact .inr (.inr z)
 have hnew:∀ pp,(pp∈L'∨Fp fpD pp)→NN fp1 (ad O L) pp∨H1 pp = none:=fun pp z=>(pc.new pp z).imp (cN pp) id
 have back1:∀ pp,(Fp (fpC rs Ls fp1) pp∨H1 pp = none)→Fp fp pp∨H pp = none:=fun pp z=>by
  rcases z with ⟨j,z⟩ | z
  ·rcases fpc j pp z with ⟨_,_,z⟩ | ⟨i,_,z⟩
   ·exact p.new pp (.inl (s2 j pp z))
   ·exact p.new pp (.inr ⟨i,z⟩)
  ·cases e:H pp with
   | none=>exact .inr rfl
   | some o =>
    by_cases hf:Fp fp pp
    ·exact .inl hf
    ·rw [p.kept pp o e (.inl hf)] at z; cases z
 have slot2:∀ i st b,(back rs as' ρ1)[i]? = some (some (st,b))→(∃ j,ixR rs i = some j∧rs[j]? = some (.ref i)∧as'[j]? = some b∧∃ c,ρ1[i]? = some (some (st,c)))∨(ixR rs i = none∧i ∉ refs rs ∧ ρ1[i]? = some (some (st,b))):=fun i st b hb=>by
  cases e:ixR rs i with
  | some j =>
   have hr:=Fg e
   have hj:j < rs.length:=AF hr
   obtain ⟨y,hy,ha⟩:=g2 j _ hr
   obtain ⟨st',h1,_,_⟩:=DO ha
   have hb':=E3 (as:=as') (a:=as'[j]'(by lia)) hnd hr (by simp) h1
   rw [hb] at hb'
   cases hb'
   exact .inl ⟨j,rfl,hr,by simp,_,h1⟩
  | none =>
   have hi:=Ff e
   rw [DP hi] at hb
   exact .inr ⟨rfl,hi,hb⟩
 have rel2:Rel K (back rs as' ρ1) σ H2 (ad O L') fp2:=by
  refine ⟨by rw [Gr]; exact p.rel.len,fun i st b hb=>?_,fun i h=>?_,fun i=>?_,fun i1 i2 pp h1 h2=>?_,fun i pp h z=>?_,fun pp z=>pc.rel.al pp (nD pp z)⟩
  ·rcases slot2 i st b hb with ⟨j,ej,hr,hb2,c,hc⟩ | ⟨ej,hi,hb2⟩
   ·obtain ⟨y,hy,ha⟩:=g2 j _ hr
    obtain ⟨st',h1,h2,_⟩:=DO ha
    obtain ⟨v',h3,h4⟩:=pc.rel.slot j _ _ (GD (st:=y.1) (a0:=y.2) hy h2 hb2)
    have hv:vs[j]? = some v':=by
     rw [List.getElem?_map] at h3
     cases e:vs[j]? with
     | none=>rw [e] at h3; cases h3
     | some w=>rw [e] at h3; cases h3; rfl
    have q1:=s1 j v' _ hv hr
    have:fp2 i = fpD j:=by simp only [fp2,ej]
    exact ⟨v',q1.2,by rw [this]; exact Dc nD h4⟩
   ·obtain ⟨v',h3,h4⟩:=p.rel.slot i _ _ hb2
    have:fp2 i = fp1 i:=by simp only [fp2,ej]
    refine ⟨v',h3,?_⟩
    rw [this]
    refine h4.tr (M:=Fp (fpC rs Ls fp1)) cN pc.kept (fun pp z=>?_) fun pp hp=>kN i pp hp hi
    rcases z with ⟨i',z⟩ | z | z
    ·rcases fp2c i' pp z with ⟨j,_,z⟩ | ⟨_,z⟩
     ·exact hnew pp (.inr ⟨j,z⟩)
     ·exact .inl (.inl ⟨i',z⟩)
    ·exact .inl (.inr (.inl z))
    ·exact hnew pp (.inl z)
  ·simp only [fp2]
   split
   ·rename_i j ej
    have hr:=Fg ej
    have hj:j < rs.length:=AF hr
    obtain ⟨y,hy,ha⟩:=g2 j _ hr
    obtain ⟨st',h1,_,_⟩:=DO ha
    exact absurd (E3 (as:=as') (a:=as'[j]'(by lia)) hnd hr (by simp) h1) (h _ _)
   ·rename_i ej
    exact p.rel.out i fun st b hb=>h st b (by rw [DP (Ff ej)]; exact hb)
  ·simp only [fp2]
   split
   ·exact pc.rel.nd _
   ·exact p.rel.nd _
  ·rcases fp2c i1 pp h1 with ⟨j1,r1,z1⟩ | ⟨r1,z1⟩
   ·rcases fp2c i2 pp h2 with ⟨j2,r2,z2⟩ | ⟨r2,z2⟩
    ·have:=pc.rel.inj j1 j2 pp z1 z2
     subst this
     rw [r1] at r2; cases r2; rfl
    ·exact absurd (.inl (fOC i2 pp z2 r2)) (pc.rel.off j1 pp z1)
   ·rcases fp2c i2 pp h2 with ⟨j2,r2,z2⟩ | ⟨r2,z2⟩
    ·exact absurd (.inl (fOC i1 pp z1 r1)) (pc.rel.off j2 pp z2)
    ·exact p.rel.inj i1 i2 pp z1 z2
  ·rcases fp2c i pp h with ⟨j,r1,z1⟩ | ⟨r1,z1⟩
   ·exact pc.rel.off j pp z1 (z.imp (oOC pp) id)
   ·rcases z with z | z
    ·exact p.rel.off i pp z1 (.inl z)
    ·exact pc.lo pp z (fOC i pp z1 r1)
 refine ⟨L',fp2,⟨rel2,pc.nd,fun pp hp z=>pc.lo pp hp (oOC pp z),fun pp hp=>?_,p.kept.trans pc.kept fun pp z=>back1 pp (.inl z),rfl,p.stab.trans fun i st b hb hs=>?_⟩,Dc nD qc⟩
 ·rcases hp with hp | ⟨i,hp⟩
  ·exact back1 pp (pc.new pp (.inl hp))
  ·rcases fp2c i pp hp with ⟨j,_,z⟩ | ⟨_,z⟩
   ·exact back1 pp (pc.new pp (.inr ⟨j,z⟩))
   ·exact p.new pp (.inr ⟨i,z⟩)
 ·cases e:ixR rs i with
  | none=>exact ⟨b,by rw [DP (Ff e)]; exact hb,rfl,fun _=>rfl⟩
  | some j =>
   have hr:=Fg e
   have hj:j < rs.length:=AF hr
   obtain ⟨y,hy,ha⟩:=g2 j _ hr
   obtain ⟨st',h1,h2,h3⟩:=DO ha
   rw [hb] at h1; cases h1
   refine ⟨_,E3 (as:=as') (a:=as'[j]'(by lia)) hnd hr (by simp) hb,rfl,fun z=>?_⟩
   obtain ⟨a',h4,_,h5⟩:=pc.stab j y.1 y.2 (by rw [List.getElem?_map,hy]; rfl) h2
   obtain ⟨_,_,_,h6⟩:=GR h4
   have:as'[j]? = some (as'[j]'(by lia)):=by simp
   rw [this] at h6
   have e5:=h5 (h3 z)
   have e6:as'[j]'(by lia) = a':=Option.some.inj h6
   rw [e6,e5]
end
end J
end
section
namespace J
open PySem PySem.Spec PyProof.Rows L2
noncomputable def JE (X:Cx) (e:Expr) (m:ME):Prop:=PE X e (tE X.K m)
noncomputable def JT (X:Cx) (e:Expr) (m:MT):Prop:=PT X e (tT X.K m)
noncomputable def JW (X:Cx) (e:Expr) (m:MT):Prop:=PW X e (tT X.K m)
noncomputable def JA (X:Cx) (es:List Expr) (m:MA):Prop:=PA X es (tA X.K m)
noncomputable def JI (X:Cx) (tg e:Expr) (m:MI):Prop:=PI X tg e (tI X.K m)
noncomputable def JS (X:Cx) (s:Stmt) (m:MS):Prop:=PS X s (tS X.K m)
noncomputable def JSs (X:Cx) (s:List Stmt) (m:MS):Prop:=PSs X s (tS X.K m)
section
variable {X:Cx} {a b c e:Expr} {es:List Expr} {m m1 m2 m3:ME} {ms:MA} {mt mt2:MT} {mi:MI} {p pos pos':Pos} {x:Str} {s:Stmt} {ss:List Stmt} {w1 w2:MS}
theorem AW {t t':TE} (h:PE X e t) (w:∀ σ H Q,t' σ H Q→t σ H Q):PE X e t':=fun pins s σ H Q I q=>h pins s σ H Q I (w σ H Q q)
theorem Gp {t t':TT} (h:PT X e t) (w:∀ σ H Q,t' σ H Q→t σ H Q):PT X e t':=fun pins s σ H Q I q=>h pins s σ H Q I (w σ H Q q)
theorem Oz {t t':TT} (h:PW X e t) (w:∀ σ H Q,t' σ H Q→t σ H Q):PW X e t':=fun wh pins s σ H Q I q=>h wh pins s σ H Q I (w σ H Q q)
theorem K3 {t t':TA} (h:PA X es t) (w:∀ σ H Q,t' σ H Q→t σ H Q):PA X es t':=fun pp pins s σ H Q I q=>h pp pins s σ H Q I (w σ H Q q)
theorem Cf {t t':TS} (h:PS X s t) (w:∀ D σ H,t' D σ H→t D σ H):PS X s t':=fun pins s σ H D I q=>h pins s σ H D I (w D σ H q)
theorem Fq {t t':TS} (h:PSs X ss t) (w:∀ D σ H,t' D σ H→t D σ H):PSs X ss t':=fun pins s σ H D I q=>h pins s σ H D I (w D σ H q)
theorem Ir {tg:Expr} {t t':TI} (h:PI X tg e t) (w:∀ σ H R,t' σ H R→t σ H R):PI X tg e t':=fun pins s σ H R I q=>h pins s σ H R I (w σ H R q)
theorem J1 (i:Nat) (hN:X.N[i]? = some x) (hv:Vis X.env.scope x) (hd:(x == ("__debug__" : Str)) = false) (hcd:(x == ("__classdict__" : Str)) = false):JE X (.Name x pos) (Ab i):=AW (Kj hN hv hd hcd) fun _ _ _ h=>QP h
theorem Aj {i:Int} {j:Nat}:JE X (.Constant (.int i) j pos) (Ae (.int i)):=AW Qf fun _ _ _ h=>G9 (fun _ _=>.int i) h
theorem C9 {b:Bool} {j:Nat}:JE X (.Constant (.bool b) j pos) (Ae (.bl b)):=AW RE fun _ _ _ h=>G9 (fun _ _=>.bl b) h
theorem GH {j:Nat}:JE X (.Constant .none j pos) (Ae .non):=AW Qo fun _ _ _ h=>G9 (fun _ _=>.non) h
theorem Bo {z:Str} {j:Nat} (hz:z.length≤sizeLine):JE X (.Constant (.str z) j pos) (Ae (.str z)):=AW Qr fun _ _ _ h=>G9 (fun _ _=>.str z hz) h
theorem Gj {n:Int} (G:GInt X.mg x n) (hg:Gl X x) (hd:(x == ("__debug__" : Str)) = false):JE X (.Name x pos) (Ae (.int n)):=AW (Ol G rfl hg hd) fun _ _ _ h=>G9 (fun _ _=>.int n) h
theorem Ah (h:JE X e m):JE X e (Ad m):=AW h fun _ _ _ h=>NA h
theorem Ai:JA X [] Af:=K3 FU fun _ _ _ h=>Kv h
theorem Ac (hs:starEach (e :: es) X.env = (false,eval e X.env) :: starEach es X.env) (h:JE X e m) (t:JA X es ms):JA X (e :: es) (Aa m ms):=K3 (DE h t hs) fun _ _ _ h=>Gq h
noncomputable def r1L (r:V→Hp→VK→Prop):List V→Hp→VK→Prop:=fun xs H Q=>∃ x,xs = [x]∧r x H Q
noncomputable def r2L (r:R2):List V→Hp→VK→Prop:=fun xs H Q=>∃ x y,xs = [x,y]∧r x y H Q
noncomputable def m1L (m:ME):MA:=Aa m Af
noncomputable def m2L (m m':ME):MA:=Aa m (Aa m' Af)
theorem two {K:Frag} {f:List A→Option A} {r:R2} (ok:OpN K f (r2L r)) {σ:L2.St} {H:Hp} {Q:VK} (h:tE K (opM f (m2L m1 m2)) σ H Q):tOp r (tE K m1) (tE K m2) σ H Q:=by
 have h1:=Gq (Lf ok h)
 refine tE.mono h1 fun v H1 h2=>tE.mono (Gq h2) fun u H2 h3=>?_
 obtain ⟨x,y,e,q⟩:=Kv h3
 cases e
 exact q
theorem one {K:Frag} {f:List A→Option A} {r:V→Hp→VK→Prop} (ok:OpN K f (r1L r)) {σ:L2.St} {H:Hp} {Q:VK} (h:tE K (opM f (m1L m)) σ H Q):tUn r (tE K m) σ H Q:=by
 refine tE.mono (Gq (Lf ok h)) fun v H1 h2=>?_
 obtain ⟨x,e,q⟩:=Kv h2
 cases e
 exact q
theorem AB {op:Operator} {f:List A→Option A} {r:R2} (ok:OpN X.K f (r2L r)) (ho:OpR X (binaryOp op) r) (ha:JE X a m1) (hb:JE X b m2):JE X (.BinOp a op b pos) (opM f (m2L m1 m2)):=AW (RI ho ha hb) fun _ _ _ h=>two ok h
theorem Jd {op:UnaryOp} {f:List A→Option A} {r:V→Hp→VK→Prop} (ok:OpN X.K f (r1L r)) (ho:UnR X (unaryOp op) r) (ha:JE X a m):JE X (.UnaryOp op a pos) (opM f (m1L m)):=AW (RJ ho ha) fun _ _ _ h=>one ok h
theorem EV {op:CmpOp} {f:List A→Option A} {r:R2} (ok:OpN X.K f (r2L r)) (ho:OpR X (compareOp op) r) (hm:behindInMarks op b = false) (ha:JE X a m1) (hb:JE X b m2):JE X (.Compare a [op] [b] pos) (opM f (m2L m1 m2)):=AW (Oj ho ha hb hm) fun _ _ _ h=>two ok h
theorem Bm {op:CmpOp} {f:List A→Option A} {r:R2} (ok:OpN X.K f (r2L r)) (ho:OpR X (compareOp op) r) (hm:behindInMarks op b = false) (ha:JE X a m1) (hb:JE X b m2):JT X (.Compare a [op] [b] pos) (AG (opM f (m2L m1 m2))):=
 Gp (Ov ho ha hb hm) fun _ _ _ h=>two ok (IH h)
theorem Bi {f:List A→Option A} {r:R2} (ok:OpN X.K f (r2L r)) (ho:IxR X r) (hs:KG b) (ha:JE X a m1) (hb:JE X b m2):JE X (.Subscript a b pos) (opM f (m2L m1 m2)):=AW (RG ho ha hb hs) fun _ _ _ h=>two ok h
theorem AN {id:String} {f:List A→Option A} {r:List V→Hp→VK→Prop} (ok:OpN X.K f r) (hc:Cg X (.builtin id) r) (hm:X.mg x = none) (hv:bootBuiltins x = some (.builtin id)) (hn:x ≠ "__name__") (hdb:(x == ("__debug__" : Str)) = false) (hg:Gl X x)
  (he:starEach (e :: es) X.env = (false,eval e X.env) :: starEach es X.env) (hpl:(backTo pos (starEach es X.env)).any (·.1) = false) (ha:JA X (e :: es) ms):JE X (.Call (.Name x p) (e :: es) [] pos) (opM f ms):=
 AW (LH hc hm hv hn hdb hg he hpl ha) fun _ _ _ h=>Lf ok h
theorem Em {T:String} {f:List A→Option A} {r:List V→Hp→VK→Prop} (ok:OpN X.K f r) (hc:Cg X (.type T) r) (hm:X.mg x = none) (hv:bootBuiltins x = some (.type T)) (hn:x ≠ "__name__") (hdb:(x == ("__debug__" : Str)) = false) (hg:Gl X x)
  (he:starEach (e :: es) X.env = (false,eval e X.env) :: starEach es X.env) (hpl:(backTo pos (starEach es X.env)).any (·.1) = false) (ha:JA X (e :: es) ms):JE X (.Call (.Name x p) (e :: es) [] pos) (opM f ms):=
 AW (LI hc hm hv hn hdb hg he hpl ha) fun _ _ _ h=>Lf ok h
theorem D5 {op:BoolOp} (h:JE X a m):JE X (.BoolOp op [a] pos) m:=Qq h
theorem DK (ha:JE X a m1) (hb:JE X (.BoolOp .And (b :: es) pos) m2):JE X (.BoolOp .And (a :: b :: es) pos) (andM m1 m2):=AW (Qe ha hb) fun _ _ _ h=>QK h
theorem PK (ha:JE X a m1):JE X (.UnaryOp .Not a pos) (notM m1):=AW (Qp ha) fun _ _ _ h=>QN h
theorem CN (he:∀ whole,isTrue e X.env whole = (do let v ← whole; standAt e.pos; holding [v] (truthy v))) (h:JE X e m):JT X e (AG m):=Gp (Ow he h) fun _ _ _ h=>IH h
theorem FF (ha:JT X a mt):JW X (.BoolOp .Or [a] pos) mt:=Qz ha
theorem HH (ha:JT X a mt) (hb:JW X (.BoolOp .Or (b :: es) pos) mt2):JW X (.BoolOp .Or (a :: b :: es) pos) (orT mt mt2):=Oz (RK ha hb) fun _ _ _ h=>R4 h
theorem EC (h:JW X e mt):JT X e mt:=h.pt
theorem Cy (ha:JT X a mt):JT X (.UnaryOp .Not a pos) (C4 mt):=Gp (Qx ha) fun _ _ _ h=>Q1 h
theorem Nz {K:Frag} {f g:List A→Option A} {r r':R2} (ok:OpN K f (r2L r)) (ok':OpN K g (r2L r')) {σ:L2.St} {H:Hp} {Q:VK} (h:tE K (ER f g m1 m2 m3) σ H Q):Kw r r' (tE K m1) (tE K m2) (tE K m3) σ H Q:=by
 obtain ⟨ρ,O,fp,rl,y,ρ',h0,k⟩:=h
 simp only [ER,bind_eq_some_iff] at h0
 obtain ⟨⟨r1,ρ1⟩,e1,⟨r2,ρ2⟩,e2,as,e3,z,e4,kb,e5,e6⟩:=h0
 refine ⟨ρ,O,fp,rl,r1,ρ1,e1,fun v1 H1 yy=>?_⟩
 obtain ⟨L1,fp1,p1,q1⟩:=yy
 refine ⟨ρ1,ad O L1,fp1,p1.rel,r2,ρ2,e2,fun v2 H2 yy=>?_⟩
 obtain ⟨L2,fp2,p2,q2⟩:=yy
 have p12:=p1.then p2
 have q1':=p2.rr p1.rel q1 fun _ z=>z
 have q2':RR K (NN fp2 (ad O (L1 ++ L2))) H2 σ v2 r2 L2:=by
  have e:ad (ad O L1) L2 = ad O (L1 ++ L2):=funext fun p=>propext HQ
  rw [← e]
  exact q2
 have hs:HP K (NN fp2 (ad O (L1 ++ L2))) H2 [v1,v2] as:=p12.rel.peeks (rs:=[r1,r2]) (L:=L1 ++ L2) ⟨L1,L2,rfl,q1',L2,[],by simp,q2',rfl⟩ e3
 have key:=ok _ H2 [v1,v2] as z (fun u H3=>∃ kk,u = .bl kk∧if kk = true then tE K m3 σ H3 fun w H4=>r' v2 w H4 Q else Q (.bl false) H3) hs e4 ?_
 ·obtain ⟨x',y',e,q⟩:=key
  cases e
  exact q
 intro u H3 o
 obtain ⟨sm,L3,q3,nd3,nw3⟩:=o
 have hb:=Nj q3 e5
 refine ⟨kb,hb,?_⟩
 have p3:Post K O fp H ρ ρ2 σ σ (L1 ++ L2) fp2 H3:=p12.more sm p12.nd fun p hp=>.inl hp
 cases kb with
 | false =>
  rw [if_neg Bool.false_ne_true]
  simp at e6
  obtain ⟨rfl,rfl⟩:=e6
  exact k _ H3 ⟨[],fp2,p3.drop0,Jw (.bl _)⟩
 | true =>
  rw [if_pos rfl]
  simp only [if_true,bind_eq_some_iff,map_eq_some_iff] at e6
  obtain ⟨⟨r3,ρ3⟩,e7,bs,e8,z2,e9,e10⟩:=e6
  cases e10
  refine ⟨ρ2,ad O (L1 ++ L2),fp2,p3.rel,r3,ρ3,e7,fun v3 H4 yy=>?_⟩
  obtain ⟨L4,fp4,p4,q4⟩:=yy
  have p34:=p3.then p4
  have q2'':RR K (NN fp2 (ad O (L1 ++ L2))) H3 σ v2 r2 L2:=by
   cases r2 with
   | ref i=>exact q2'
   | val a=>exact AE.tr (M:=fun _=>False) (fun _ z=>z.elim) (B8.kept sm) (fun p z=>.inl z) (fun _ _ z=>z) q2'
  have q2f:=p4.rr p3.rel q2'' fun p z=>List.mem_append_right _ z
  have q4':RR K (NN fp4 (ad O ((L1 ++ L2) ++ L4))) H4 σ v3 r3 L4:=by
   have e:ad (ad O (L1 ++ L2)) L4 = ad O ((L1 ++ L2) ++ L4):=funext fun p=>propext HQ
   rw [← e]
   exact q4
  have hs2:HP K (NN fp4 (ad O ((L1 ++ L2) ++ L4))) H4 [v2,v3] bs:=p34.rel.peeks (rs:=[r2,r3]) (L:=L2 ++ L4) ⟨L2,L4,rfl,q2f,L4,[],by simp,q4',rfl⟩ e8
  obtain ⟨x',y',e,q⟩:=ok' _ H4 [v2,v3] bs z2 Q hs2 e9 fun u H5 o=>k u H5 (p34.out o)
  cases e
  exact q
theorem JZ {op op':CmpOp} {f g:List A→Option A} {r r':R2} (ok:OpN X.K f (r2L r)) (ok':OpN X.K g (r2L r')) (ho:OpR X (compareOp op) r) (ho':OpR X (compareOp op') r') (hm:lastMarks [op,op'] [b,c] = false) (ha:JE X a m1) (hb:JE X b m2) (hc:JE X c m3) :
  JE X (.Compare a [op,op'] [b,c] pos) (ER f g m1 m2 m3):=AW (M7 ho ho' ha hb hc hm) fun _ _ _ h=>Nz ok ok' h
theorem MG {op op':CmpOp} {f g:List A→Option A} {r r':R2} (ok:OpN X.K f (r2L r)) (ok':OpN X.K g (r2L r')) (ho:OpR X (compareOp op) r) (ho':OpR X (compareOp op') r') (hm:lastMarks [op,op'] [b,c] = false) (ha:JE X a m1) (hb:JE X b m2) (hc:JE X c m3) :
  JT X (.Compare a [op,op'] [b,c] pos) (AG (ER f g m1 m2 m3)):=Gp (Nf ho ho' ha hb hc hm) fun _ _ _ h=>Nz ok ok' (IH h)
theorem MC {k:Nat} (h:JA X es ms):JE X (.Tuple es k pos) (II ms):=AW (M8 h) fun _ _ _ h=>QO h
theorem Be (h:JA X es ms):JE X (.List es pos) (lstM ms):=AW (Qn h) fun _ _ _ h=>QM h
theorem Av {P:Program} {w:World} {K:Frag} {mg:Str→Option Value} {base:Heap} {CX:CXT} {k j:Nat} {ps:List Str} {Φ:Fn} {np:Nat} {E:XK} (D:Def P w K mg base CX k x ps (spJ K Φ np)) (hnp:∀ args y,Φ args = some y→args.length = np)
  (hP:X.prog = P) (hw:X.w = w) (hK:X.K = K) (hm:X.mg = mg) (hb:X.base = base) (hr:Room j X.A) (hkj:k≤j) (hx:Passes CX X E) (hdb:(x == ("__debug__" : Str)) = false) (hg:Gl X x)
  (he:starEach (e :: es) X.env = (false,eval e X.env) :: starEach es X.env) (hpl:(backTo pos (starEach es X.env)).any (·.1) = false) (ha:JA X (e :: es) ms):JE X (.Call (.Name x p) (e :: es) [] pos) (Ak Φ ms):=by
 subst hP hw hK hm hb
 exact AW (Ki D hr hkj hx ha hg hdb he hpl) fun _ _ _ h=>Le hnp h
noncomputable def JEc (X:Cx) (own:List Str) (scope:Scope) (e:Expr) (m:ME):Prop:=∀ C s H fp pins,JE (cxC X own scope C s H fp pins) e m
noncomputable def JTc (X:Cx) (own:List Str) (scope:Scope) (ifs:List Expr) (m:MT):Prop:=∀ C s H fp pins,PTs (cxC X own scope C s H fp pins) ifs (tT X.K m)
theorem DC {own:List Str} {scope:Scope}:JTc X own scope [] D9:=fun C s H fp pins=>fun _ _ _ H _ I h=>by
 obtain ⟨ρ,O,fp,r,x,ρ',e,k⟩:=h
 cases e
 exact Ox _ _ _ H _ I (k fp H r.post)
theorem Ig {own:List Str} {scope:Scope} (h:∀ C s H fp pins,JT (cxC X own scope C s H fp pins) c mt):JTc X own scope [c] mt:=fun C s H fp pins=>Oy (h C s H fp pins)
theorem D4 {scope:Scope} {iter elt:Expr} {ifs:List Expr} {px:Pos} (hok:BX [x] X.N scope X.env.scope = true) (hc:X.calm = true) (hn:X.N.Nodup) (hx:scope.names.lookup x = some .local)
  (hs:∀ z,foldedSetIterable iter X.env z = pure z) (hi:JI X (.Name x px) iter mi) (ht:JTc X [x] scope ifs mt) (he:JEc X [x] scope elt m) :
  JE X (.ListComp elt [⟨.Name x px,iter,ifs,0⟩] scope pos) (BH mi 0 mt m):=
 AW (Qm (te:=tE X.K m) hok hc ⟨hn⟩ rfl hx hs hi ht (fun C s H fp pins=>he C s H fp pins)) fun _ _ _ h=>IG h
theorem Qu {tg l:Expr} {tl:TE} (hl:PE X l tl):PI X tg l (Rn X.K tl):=by
 intro pins s σ H R I h
 refine thn (hl pins s σ H _ I h) fun v s1 yy=>?_
 obtain ⟨y,H1,I1,r1,q1⟩:=yy
 obtain ⟨a,e,q1⟩:=q1
 subst e
 cases r1
 rcases q1 with ⟨⟨xs,hq⟩,q⟩ | ⟨⟨xs,hq⟩,q⟩
 ·obtain ⟨its,rv,p,hz⟩:=I1.list hq
  refine wpAny_pyIter_list p.isList ?_
  refine ⟨s1.heap.objs.size,[s1.heap.objs.size],_,_,H1,rfl,I1.kept (t':=s1.toks) fun b o e=>Heap.get?_push_of_some _ e,LY a _,⟨_,Heap.get?_push_size _ rfl,rfl,rfl⟩,fun b hb=>?_,q⟩
  have e:b = s1.heap.objs.size:=by simpa using hb
  subst e
  exact I1.fpOk (Nat.le_refl _) (I1.hok.fresh (Nat.le_refl _))
 ·obtain ⟨its,rv,p,hz⟩:=I1.tuple hq
  refine wpAny_pyIter_tuple (show s1.heap.IsTuple a its.toArray from p) ?_
  refine ⟨s1.heap.objs.size,[s1.heap.objs.size],_,_,H1,rfl,I1.kept (t':=s1.toks) fun b o e=>Heap.get?_push_of_some _ e,Kz a _,⟨_,Heap.get?_push_size _ rfl,rfl,rfl⟩,fun b hb=>?_,q⟩
  have e:b = s1.heap.objs.size:=by simpa using hb
  subst e
  exact I1.fpOk (Nat.le_refl _) (I1.hok.fresh (Nat.le_refl _))
theorem FE {tg:Expr} (h:JE X e m):JI X tg e (CZ m):=Ir (Qu h) fun _ _ _ h=>QQ h
theorem Lg {K:Frag} {σ:L2.St} {H:Hp} {R:It→Hp→Prop} (h:tI K (BL m) σ H R):Mt (CC (tE K m) Gg) σ H R:=by
 obtain ⟨ρ,O,fp,rl,ds,n,ρ',e,k⟩:=h
 simp only [BL,bind_eq_some_iff] at e
 obtain ⟨⟨r,ρ1⟩,e1,e2⟩:=e
 dsimp only at e2
 split at e2
 ·rename_i j
  split at e2
  ·rename_i hz
   cases e2
   refine ⟨ρ,O,fp,rl,_,_,e1,fun v H1 yy=>?_⟩
   obtain ⟨L,fp1,p,q⟩:=yy
   have q':AE K (NN fp1 (ad O L)) H1 v (.fz (.int j)) L:=q
   rw [AE] at q'
   obtain ⟨rfl,q'⟩:=q'
   cases q'
   refine ⟨j,rfl,hz.1,hz.2,k _ _ ⟨.val (.fz .non),.non,.fz .non,[],fp1,p,DG (K:=K) .non,rfl,rfl,fun N H2 _=>?_⟩⟩
   have hl:(C5 0 j.toNat).length = j.toNat:=by simp [C5]
   refine ⟨fun i hi=>by show i < j.toNat; lia,fun i hi=>by show j.toNat≤i; lia,fun i v H' d y e=>?_⟩
   obtain ⟨rfl,rfl⟩:=y
   refine ⟨fun _ _ z=>z,?_⟩
   have hi:i < j.toNat:=by have:=AF e; lia
   simp only [C5,List.getElem?_map,List.getElem?_range hi,Option.map_some,Option.some.injEq] at e
   subst e
   exact .int _
  ·cases e2
 ·cases e2
theorem D6 {tg:Expr} (hg:Gl X "range") (hm:X.mg "range" = none) (hs:starEach [a] X.env = [(false,eval a X.env)]) (h:JE X a m):JI X tg (.Call (.Name "range" p) [a] [] pos) (BL m):=Ir (LK hg hm (DE h FU hs) hs) fun _ _ _ h=>Lg h
theorem AZ:JSs X [] AY:=Fq Ot fun _ _ _ h=>OP h
theorem Ao (h:JS X s w1):JSs X [s] w1:=Ou h
theorem Al (h:JS X s w1) (t:JSs X ss w2):JSs X (s :: ss) (AL w1 w2):=Fq (GY h t) fun _ _ _ h=>QY h
theorem Ca:JS X s Cz:=fun _ _ _ _ _ _ y=>by
 obtain ⟨_,_,_,_,_,h,_⟩:=y
 cases h
theorem PL (hs:swapsWith e none pos.line X.env = pure false) (h:JE X e m):JS X (.Expr e pos) (Hf m):=Cf (Iu h hs) fun _ _ _ h=>QU h
theorem AR (h:JE X e m):JS X (.Return (some e) pos) (retS m):=Cf (Nd h) fun _ _ _ h=>QX h
theorem BK {st st':List Stmt} (hc:JT X c mt) (ha:JSs X st w1) (hb:JSs X st' w2):JS X (.If c st st' pos) (ifS mt w1 w2):=Cf (O4 hc ha hb) fun _ _ _ h=>R3 h
theorem A3 (i:Nat) (hN:X.N.Nodup) (hi:X.N[i]? = some x) (hx:Loc X.env.scope x) (hf:X.fn x = true) (hs:swapsWith e (some (.Name x pos')) pos.line X.env = pure false) (h:JE X e m):JS X (.Assign [.Name x pos'] e pos) (AK i m):=
 Cf (Qw hN hi hx h hs (.inl hf)) fun _ _ _ h=>NC h
theorem Ie {tg iter:Expr} {st:List Stmt} {is:List Nat} {one:Bool} (hp:PassesOwn (model X.prog X.w) X.A X.env X.xe) (hc:X.calm = true) (hi:JI X tg iter mi) (hg:PG X tg (Lp X.K is one)) (hb:JSs X st w1)
  (hs:∀ y,foldedSetIterable iter X.env y = pure y):JS X (.For tg iter st [] pos) (GB is one mi w1):=Cf (Qv hp hc hi hg hb hs) fun _ _ _ h=>QV h
theorem Iq (i:Nat) (hN:X.N.Nodup) (hi:X.N[i]? = some x) (hx:Loc X.env.scope x) (hf:X.fn x = true):PG X (.Name x pos) (Lp X.K [i] true):=K5 hN hi hx (.inl hf)
theorem Oo:PGs X [] (Ej []):=Oq
theorem Jq (i:Nat) {is:List Nat} (hN:X.N.Nodup) (hi:X.N[i]? = some x) (hx:Loc X.env.scope x) (hf:X.fn x = true) (t:PGs X es (Ej is))
  (hs:(assignEach (.Name x pos :: es) X.env).map (·.2) = assign (.Name x pos) X.env :: (assignEach es X.env).map (·.2)):PGs X (.Name x pos :: es) (Ej (i :: is)):=M9 (K5 hN hi hx (.inl hf)) t hs
theorem Om {is:List Nat} {k:Nat} (hc:X.calm = true) (h:PGs X es (Ej is)) (hn:(assignEach es X.env).length = is.length) (hst:(assignEach es X.env).findIdx? (·.1) = none):PG X (.Tuple es k pos) (Lp X.K is false):=Qt hc h hn hst
theorem PM {tg:Expr} {is:List Nat} (hg:PG X tg (Lp X.K is false)) (hs:swapsWithSole [tg] e pos.line X.env = pure false) (hw:swappedStores [tg] e X.env = pure none) (h1:(assignEach [tg] X.env).map (·.2) = [assign tg X.env]) (h:JE X e m) :
  JS X (.Assign [tg] e pos) (KC is m):=Cf (Nb h hg hs hw h1) fun _ _ _ h=>QZ h
end
end J
end
section
namespace L2
open PySem PySem.Spec PyProof.Rows
section
variable {P:Program} {w:World} {H:Hp} {s:Shared} {N N':Addr→Prop}
theorem Jt (hok:HOk P w H s.heap) {A:Around} {n:Nat} {x y:V} {d e:D} {v u:Value} (r:RepA N H x d) (q:RepA N' H y e) (rx:RelV x v) (ry:RelV y u) (hs:Sh n d) (hu:A.units + n < cLine):SeqAt.RcNeAt A s v u (!eqD d e):=by
 cases r with
 | non =>
  cases rx
  cases q with
  | non=>cases ry; exact SeqAt.RcNeAt.none_none
  | bl b=>cases ry; exact SeqAt.RcNeAt.none_bool b
  | int b=>obtain ⟨t,rfl⟩:=ry; exact SeqAt.RcNeAt.none_int b t
  | str b=>obtain ⟨t,rfl⟩:=ry; exact SeqAt.RcNeAt.none_str b t
  | lst h=>cases ry; obtain ⟨its,_,hl⟩:=Bf hok h; exact SeqAt.RcNeAt.none_list hl (lt0 hu)
  | tup h=>cases ry; obtain ⟨its,_,hl⟩:=Bw hok h; exact SeqAt.RcNeAt.none_tuple hl (lt0 hu)
 | bl a =>
  cases rx
  cases q with
  | non=>cases ry; exact SeqAt.RcNeAt.bool_none a
  | bl b=>cases ry; exact SeqAt.RcNeAt.bool_bool a b
  | int b=>obtain ⟨t,rfl⟩:=ry; exact SeqAt.RcNeAt.bool_int a b t
  | str b=>obtain ⟨t,rfl⟩:=ry; exact SeqAt.RcNeAt.bool_str a b t
  | lst h=>cases ry; obtain ⟨its,_,hl⟩:=Bf hok h; exact SeqAt.RcNeAt.bool_list a hl (lt0 hu)
  | tup h=>cases ry; obtain ⟨its,_,hl⟩:=Bw hok h; exact SeqAt.RcNeAt.bool_tuple a hl (lt0 hu)
 | int a =>
  obtain ⟨t',rfl⟩:=rx
  cases q with
  | non=>cases ry; exact SeqAt.RcNeAt.int_none a t'
  | bl b=>cases ry; exact SeqAt.RcNeAt.int_bool a t' b
  | int b=>obtain ⟨t,rfl⟩:=ry; exact SeqAt.RcNeAt.int_int a t' b t
  | str b=>obtain ⟨t,rfl⟩:=ry; exact SeqAt.RcNeAt.int_str a t' b t
  | lst h=>cases ry; obtain ⟨its,_,hl⟩:=Bf hok h; exact SeqAt.RcNeAt.int_list a t' hl (lt0 hu)
  | tup h=>cases ry; obtain ⟨its,_,hl⟩:=Bw hok h; exact SeqAt.RcNeAt.int_tuple a t' hl (lt0 hu)
 | str a =>
  obtain ⟨t',rfl⟩:=rx
  cases q with
  | non=>cases ry; exact SeqAt.RcNeAt.str_none a t'
  | bl b=>cases ry; exact SeqAt.RcNeAt.str_bool a t' b
  | int b=>obtain ⟨t,rfl⟩:=ry; exact SeqAt.RcNeAt.str_int a t' b t
  | str b=>obtain ⟨t,rfl⟩:=ry; exact SeqAt.RcNeAt.str_str a t' b t
  | lst h=>cases ry; obtain ⟨its,_,hl⟩:=Bf hok h; exact SeqAt.RcNeAt.str_list a t' hl (lt0 hu)
  | tup h=>cases ry; obtain ⟨its,_,hl⟩:=Bw hok h; exact SeqAt.RcNeAt.str_tuple a t' hl (lt0 hu)
 | @lst a vs ds h hz hn hl hr =>
  cases rx
  obtain ⟨its,rv,hil⟩:=Bf hok h
  cases hs with
  | @lst n _ hs =>
   cases q with
   | non=>cases ry; exact SeqAt.RcNeAt.list_none hil (lt0 hu)
   | bl b=>cases ry; exact SeqAt.RcNeAt.list_bool b hil (lt0 hu)
   | int b=>obtain ⟨t,rfl⟩:=ry; exact SeqAt.RcNeAt.list_int b t hil (lt0 hu)
   | str b=>obtain ⟨t,rfl⟩:=ry; exact SeqAt.RcNeAt.list_str b t hil (lt0 hu)
   | @lst a' vs' es h' hz' hn' hl' hr' =>
    cases ry
    obtain ⟨its',rv',hil'⟩:=Bf hok h'
    have l1:=rv.length
    have l2:=rv'.length
    rw [F6]
    by_cases hlen:ds.length = es.length
    ·rw [Dn hlen,show ds.length = its.toArray.size by simp; lia]
     refine SeqAt.RcNeAt.lists hil hil' (by simp; lia) (lt0 hu) (DT rv rv' hl hl' fun i v d v' e u u' e1 e2 e3 e4 ru ru'=>?_)
     exact Ia hok (hr i v d e1 e2) (hr' i v' e e3 e4) ru ru' (hs d (List.mem_of_getElem? e2)) (lt1 hu)
    ·have:Dy ds es = false:=by
      cases q:Dy ds es with
      | false=>rfl
      | true=>exact absurd (Dp q) hlen
     rw [this]
     exact SeqAt.RcNeAt.lists_lengths hil hil' (by simp; lia) (lt0 hu)
   | tup h' =>
    cases ry
    obtain ⟨its',_,hl'⟩:=Bw hok h'
    exact SeqAt.RcNeAt.list_tuple hil hl' (lt0 hu)
 | @tup a vs ds h hz hl hr =>
  cases rx
  obtain ⟨its,rv,hil⟩:=Bw hok h
  cases hs with
  | @tup n _ hs =>
   cases q with
   | non=>cases ry; exact SeqAt.RcNeAt.tuple_none hil (lt0 hu)
   | bl b=>cases ry; exact SeqAt.RcNeAt.tuple_bool b hil (lt0 hu)
   | int b=>obtain ⟨t,rfl⟩:=ry; exact SeqAt.RcNeAt.tuple_int b t hil (lt0 hu)
   | str b=>obtain ⟨t,rfl⟩:=ry; exact SeqAt.RcNeAt.tuple_str b t hil (lt0 hu)
   | @tup a' vs' es h' hz' hl' hr' =>
    cases ry
    obtain ⟨its',rv',hil'⟩:=Bw hok h'
    have l1:=rv.length
    have l2:=rv'.length
    have q:=SeqAt.RcNeAt.tuples (A:=A) hil hil' (lt0 hu) (DT rv rv' hl hl' fun i v d v' e u u' e1 e2 e3 e4 ru ru'=>Ia hok (hr i v d e1 e2) (hr' i v' e e3 e4) ru ru' (hs d (List.mem_of_getElem? e2)) (lt1 hu))
    rw [F7]
    by_cases hlen:ds.length = es.length
    ·have e1:(its.toArray.size == its'.toArray.size) = true:=by simp; lia
     have e2:min its.toArray.size its'.toArray.size = ds.length:=by simp; lia
     rw [e1,e2,Bool.and_true,← Dn hlen] at q
     exact q
    ·have e1:(its.toArray.size == its'.toArray.size) = false:=by simp; lia
     have e3:Dy ds es = false:=by
      cases q:Dy ds es with
      | false=>rfl
      | true=>exact absurd (Dp q) hlen
     rw [e1,Bool.and_false] at q
     rw [e3]
     exact q
   | lst h' =>
    cases ry
    obtain ⟨its',_,hl'⟩:=Bf hok h'
    exact SeqAt.RcNeAt.tuple_list hil hl' (lt0 hu)
end
section
variable {X:Cx} {k:Nat}
noncomputable def QB:R2:=fun x y H Q=>∃ d e,Rep H x d∧Rep H y e∧Sh 16 d∧Q (.bl (!eqD d e)) H
theorem Qc (hr:Room k X.A):OpR X (compareOp .NotEq) QB:=by
 intro pins s σ H x y v u Q I rx ry h
 obtain ⟨d,e,r1,r2,hs,q⟩:=h
 exact EqBoolInt.of_rcne (Jt I.hok r1 r2 rx ry hs (by have:=hr.units; lia)) ⟨.bl _,H,I,rfl,q⟩
end
end L2
namespace J
open PySem PySem.Spec PyProof.Rows L2
section
variable {K:Frag} {N:Addr→Prop} {H H':Hp} {L:List Addr} {v:V} {a:A}
theorem Iy {d:D}:AE K N H v (.fz d) L↔L = []∧RepA N H v d:=by rw [AE]
theorem Bt {i:Int} (h:AE K N H v (.fz (.int i)) L):v = .int i:=by
 obtain ⟨_,h⟩:=Iy.mp h
 cases h; rfl
theorem Ex {z:Str} (h:AE K N H v (.fz (.str z)) L):v = .str z∧z.length≤sizeLine:=by
 obtain ⟨_,h⟩:=Iy.mp h
 cases h with
 | str z hz=>exact ⟨rfl,hz⟩
theorem GU {d:D} (h:RepA N H v d):IP K N H (.fz d) v H:=⟨fun _ _ z=>z,[],DG (K:=K) (Dw (fun p z=>z.elim id fun q=>by simp at q) h),List.nodup_nil,fun _ h=>by simp at h⟩
theorem C1 {i:Int}:IP K N H (.fz (.int i)) (.int i) H:=GU (.int i)
theorem DM {b:Bool}:IP K N H (.fz (.bl b)) (.bl b) H:=GU (.bl b)
theorem K2 {z:Str} (h:z.length≤sizeLine):IP K N H (.fz (.str z)) (.str z) H:=GU (.str z h)
theorem Gn {p:Addr} {vs:List V} {ds:List D} (hp:H p = none) (hz:vs.length≤sizeLine) (q:AD N H vs ds):IP K N H (.lst (ds.map A.fz)) (.ref p) (upd H p (.lst vs)):=by
 have sm:=CY (o:=.lst vs) hp
 refine ⟨sm,[p],?_,by simp,fun b hb=>by simp at hb; rw [hb]; exact hp⟩
 rw [AE]
 refine ⟨p,vs,[],rfl,rfl,AV,hz,As.of (q.tr (M:=fun _=>False) (fun _ z=>z.elim) (B8.kept sm) fun b z=>?_)⟩
 rcases z with z | z
 ·exact .inl z
 ·simp at z; subst z; exact .inr hp
theorem Og {p:Addr} {vs:List V} {ds:List D} (hp:H p = none) (hz:vs.length≤sizeLine) (q:AD N H vs ds):IP K N H (.fz (.tup ds)) (.ref p) (upd H p (.tup vs)):=by
 have sm:=CY (o:=.tup vs) hp
 refine ⟨sm,[],DG (K:=K) (Iz AV hz (q.tr (M:=fun _=>False) (fun _ z=>z.elim) (B8.kept sm) fun b z=>?_)),List.nodup_nil,fun _ h=>by simp at h⟩
 rcases z with z | z
 ·exact .inl z
 ·simp at z
noncomputable def fzU:A→Option D
 | .fz d=>some d
 | .lst _ | .tup _ | .scr _ | .dic _ | .opq _ _=>none
noncomputable def Cu:D→Option Int
 | .int i=>some i
 | .non | .bl _ | .str _ | .lst _ | .tup _=>none
noncomputable def Eb:D→Option Str
 | .str z=>some z
 | .non | .bl _ | .int _ | .lst _ | .tup _=>none
noncomputable def Bs (a:A):Option Int:=(fzU a).bind Cu
noncomputable def CD (a:A):Option Str:=(fzU a).bind Eb
theorem Mr {a:A} {d:D} (h:fzU a = some d):a = .fz d:=by
 cases a with
 | fz d'=>cases h; rfl
 | _=>cases h
theorem Bl {a:A} {i:Int} (h:Bs a = some i):a = .fz (.int i):=by
 obtain ⟨d,h1,h2⟩:=bind_eq_some_iff.mp h
 cases Mr h1
 cases d with
 | int j=>cases h2; rfl
 | _=>cases h2
theorem DH {a:A} {z:Str} (h:CD a = some z):a = .fz (.str z):=by
 obtain ⟨d,h1,h2⟩:=bind_eq_some_iff.mp h
 cases Mr h1
 cases d with
 | str j=>cases h2; rfl
 | _=>cases h2
noncomputable def on1 (f:A→Option A):List A→Option A
 | []=>none
 | [a]=>f a
 | _ :: _ :: _=>none
noncomputable def on2 (f:A→A→Option A):List A→Option A
 | []=>none
 | [_]=>none
 | [a,b]=>f a b
 | _ :: _ :: _ :: _=>none
noncomputable def on3 (f:A→A→A→Option A):List A→Option A
 | []=>none
 | [_]=>none
 | [_,_]=>none
 | [a,b,c]=>f a b c
 | _ :: _ :: _ :: _ :: _=>none
theorem Et {f:A→Option A} {as:List A} {c:A} (h:on1 f as = some c):∃ a,as = [a]∧f a = some c:=by
 cases as with
 | nil=>cases h
 | cons a as=>cases as with
  | nil=>exact ⟨a,rfl,h⟩
  | cons b as=>cases h
theorem CO {f:A→A→Option A} {as:List A} {c:A} (h:on2 f as = some c):∃ a b,as = [a,b]∧f a b = some c:=by
 cases as with
 | nil=>cases h
 | cons a as=>cases as with
  | nil=>cases h
  | cons b as=>cases as with
   | nil=>exact ⟨a,b,rfl,h⟩
   | cons b as=>cases h
noncomputable def Hc:A→Option (List (Key × D))
 | .dic kvs=>some kvs
 | .fz _ | .lst _ | .tup _ | .scr _ | .opq _ _=>none
noncomputable def Hi:A→Option Unit
 | .fz .non=>some ()
 | .fz (.bl _) | .fz (.int _) | .fz (.str _) | .fz (.lst _) | .fz (.tup _) | .lst _ | .tup _ | .scr _ | .dic _ | .opq _ _=>none
noncomputable def ET (C:Int→Int→Bool) (g:Int→Int→Int):List A→Option A:=on2 fun a b=>(Bs a).bind fun i=>(Bs b).bind fun j=>if C i j then some (.fz (.int (g i j))) else none
noncomputable def Ja (g:Int→Int→Bool):List A→Option A:=on2 fun q1 q2=>(Bs q1).bind fun i=>(Bs q2).bind fun j=>some (.fz (.bl (g i j)))
theorem cons_of {xs:List V} {a:A} {as:List A} (h:HP K N H xs (a :: as)):∃ x t L1,xs = x :: t∧AE K N H x a L1∧HP K N H t as:=by
 cases xs with
 | nil=>cases h
 | cons x t =>
  obtain ⟨⟨L,h⟩,q⟩:=h
  exact ⟨x,t,L,rfl,h,q⟩
theorem DL {xs:List V} {a:A} (h:HP K N H xs [a]):∃ x L1,xs = [x]∧AE K N H x a L1:=by
 obtain ⟨x,t,L1,rfl,h1,q⟩:=cons_of h
 cases t with
 | nil=>exact ⟨x,L1,rfl,h1⟩
 | cons y t=>cases q
theorem BM {xs:List V} {a b:A} (h:HP K N H xs [a,b]):∃ x y L1 L2,xs = [x,y]∧AE K N H x a L1∧AE K N H y b L2:=by
 obtain ⟨x,t,L1,rfl,h1,q⟩:=cons_of h
 obtain ⟨y,L2,rfl,h2⟩:=DL q
 exact ⟨x,y,L1,L2,rfl,h1,h2⟩
theorem Fm {C:Int→Int→Bool} {C':Int→Int→Prop} {g:Int→Int→Int} (hC:∀ i j,C i j = true→C' i j):OpN K (ET C g) (r2L (rI C' fun i j=>.int (g i j))):=by
 intro N H xs as b Q hs e k
 replace e:=CO e
 obtain ⟨a1,b1,rfl,e⟩:=e
 simp only [bind_eq_some_iff] at e
 obtain ⟨i,ei,j,ej,e⟩:=e
 cases Bl ei
 cases Bl ej
 split at e
 ·rename_i hc
  cases e
  obtain ⟨x,y,L1,L2,rfl,h1,h2⟩:=BM hs
  cases Bt h1
  cases Bt h2
  exact ⟨_,_,rfl,i,j,rfl,rfl,hC i j hc,k _ _ C1⟩
 ·cases e
theorem GP {g:Int→Int→Int}:OpN K (ET (fun _ _=>true) g) (r2L (rI0 fun i j=>.int (g i j))):=by
 intro N H xs as b Q hs e k
 replace e:=CO e
 obtain ⟨a1,b1,rfl,e⟩:=e
 simp only [bind_eq_some_iff] at e
 obtain ⟨i,ei,j,ej,e⟩:=e
 cases Bl ei
 cases Bl ej
 rw [if_pos trivial] at e
 cases e
 obtain ⟨x,y,L1,L2,rfl,h1,h2⟩:=BM hs
 cases Bt h1
 cases Bt h2
 exact ⟨_,_,rfl,i,j,rfl,rfl,k _ _ C1⟩
theorem Jk {g:Int→Int→Bool}:OpN K (Ja g) (r2L (rI0 fun i j=>.bl (g i j))):=by
 intro N H xs as b Q hs e k
 replace e:=CO e
 obtain ⟨q1,q2,rfl,e⟩:=e
 replace e:=bind_eq_some_iff.mp e
 obtain ⟨i,eq1,e⟩:=e
 cases Bl eq1
 clear eq1
 replace e:=bind_eq_some_iff.mp e
 obtain ⟨j,eq2,e⟩:=e
 cases Bl eq2
 clear eq2
 cases e
 obtain ⟨x,y,L1,L2,rfl,h1,h2⟩:=BM hs
 cases Bt h1
 cases Bt h2
 exact ⟨_,_,rfl,i,j,rfl,rfl,k _ _ DM⟩
noncomputable def C0:=ET (fun _ _=>true) fun i j=>i - j
noncomputable def IY:=ET (fun _ j=>decide (0 < j∧j < 1099511627776)) fun i j=>i / j
noncomputable def Gd:=ET (fun _ j=>decide (0 < j)) fun i j=>i % j
noncomputable def FW:=ET (fun i j=>decide (0≤j∧j≤1000000∧i.natAbs < 2 ^ 64)) fun i j=>i ^ j.toNat
noncomputable def Dv:=ET (fun i j=>decide (0≤j∧j≤1000000∧i.natAbs < 2 ^ 64)) fun i j=>i * 2 ^ j.toNat
noncomputable def EJ:=ET (fun _ j=>decide (0≤j)) fun i j=>i / 2 ^ j.toNat
noncomputable def DQ:=ET (fun _ _=>true) fun i j=>Builtin.bitAnd i j
noncomputable def JN:=ET (fun _ _=>true) fun i j=>Builtin.bitOr i j
noncomputable def gtA:=Ja fun i j=>decide (j < i)
noncomputable def geA:=Ja fun i j=>decide (j≤i)
theorem KZ:OpN K IY (r2L (rI Pe fun i j=>.int (i / j))):=Fm fun i j h=>by simpa [Pe] using h
theorem FO:OpN K Gd (r2L (rI (fun _ j=>0 < j) fun i j=>.int (i % j))):=Fm fun i j h=>by simpa using h
theorem Ke:OpN K FW (r2L (rI Lk fun i j=>.int (i ^ j.toNat))):=Fm fun i j h=>by simpa [Lk] using h
theorem Il:OpN K Dv (r2L (rI Lk fun i j=>.int (i * 2 ^ j.toNat))):=Fm fun i j h=>by simpa [Lk] using h
theorem MZ:OpN K EJ (r2L (rI (fun _ j=>0≤j) fun i j=>.int (i / 2 ^ j.toNat))):=Fm fun i j h=>by simpa using h
noncomputable def BY:A→Option (List D)
 | .fz (.lst ds)=>some ds
 | .lst as=>fzs as
 | .fz .non | .fz (.bl _) | .fz (.int _) | .fz (.str _) | .fz (.tup _) | .tup _ | .scr _ | .dic _ | .opq _ _=>none
theorem B3 {ds:List D} (q:AE K N H v a L) (e:BY a = some ds):∃ p vs,v = .ref p∧H p = some (.lst vs)∧vs.length≤sizeLine∧AD N H vs ds:=by
 cases a with
 | fz d =>
  obtain ⟨_,q⟩:=Iy.mp q
  cases d with
  | lst es =>
   simp only [BY,Option.some.injEq] at e
   subst e
   cases q with
   | lst h hz hn hl hr=>exact ⟨_,_,rfl,h,hz,AD.mk hl hr⟩
  | _=>simp [BY] at e
 | lst as =>
  simp only [BY] at e
  rw [AE] at q
  obtain ⟨p,vs,L',rfl,rfl,h,hz,hs⟩:=q
  exact ⟨p,vs,rfl,h,hz,(hs.fzs e).2⟩
 | _=>simp [BY] at e
noncomputable def AH:List A→Option A:=on2 fun a b=>((Bs a).bind fun i=>(Bs b).map fun j=>A.fz (.int (i + j))).or (((CD a).bind fun x=>(CD b).bind fun y=>if x.length + y.length≤LIM then some (.fz (.str (x ++ y))) else none).or ((BY a).bind fun xs=>(BY b).bind fun ys=>if xs.length + ys.length≤LIM then some (.lst ((xs ++ ys).map A.fz)) else none))
theorem Jz (x y:Str):(x ++ y).length = x.length + y.length:=strLen_append x y
theorem BA:OpN K AH (r2L fun x y H Q=>(rI0 (fun i j=>.int (i + j))) x y H Q∨(∃ i j,x = .str i∧y = .str j∧i.length + j.length≤sizeLine∧Q (.str (i ++ j)) H)∨QA x y H Q):=by
 intro N H xs as b Q hs e k
 replace e:=CO e
 obtain ⟨a,b,rfl,e⟩:=e
 rcases Option.or_eq_some_iff.mp e with e | ⟨_,e⟩
 ·simp only [bind_eq_some_iff,map_eq_some_iff] at e
  obtain ⟨i,ei,j,ej,rfl⟩:=e
  cases Bl ei
  cases Bl ej
  obtain ⟨x,y,L1,L2,rfl,h1,h2⟩:=BM hs
  cases Bt h1
  cases Bt h2
  exact ⟨_,_,rfl,.inl ⟨i,j,rfl,rfl,k _ _ C1⟩⟩
 ·rcases Option.or_eq_some_iff.mp e with e | ⟨_,e⟩
  ·simp only [bind_eq_some_iff] at e
   obtain ⟨i,ei,j,ej,e9⟩:=e
   cases DH ei
   cases DH ej
   split at e9
   ·rename_i hz
    cases e9
    obtain ⟨x,y,L1,L2,rfl,h1,h2⟩:=BM hs
    obtain ⟨rfl,_⟩:=Ex h1
    obtain ⟨rfl,_⟩:=Ex h2
    exact ⟨_,_,rfl,.inr (.inl ⟨i,j,rfl,rfl,hz,k _ _ (K2 (by rw [Jz]; exact hz))⟩)⟩
   ·cases e9
  ·simp only [bind_eq_some_iff] at e
   obtain ⟨ds,e1,es,e2,e3⟩:=e
   split at e3
   ·rename_i hz
    cases e3
    obtain ⟨x,y,L1,L2,rfl,h1,h2⟩:=BM hs
    obtain ⟨p,vs,rfl,hp,z1,q1⟩:=B3 h1 e1
    obtain ⟨p',vs',rfl,hp',z2,q2⟩:=B3 h2 e2
    have hl:(vs ++ vs').length≤sizeLine:=by rw [List.length_append,q1.len,q2.len]; exact hz
    exact ⟨_,_,rfl,.inr (.inr ⟨p,p',vs,vs',rfl,rfl,hp,hp',by rw [List.length_append] at hl; exact hl,fun q hq=>k _ _ (Gn hq hl (FY q1 q2))⟩)⟩
   ·cases e3
theorem Bc {X:Cx}:OpR X (binaryOp .Add) (fun x y H Q=>(rI0 (fun i j=>.int (i + j))) x y H Q∨(∃ i j,x = .str i∧y = .str j∧i.length + j.length≤sizeLine∧Q (.str (i ++ j)) H)∨QA x y H Q):=Qa.or (Kg.or Qb)
noncomputable def J9:List A→Option A:=on2 fun q1 q2=>(Bs q1).bind fun i=>(Bs q2).bind fun j=>if (-(2 ^ 64) < i∧i < 2 ^ 64)∨(-(2 ^ 64) < j∧j < 2 ^ 64) then some (.fz (.int (i * j))) else none
theorem Ik:OpN K J9 (r2L (rI NH fun i j=>.int (i * j))):=by
 intro N H xs as b Q hs e k
 replace e:=CO e
 obtain ⟨q1,q2,rfl,e⟩:=e
 replace e:=bind_eq_some_iff.mp e
 obtain ⟨i,eq1,e⟩:=e
 cases Bl eq1
 clear eq1
 replace e:=bind_eq_some_iff.mp e
 obtain ⟨j,eq2,e⟩:=e
 cases Bl eq2
 clear eq2
 split at e
 ·rename_i hc
  cases e
  obtain ⟨x,y,L1,L2,rfl,h1,h2⟩:=BM hs
  cases Bt h1
  cases Bt h2
  exact ⟨_,_,rfl,i,j,rfl,rfl,hc,k _ _ C1⟩
 ·cases e
noncomputable def Du:List A→Option A:=on1 fun q1=>(Bs q1).bind fun i=>some (.fz (.int (-i)))
theorem GQ:OpN K Du (r1L (rU fun i=>.int (-i))):=by
 intro N H xs as b Q hs e k
 replace e:=Et e
 obtain ⟨q1,rfl,e⟩:=e
 replace e:=bind_eq_some_iff.mp e
 obtain ⟨i,eq1,e⟩:=e
 cases Bl eq1
 clear eq1
 cases e
 obtain ⟨x,L1,rfl,h1⟩:=DL hs
 cases Bt h1
 exact ⟨_,rfl,i,rfl,k _ _ C1⟩
mutual
noncomputable def shB:Nat→D→Bool
 | _,.non=>true
 | _,.bl _=>true
 | _,.int _=>true
 | _,.str _=>true
 | 0,.lst _=>false
 | 0,.tup _=>false
 | n + 1,.lst ds=>F1 n ds
 | n + 1,.tup ds=>F1 n ds
noncomputable def F1:Nat→List D→Bool
 | _,[]=>true
 | n,d :: ds=>shB n d && F1 n ds
end
mutual
theorem Ku:∀ {n:Nat} {d:D},shB n d = true→Sh n d
 | _,.non,_=>.non
 | _,.bl b,_=>.bl b
 | _,.int i,_=>.int i
 | _,.str x,_=>.str x
 | 0,.lst _,h=>by simp [shB] at h
 | 0,.tup _,h=>by simp [shB] at h
 | n + 1,.lst ds,h=>.lst (ID (by simpa [shB] using h))
 | n + 1,.tup ds,h=>.tup (ID (by simpa [shB] using h))
theorem ID:∀ {n:Nat} {ds:List D},F1 n ds = true→∀ d∈ds,Sh n d
 | _,[],_,d,hd=>by simp at hd
 | n,e :: ds,h,d,hd=>by
  simp only [F1,Bool.and_eq_true] at h
  rcases List.mem_cons.mp hd with q | hd
  ·rw [q]; exact Ku h.1
  ·exact ID h.2 d hd
end
noncomputable def eqA:List A→Option A:=on2 fun a b=>(er a).bind fun d=>(er b).bind fun e=>if shB 16 d then some (.fz (.bl (eqD d e))) else none
noncomputable def neA:List A→Option A:=on2 fun a b=>(er a).bind fun d=>(er b).bind fun e=>if shB 16 d then some (.fz (.bl (!eqD d e))) else none
theorem G1 {d:D} (q:AE K N H v a L) (e:er a = some d):Rep H v d:=(AE.er q e).rep
theorem B5:OpN K eqA (r2L Sn):=by
 intro N H xs as b Q hs e k
 replace e:=CO e
 obtain ⟨a,b,rfl,e⟩:=e
 simp only [bind_eq_some_iff] at e
 obtain ⟨d,e1,d',e2,e3⟩:=e
 split at e3
 ·rename_i hz
  cases e3
  obtain ⟨x,y,L1,L2,rfl,h1,h2⟩:=BM hs
  exact ⟨_,_,rfl,d,d',G1 h1 e1,G1 h2 e2,Ku hz,k _ _ DM⟩
 ·cases e3
theorem O3:OpN K neA (r2L QB):=by
 intro N H xs as b Q hs e k
 replace e:=CO e
 obtain ⟨a,b,rfl,e⟩:=e
 simp only [bind_eq_some_iff] at e
 obtain ⟨d,e1,d',e2,e3⟩:=e
 split at e3
 ·rename_i hz
  cases e3
  obtain ⟨x,y,L1,L2,rfl,h1,h2⟩:=BM hs
  exact ⟨_,_,rfl,d,d',G1 h1 e1,G1 h2 e2,Ku hz,k _ _ DM⟩
 ·cases e3
noncomputable def ltA:List A→Option A:=on2 fun a b=>((Bs a).bind fun i=>(Bs b).map fun j=>A.fz (.bl (decide (i < j)))).or ((CD a).bind fun x=>(CD b).map fun y=>A.fz (.bl (decide (x.cps.toList < y.cps.toList))))
noncomputable def leA:List A→Option A:=on2 fun a b=>((Bs a).bind fun i=>(Bs b).map fun j=>A.fz (.bl (decide (i≤j)))).or ((CD a).bind fun x=>(CD b).map fun y=>A.fz (.bl (!decide (y.cps.toList < x.cps.toList))))
theorem HK:OpN K ltA (r2L O6):=by
 intro N H xs as b Q hs e k
 replace e:=CO e
 obtain ⟨a,b,rfl,e⟩:=e
 rcases Option.or_eq_some_iff.mp e with e | ⟨_,e⟩
 ·simp only [bind_eq_some_iff,map_eq_some_iff] at e
  obtain ⟨i,ei,j,ej,rfl⟩:=e
  cases Bl ei
  cases Bl ej
  obtain ⟨x,y,L1,L2,rfl,h1,h2⟩:=BM hs
  cases Bt h1
  cases Bt h2
  exact ⟨_,_,rfl,.inl ⟨i,j,rfl,rfl,k _ _ DM⟩⟩
 ·simp only [bind_eq_some_iff,map_eq_some_iff] at e
  obtain ⟨i,ei,j,ej,rfl⟩:=e
  cases DH ei
  cases DH ej
  obtain ⟨x,y,L1,L2,rfl,h1,h2⟩:=BM hs
  obtain ⟨rfl,_⟩:=Ex h1
  obtain ⟨rfl,_⟩:=Ex h2
  exact ⟨_,_,rfl,.inr ⟨i,j,rfl,rfl,k _ _ DM⟩⟩
theorem Fo:OpN K leA (r2L O5):=by
 intro N H xs as b Q hs e k
 replace e:=CO e
 obtain ⟨a,b,rfl,e⟩:=e
 rcases Option.or_eq_some_iff.mp e with e | ⟨_,e⟩
 ·simp only [bind_eq_some_iff,map_eq_some_iff] at e
  obtain ⟨i,ei,j,ej,rfl⟩:=e
  cases Bl ei
  cases Bl ej
  obtain ⟨x,y,L1,L2,rfl,h1,h2⟩:=BM hs
  cases Bt h1
  cases Bt h2
  exact ⟨_,_,rfl,.inl ⟨i,j,rfl,rfl,k _ _ DM⟩⟩
 ·simp only [bind_eq_some_iff,map_eq_some_iff] at e
  obtain ⟨i,ei,j,ej,rfl⟩:=e
  cases DH ei
  cases DH ej
  obtain ⟨x,y,L1,L2,rfl,h1,h2⟩:=BM hs
  obtain ⟨rfl,_⟩:=Ex h1
  obtain ⟨rfl,_⟩:=Ex h2
  exact ⟨_,_,rfl,.inr ⟨i,j,rfl,rfl,k _ _ DM⟩⟩
noncomputable def HD:D→Bool
 | .lst _=>false
 | .tup _=>false
 | .non | .bl _ | .int _ | .str _=>true
noncomputable def inD (d:D) (ds:List D):Bool:=ds.any fun e=>eqD e d
noncomputable def inA (neg:Bool):List A→Option A:=on2 fun a b=>((CD a).bind fun x=>(CD b).map fun y=>A.fz (.bl (if neg then !(!(Builtin.Str.occurrences y x 0 y.length 1).isEmpty) else !(Builtin.Str.occurrences y x 0 y.length 1).isEmpty))).or ((fzU a).bind fun d=>(Ba b).bind fun ds=>if HD d && ds.all HD then some (.fz (.bl (if neg then !inD d ds else inD d ds))) else none)
noncomputable def ixA:List A→Option A:=on2 fun a b=>(Bs b).bind fun i=>((CD a).bind fun z=>(atI z.cps.toList i).map fun c=>A.fz (.str ⟨#[c]⟩)).or ((Ba a).bind fun ds=>(atI ds i).map A.fz)
theorem Pj {vs:List V} {ds:List D} {i:Int} {d:D} (q:AD N H vs ds) (e:atI ds i = some d):∃ v,atI vs i = some v∧RepA N H v d:=by
 unfold atI at e ⊢
 rw [q.len]
 simp only [bind_eq_some_iff] at e ⊢
 obtain ⟨j,e1,e2⟩:=e
 obtain ⟨v,hv⟩:=Pm q (AF e2)
 exact ⟨v,⟨j,e1,hv⟩,q.get j v d hv e2⟩
theorem Bj:OpN K ixA (r2L (rIx K)):=by
 intro N H xs as b Q hs e k
 replace e:=CO e
 obtain ⟨a,b,rfl,e⟩:=e
 obtain ⟨i,ei,e8⟩:=bind_eq_some_iff.mp e
 cases Bl ei
 rcases Option.or_eq_some_iff.mp e8 with e | ⟨_,e⟩
 ·simp only [bind_eq_some_iff,map_eq_some_iff] at e
  obtain ⟨z,ez,c,e1,rfl⟩:=e
  cases DH ez
  obtain ⟨x,y,L1,L2,rfl,h1,h2⟩:=BM hs
  obtain ⟨rfl,hz⟩:=Ex h1
  cases Bt h2
  exact ⟨_,_,rfl,.inr (.inr ⟨z,i,c,rfl,rfl,hz,e1,k _ _ (K2 (by show 1≤sizeLine; decide))⟩)⟩
 ·simp only [bind_eq_some_iff,map_eq_some_iff] at e
  obtain ⟨ds,e1,d,e2,rfl⟩:=e
  obtain ⟨x,y,L1,L2,rfl,h1,h2⟩:=BM hs
  cases Bt h2
  obtain ⟨p,vs,rfl,hp,q⟩:=Fd h1 e1
  obtain ⟨v,hv,q2⟩:=Pj q e2
  rcases hp with hp | hp
  ·exact ⟨_,_,rfl,.inl ⟨p,vs,i,v,rfl,rfl,hp,hv,k _ _ (GU q2)⟩⟩
  ·exact ⟨_,_,rfl,.inr (.inl ⟨p,vs,i,v,rfl,rfl,hp,hv,k _ _ (GU q2)⟩)⟩
noncomputable def Bq:List A→Option A:=on1 fun a=>((CD a).map fun z=>A.fz (.int z.length)).or ((Ba a).map fun ds=>A.fz (.int ds.length))
theorem B4:OpN K Bq (RP K):=by
 intro N H xs as b Q hs e k
 replace e:=Et e
 obtain ⟨a,rfl,e⟩:=e
 rcases Option.or_eq_some_iff.mp e with e | ⟨_,e⟩
 ·obtain ⟨z,ez,rfl⟩:=map_eq_some_iff.mp e
  cases DH ez
  obtain ⟨x,L1,rfl,h1⟩:=DL hs
  obtain ⟨rfl,hz⟩:=Ex h1
  exact .inr ⟨z,rfl,hz,k _ _ C1⟩
 ·obtain ⟨ds,e1,rfl⟩:=map_eq_some_iff.mp e
  obtain ⟨x,L1,rfl,h1⟩:=DL hs
  obtain ⟨p,vs,rfl,hp,q⟩:=Fd h1 e1
  refine .inl ⟨p,vs,rfl,hp,?_⟩
  rw [q.len]
  exact k _ _ C1
theorem Bd {X:Cx}:Cg X (.builtin "len") (RP X.K):=HV.or HW
noncomputable def L8:List A→Option A:=on1 fun q1=>(Bs q1).bind fun i=>some (.fz (.int (if i < 0 then -i else i)))
theorem MW:OpN K L8 (fun xs H Q=>∃ i,xs = [.int i]∧Q (.int (if i < 0 then -i else i)) H):=by
 intro N H xs as b Q hs e k
 replace e:=Et e
 obtain ⟨q1,rfl,e⟩:=e
 replace e:=bind_eq_some_iff.mp e
 obtain ⟨i,eq1,e⟩:=e
 cases Bl eq1
 clear eq1
 cases e
 obtain ⟨x,L1,rfl,h1⟩:=DL hs
 cases Bt h1
 exact ⟨i,rfl,k _ _ C1⟩
noncomputable def N7:List A→Option A:=on2 fun q1 q2=>(Bs q1).bind fun i=>(Bs q2).bind fun j=>some (.fz (.int (if j > i then j else i)))
noncomputable def Hh:List A→Option A:=on2 fun q1 q2=>(Bs q1).bind fun i=>(Bs q2).bind fun j=>some (.fz (.int (if j < i then j else i)))
theorem P9:OpN K N7 (fun xs H Q=>∃ i j,xs = [.int i,.int j]∧Q (.int (if j > i then j else i)) H):=by
 intro N H xs as b Q hs e k
 replace e:=CO e
 obtain ⟨q1,q2,rfl,e⟩:=e
 replace e:=bind_eq_some_iff.mp e
 obtain ⟨i,eq1,e⟩:=e
 cases Bl eq1
 clear eq1
 replace e:=bind_eq_some_iff.mp e
 obtain ⟨j,eq2,e⟩:=e
 cases Bl eq2
 clear eq2
 cases e
 obtain ⟨x,y,L1,L2,rfl,h1,h2⟩:=BM hs
 cases Bt h1
 cases Bt h2
 exact ⟨i,j,rfl,k _ _ C1⟩
theorem MY:OpN K Hh (fun xs H Q=>∃ i j,xs = [.int i,.int j]∧Q (.int (if j < i then j else i)) H):=by
 intro N H xs as b Q hs e k
 replace e:=CO e
 obtain ⟨q1,q2,rfl,e⟩:=e
 replace e:=bind_eq_some_iff.mp e
 obtain ⟨i,eq1,e⟩:=e
 cases Bl eq1
 clear eq1
 replace e:=bind_eq_some_iff.mp e
 obtain ⟨j,eq2,e⟩:=e
 cases Bl eq2
 clear eq2
 cases e
 obtain ⟨x,y,L1,L2,rfl,h1,h2⟩:=BM hs
 cases Bt h1
 cases Bt h2
 exact ⟨i,j,rfl,k _ _ C1⟩
noncomputable def Dl:List D→Option (List Bool)
 | []=>some []
 | .bl b :: ds=>(Dl ds).map (b :: ·)
 | _ :: _=>none
theorem Md:∀ {vs:List V} {ds:List D} {bs:List Bool},AD N H vs ds→Dl ds = some bs→vs = Fv bs:=by
 intro _l
 induction _l with
 | nil =>
  intro _m
  cases _m with
  | nil =>
   intro bs _ e
   simp [Dl] at e; subst e; rfl
  | cons _ _ =>
   intro _ q _
   simp only [AD] at q
 | cons v vs ih =>
  intro _m
  cases _m with
  | nil =>
   intro _ q _
   simp only [AD] at q
  | cons d ds =>
   intro bs q e
   cases d with
   | bl b =>
    simp only [Dl,map_eq_some_iff] at e
    obtain ⟨bs',e1,rfl⟩:=e
    have:=ih q.2 e1
    obtain ⟨q1,_⟩:=q
    cases q1
    subst this
    rfl
   | _=>simp [Dl] at e
noncomputable def E2:List A→Option A:=on1 fun a=>(BY a).bind fun ds=>(Dl ds).map fun bs=>.fz (.bl (bs.all id))
noncomputable def Sd:List A→Option A:=on1 fun a=>(BY a).bind fun ds=>(Dl ds).map fun bs=>.fz (.bl (bs.any id))
theorem GN:OpN K E2 (Sm K):=by
 intro N H xs as b Q hs e k
 replace e:=Et e
 obtain ⟨a,rfl,e⟩:=e
 simp only [bind_eq_some_iff,map_eq_some_iff] at e
 obtain ⟨ds,e1,bs,e2,rfl⟩:=e
 obtain ⟨x,L1,rfl,h1⟩:=DL hs
 obtain ⟨p,vs,rfl,hp,hz,q⟩:=B3 h1 e1
 cases Md q e2
 exact ⟨p,bs,rfl,.inl (.inl hp),k _ _ DM⟩
noncomputable def GJ:List A→Option A:=on1 fun a=>(Ba a).bind fun ds=>if ds.length≤LIM then some (.lst (ds.map A.fz)) else none
theorem K0:OpN K GJ (OA K):=by
 intro N H xs as b Q hs e k
 replace e:=Et e
 obtain ⟨a,rfl,e⟩:=e
 simp only [bind_eq_some_iff] at e
 obtain ⟨ds,e1,e2⟩:=e
 split at e2
 ·rename_i hz
  cases e2
  obtain ⟨x,L1,rfl,h1⟩:=DL hs
  obtain ⟨p,vs,rfl,hp,q⟩:=Fd h1 e1
  exact ⟨p,vs,rfl,hp,fun l hl=>k _ _ (Gn hl (by rw [q.len]; exact hz) q)⟩
 ·cases e2
noncomputable def Dz (f:D→Bool):List A→Option A:=on1 fun a=>(er a).map fun d=>.fz (.bl (f d))
theorem P6 {T:String} {f:D→Bool}:OpN K (Dz f) (r1L fun x H Q=>∃ d,Rep H x d∧Q (.bl (f d)) H):=by
 intro N H xs as b Q hs e k
 replace e:=Et e
 obtain ⟨a,rfl,e⟩:=e
 simp only [map_eq_some_iff] at e
 obtain ⟨d,e1,rfl⟩:=e
 obtain ⟨x,L1,rfl,h1⟩:=DL hs
 exact ⟨x,rfl,d,G1 h1 e1,k _ _ DM⟩
theorem G8 {T:String} {f:D→Bool} {m:ME} {σ:L2.St} {Q:VK} (h:tE K (opM (Dz f) (m1L m)) σ H Q):tCB (rIs T f) (CC (tE K m) (CC (tC (.ty T)) Gg)) σ H Q:=by
 have h2:=one (P6 (T:=T)) h
 exact tE.mono h2 fun x H1 ⟨d,r,q⟩=>⟨x,d,rfl,r,q⟩
end
end J
end
section
namespace L2
open PySem PySem.Spec PyProof.Rows
section
variable {X:Cx}
end
end L2
namespace J
open PySem PySem.Spec PyProof.Rows L2
section
variable {X:Cx} {a b c e:Expr} {es:List Expr} {m m1 m2 m3:ME} {ms:MA} {p pos pos' p2 apos cpos q:Pos} {x:Str}
variable {K:Frag} {H:Hp} {σ:L2.St}
theorem PC (hg:Gl X "isinstance") (hg2:Gl X "int") (B:Blt X.mg X.K) (he:starEach [a,.Name "int" q] X.env = [(false,eval a X.env),(false,eval (.Name "int" q) X.env)]) (he2:starEach [.Name "int" q] X.env = [(false,eval (.Name "int" q) X.env)]) (ha:JE X a m) :
  JE X (.Call (.Name "isinstance" p) [a,.Name "int" q] [] pos) (opM (Dz isInt) (m1L m)):=AW (Qh hg hg2 B he he2 ha) fun _ _ _ h=>G8 h
theorem PB (hg:Gl X "isinstance") (hg2:Gl X "bool") (B:Blt X.mg X.K) (he:starEach [a,.Name "bool" q] X.env = [(false,eval a X.env),(false,eval (.Name "bool" q) X.env)]) (he2:starEach [.Name "bool" q] X.env = [(false,eval (.Name "bool" q) X.env)]) (ha:JE X a m) :
  JE X (.Call (.Name "isinstance" p) [a,.Name "bool" q] [] pos) (opM (Dz isBool) (m1L m)):=AW (Qg hg hg2 B he he2 ha) fun _ _ _ h=>G8 h
theorem J0 (hg:Gl X "isinstance") (hg2:Gl X "list") (B:Blt X.mg X.K) (he:starEach [a,.Name "list" q] X.env = [(false,eval a X.env),(false,eval (.Name "list" q) X.env)]) (he2:starEach [.Name "list" q] X.env = [(false,eval (.Name "list" q) X.env)]) (ha:JE X a m) :
  JE X (.Call (.Name "isinstance" p) [a,.Name "list" q] [] pos) (opM (Dz Dt) (m1L m)):=AW (Qi hg hg2 B he he2 ha) fun _ _ _ h=>G8 h
theorem PD (hg:Gl X "isinstance") (hg2:Gl X "tuple") (B:Blt X.mg X.K) (he:starEach [a,.Name "tuple" q] X.env = [(false,eval a X.env),(false,eval (.Name "tuple" q) X.env)]) (he2:starEach [.Name "tuple" q] X.env = [(false,eval (.Name "tuple" q) X.env)]) (ha:JE X a m) :
  JE X (.Call (.Name "isinstance" p) [a,.Name "tuple" q] [] pos) (opM (Dz isTup) (m1L m)):=AW (Qj hg hg2 B he he2 ha) fun _ _ _ h=>G8 h
theorem PF (hg:Gl X "isinstance") (hg2:Gl X "str") (B:Blt X.mg X.K) (he:starEach [a,.Name "str" q] X.env = [(false,eval a X.env),(false,eval (.Name "str" q) X.env)]) (he2:starEach [.Name "str" q] X.env = [(false,eval (.Name "str" q) X.env)]) (ha:JE X a m) :
  JE X (.Call (.Name "isinstance" p) [a,.Name "str" q] [] pos) (opM (Dz isStr) (m1L m)):=AW (Qk hg hg2 B he he2 ha) fun _ _ _ h=>G8 h
noncomputable def slF (x:A) (lo hi:Option Int):Option A:=match x with
 | .fz (.str z)=>some (.fz (.str (Txt.slice z lo hi)))
 | _=>none
noncomputable def Sq:List A→Option A:=on2 fun x q2=>(Bs q2).bind fun j=>slF x none (some j)
noncomputable def Sr:List A→Option A:=on2 fun x q2=>(Bs q2).bind fun i=>slF x (some i) none
noncomputable def O8:List D→Option (List Str)
 | []=>some []
 | .str z :: ds=>(O8 ds).map (z :: ·)
 | _ :: _=>none
noncomputable def Ss (f:Str→List A→Option A) (m:ME) (ms:MA):ME:=fun ρ=>(m ρ).bind fun p=>match p.1 with
 | .val (.fz (.str z))=>(ms p.2).bind fun q=>(peeks q.2 q.1).bind fun as=>(f z as).map fun a=>(.val a,q.2)
 | _=>none
noncomputable def Rp (sep:Str):List A→Option A:=on1 fun b=>if sep.length = 0 then (BY b).bind fun ds=>(O8 ds).bind fun zs=>if (zs.map (·.length)).sum≤16777216 then some (.fz (.str (glue zs))) else none else none
noncomputable def Pt (z:Str):List A→Option A:=on1 fun q1=>(CD q1).bind fun y=>if 0≤Txt.find z y then some (.fz (.int (Txt.find z y))) else none
noncomputable def Mv:List D→Option (List Int)
 | []=>some []
 | .int z :: ds=>(Mv ds).map (z :: ·)
 | _ :: _=>none
end
section
variable {K:Frag} {ρ ρ' ρ1 ρ2:Ro} {σ σ' σ1 σ2:L2.St} {H H' H1 H2:Hp} {O O' N:Addr→Prop} {fp fp' fp1 fp2:Nat→List Addr} {L L1:List Addr}
theorem Post.mut {i:Nat} {st:Own} {a a':A} {v:V} {p:Addr} {o:HO} {vs:List V} {L':List Addr} (x:Post K O fp H ρ ρ1 σ σ L fp1 H1) (hi : ρ1[i]? = some (some (st,a))) (hst:st ≠ .ro) (hv : σ[i]? = some (some v)) (hp:p∈fp1 i) (hy:H1 p = some (.lst vs))
  (hL:∀ q∈L',q∈fp1 i∨q∈L) (nd:L'.Nodup) (hr:AE K (NN fp1 (ad O L)) (upd H1 p o) v a' L'):Post K O fp H ρ (ρ1.set i (some (st,a'))) σ σ [] (pt fp1 i L') (upd H1 p o):=by
 have alp:∀ q,H1 q≠none→upd H1 p o q≠none:=fun q z=>by
  by_cases e:q = p
  ·subst e; rw [AV]; simp
  ·rw [Ax e]; exact z
 have k:=EI (o:=o) hy
 -- first the heap,then the slot
 have nn:∀ q,NN (pt fp1 i L') (ad O []) q→NN fp1 (ad O L) q:=fun q z=>by
  rcases z with ⟨j,z⟩ | z | z
  ·rcases BS z with ⟨_,z⟩ | ⟨_,z⟩
   ·rcases hL q z with z | z
    ·exact .inl ⟨i,z⟩
    ·exact .inr (.inr z)
   ·exact .inl ⟨j,z⟩
  ·exact .inr (.inl z)
  ·simp at z
 have dis:∀ q∈L',∀ j,j≠i→q ∉ fp1 j:=fun q hq j hj z=>by
  rcases hL q hq with w | w
  ·exact hj (x.rel.inj j i q z w)
  ·exact x.rel.off j q z (.inr w)
 refine ⟨⟨by rw [List.length_set]; exact x.rel.len,fun j st' b e=>?_,fun j h=>?_,fun j=>?_,fun j1 j2 q h1 h2=>?_,fun j q h z=>?_,fun q z=>alp q (x.rel.al q (nn q z))⟩,List.nodup_nil,fun q h=>by simp at h,fun q h=>?_,fun b u e c=>?_,rfl,fun j st' b e h=>?_⟩
 ·by_cases hj:j = i
  ·subst hj
   rw [List.getElem?_set_self (AF hi)] at e
   cases e
   exact ⟨v,hv,by rw [EG]; exact Dc nn hr⟩
  ·rw [List.getElem?_set_ne (Ne.symm hj)] at e
   obtain ⟨w,e1,q⟩:=x.rel.slot j _ _ e
   refine ⟨w,e1,?_⟩
   rw [F8 hj]
   exact q.tr (M:=fun q=>q = p) (fun b z=>by rw [z]; exact .inl ⟨i,hp⟩) k (fun b z=>.inl (nn b z)) fun b hb z=>hj (x.rel.inj j i p (z ▸ hb) hp)
 ·by_cases hj:j = i
  ·subst hj
   exact absurd (List.getElem?_set_self (AF hi)) (h st a')
  ·rw [F8 hj]
   exact x.rel.out j fun st' b e=>h st' b (by rw [List.getElem?_set_ne (Ne.symm hj)]; exact e)
 ·by_cases hj:j = i
  ·subst hj; rw [EG]; exact nd
  ·rw [F8 hj]; exact x.rel.nd j
 ·rcases BS h1 with ⟨e1,z1⟩ | ⟨e1,z1⟩
  ·rcases BS h2 with ⟨e2,z2⟩ | ⟨e2,z2⟩
   ·rw [e1,e2]
   ·exact absurd z2 (dis q z1 j2 e2)
  ·rcases BS h2 with ⟨e2,z2⟩ | ⟨e2,z2⟩
   ·exact absurd z1 (dis q z2 j1 e1)
   ·exact x.rel.inj j1 j2 q z1 z2
 ·have z':=HR.mp z
  rcases BS h with ⟨_,z1⟩ | ⟨_,z1⟩
  ·rcases hL q z1 with w | w
   ·exact x.rel.off i q w (.inl z')
   ·exact x.lo q w z'
  ·exact x.rel.off j q z1 (.inl z')
 ·rcases h with h | ⟨j,h⟩
  ·simp at h
  ·rcases BS h with ⟨_,z1⟩ | ⟨_,z1⟩
   ·rcases hL q z1 with w | w
    ·exact x.new q (.inr ⟨i,w⟩)
    ·exact x.new q (.inl w)
   ·exact x.new q (.inr ⟨j,z1⟩)
 ·have e1:=x.kept b u e c
  by_cases hb:b = p
  ·subst hb
   rw [hy] at e1
   cases e1
   rcases c with c | c
   ·rcases x.new b (.inr ⟨i,hp⟩) with z | z
    ·exact absurd z c
    ·rw [e] at z; cases z
   ·cases c
  ·rw [Ax hb]; exact e1
 ·obtain ⟨b',e1,_,f⟩:=x.stab j st' b e h
  by_cases hj:j = i
  ·subst hj
   rw [hi] at e1
   cases e1
   exact ⟨a',List.getElem?_set_self (AF hi),rfl,fun z=>absurd z hst⟩
  ·exact ⟨b',by rw [List.getElem?_set_ne (Ne.symm hj)]; exact e1,rfl,f⟩
theorem As.app:∀ {vs ws:List V} {as bs:List A} {L1 L2:List Addr},As K N H vs as L1→As K N H ws bs L2→As K N H (vs ++ ws) (as ++ bs) (L1 ++ L2)
 | [],ws,[],bs,L1,L2,r,q=>by
  simp only [As] at r
  subst r
  exact q
 | [],_,_ :: _,_,_,_,r,_=>by simp only [As] at r
 | _ :: _,_,[],_,_,_,r,_=>by simp only [As] at r
 | v :: vs,ws,a :: as,bs,L1,L2,r,q=>by
  simp only [As] at r
  obtain ⟨M1,M2,rfl,h1,h2⟩:=r
  simp only [List.cons_append,As]
  exact ⟨M1,M2 ++ L2,by simp,h1,As.app h2 q⟩
noncomputable def Ds (ρ:Ro) (i:Nat):Option (Own × List A):=match ρ[i]? with
 | some (some (.ro,_))=>none
 | some (some (st,.lst as))=>some (st,as)
 | _=>none
theorem Gi {i:Nat} {st:Own} {as:List A} (h:Ds ρ i = some (st,as)) : ρ[i]? = some (some (st,.lst as))∧st ≠ .ro:=by
 unfold Ds at h
 split at h
 ·cases h
 ·rename_i st' as' hn e
  cases h
  exact ⟨e,fun z=>hn z⟩
 ·cases h
noncomputable def Dx (i:Nat) (m:ME):MS:=fun ρ=>(Ds ρ i).bind fun _=>(m ρ).bind fun p=>(keep p.2 p.1).bind fun q=>(Ds q.2 i).bind fun h=>if h.2.length < LIM then some (.next (q.2.set i (some (h.1,.lst (h.2 ++ [q.1]))))) else none
theorem QT {i:Nat} {m:ME} {D:Ends} (h:tS K (Dx i m) D σ H):Ld (tBM K "list" K8 (OQ i) (CC (tE K m) Gg)) D σ H:=by
 obtain ⟨ρ,O,fp,rl,fl,e,w⟩:=h
 simp only [Dx,bind_eq_some_iff] at e
 obtain ⟨⟨st0,as0⟩,e0,⟨r,ρ1⟩,e1,⟨a,ρ2⟩,e2,⟨st,as⟩,e3,e4⟩:=e
 split at e4
 ·rename_i hz
  cases e4
  obtain ⟨g0,_⟩:=Gi e0
  obtain ⟨v,hv,q0⟩:=rl.slot i _ _ g0
  rw [AE] at q0
  obtain ⟨p0,vs0,_,rfl,_,hp0,_,_⟩:=q0
  refine ⟨_,hv,.inl ⟨rfl,vs0,.inl (.inl hp0)⟩,ρ,O,fp,rl,r,ρ1,e1,fun y H1 yy=>?_⟩
  obtain ⟨L,fp1,p,q⟩:=yy
  obtain ⟨L2,fp2,p2,q2⟩:=FG p q e2
  obtain ⟨g,gst⟩:=Gi e3
  obtain ⟨v',hv',qi⟩:=p2.rel.slot i _ _ g
  rw [hv] at hv'; cases hv'
  rw [AE] at qi
  obtain ⟨pa,vs,L',e5,e6,hp,hz',hs⟩:=qi
  cases e5
  have hlen:=hs.len
  refine ⟨p0,vs,y,rfl,rfl,hp,by rw [hlen]; exact hz,w _ _ _ (p2.mut (a':=.lst (as ++ [a])) (L':=p0 :: (L' ++ L2)) g gst hv (by rw [e6]; simp) hp (fun b hb=>?_) ?_ ?_)⟩
  ·rcases List.mem_cons.mp hb with rfl | hb
   ·rw [e6]; simp
   ·rcases List.mem_append.mp hb with hb | hb
    ·rw [e6]; simp [hb]
    ·exact .inr hb
  ·have n1:=p2.rel.nd i
   rw [e6] at n1
   have n2:(p0 :: L').Nodup:=n1
   have:((p0 :: L') ++ L2).Nodup:=List.nodup_append.mpr ⟨n2,p2.nd,fun b hb c hc e=>by
    subst e
    exact p2.rel.off i b (by rw [e6]; exact hb) (.inr hc)⟩
   simpa using this
  ·rw [AE]
   have k:=EI (o:=.lst (vs ++ [y])) hp
   have pn:NN fp2 (ad O L2) p0:=.inl ⟨i,by rw [e6]; simp⟩
   have n1:=p2.rel.nd i
   rw [e6] at n1
   have h1:As K (NN fp2 (ad O L2)) (upd H1 p0 (.lst (vs ++ [y]))) vs as L':=hs.tr (M:=fun b=>b = p0) (fun b z=>z ▸ pn) k (fun b z=>.inl z) fun b hb z=>by
    subst z
    exact (List.nodup_cons.mp n1).1 hb
   have h2:AE K (NN fp2 (ad O L2)) (upd H1 p0 (.lst (vs ++ [y]))) y a L2:=q2.tr (M:=fun b=>b = p0) (fun b z=>z ▸ pn) k (fun b z=>.inl z) fun b hb z=>by
    subst z
    exact p2.rel.off i b (by rw [e6]; simp) (.inr hb)
   have h3:As K (NN fp2 (ad O L2)) (upd H1 p0 (.lst (vs ++ [y]))) [y] [a] L2:=by
    simp only [As]
    exact ⟨L2,[],by simp,h2,rfl⟩
   refine ⟨p0,vs ++ [y],L' ++ L2,rfl,rfl,AV,?_,As.app h1 h3⟩
   rw [List.length_append,hlen]
   exact hz
 ·cases e4
noncomputable def Se (i:Nat) (m:ME):MS:=fun ρ=>(Ds ρ i).bind fun _=>(m ρ).bind fun p=>(peek p.2 p.1).bind fun b=>(BY b).bind fun ds=>(Ds p.2 i).bind fun h=>if h.2.length + ds.length≤LIM then some (.next (p.2.set i (some (h.1,.lst (h.2 ++ ds.map A.fz))))) else none
noncomputable def Jr (i:Nat) (mk me:ME):MS:=fun ρ=>(me ρ).bind fun p=>(share p.2 p.1).bind fun s=>(Ds s.2 i).bind fun _=>(mk s.2).bind fun t=>match t.1 with
 | .val (.fz (.int k))=>(Ds t.2 i).bind fun h=>(ixN h.2.length k).map fun j=>.next (t.2.set i (some (h.1,.lst (h.2.set j (.fz s.1)))))
 | _=>none
theorem As.setFz:∀ {vs:List V} {as:List A} {L:List Addr} {j:Nat} {v:V} {d:D},As K N H vs as L→RepA N H v d→∃ L',As K N H (vs.set j v) (as.set j (.fz d)) L'∧(∀ q∈L',q∈L)∧(L.Nodup→L'.Nodup)
 | [],[],L,j,v,d,r,_=>⟨L,by simpa using r,fun _ h=>h,id⟩
 | [],_ :: _,_,_,_,_,r,_=>by simp only [As] at r
 | _ :: _,[],_,_,_,_,r,_=>by simp only [As] at r
 | x :: vs,a :: as,L,0,v,d,r,q=>by
  simp only [As] at r
  obtain ⟨M1,M2,rfl,h1,h2⟩:=r
  refine ⟨M2,?_,fun b h=>List.mem_append_right _ h,fun h=>(List.nodup_append.mp h).2.1⟩
  simp only [List.set_cons_zero,As]
  exact ⟨[],M2,rfl,DG q,h2⟩
 | x :: vs,a :: as,L,j + 1,v,d,r,q=>by
  simp only [As] at r
  obtain ⟨M1,M2,rfl,h1,h2⟩:=r
  obtain ⟨L',g1,g2,g3⟩:=As.setFz (j:=j) h2 q
  refine ⟨M1 ++ L',?_,fun b h=>?_,fun h=>?_⟩
  ·simp only [List.set_cons_succ,As]
   exact ⟨M1,L',rfl,h1,g1⟩
  ·rcases List.mem_append.mp h with h | h
   ·exact List.mem_append_left _ h
   ·exact List.mem_append_right _ (g2 b h)
  ·obtain ⟨n1,n2,n3⟩:=List.nodup_append.mp h
   exact List.nodup_append.mpr ⟨n1,g3 n2,fun b hb c hc e=>n3 b hb c (g2 c hc) e⟩
theorem QW {i:Nat} {mk me:ME} {D:Ends} (h:tS K (Jr i mk me) D σ H):LX (tE K me) (Rk (OQ i) (tE K mk) O7) D σ H:=by
 obtain ⟨ρ,O,fp,rl,fl,e,w⟩:=h
 simp only [Jr,bind_eq_some_iff] at e
 obtain ⟨⟨r,ρ1⟩,e1,⟨d,ρ2⟩,e2,⟨st0,as0⟩,e0,⟨r3,ρ3⟩,e3,e4⟩:=e
 dsimp only at e4
 split at e4
 ·rename_i kk
  simp only [bind_eq_some_iff,map_eq_some_iff] at e4
  obtain ⟨⟨st,as⟩,e5,j,e6,e7⟩:=e4
  cases e7
  refine ⟨ρ,O,fp,rl,r,ρ1,e1,fun y H1 yy=>?_⟩
  obtain ⟨L,fp1,p,q⟩:=yy
  obtain ⟨fp2,p2,q2⟩:=D7 p q e2
  obtain ⟨g0,_⟩:=Gi e0
  obtain ⟨v,hv,q0⟩:=p2.rel.slot i _ _ g0
  rw [AE] at q0
  obtain ⟨p0,vs0,_,rfl,_,hp0,_,_⟩:=q0
  refine ⟨_,hv,ρ2,O,fp2,p2.rel0,_,ρ3,e3,fun y2 H2 yy=>?_⟩
  obtain ⟨L3,fp3,p3,q3⟩:=yy
  cases Bt (K:=K) q3
  have p4:=(p2.next p3).drop0
  obtain ⟨g,gst⟩:=Gi e5
  obtain ⟨v',hv',qi⟩:=p4.rel.slot i _ _ g
  rw [hv] at hv'; cases hv'
  rw [AE] at qi
  obtain ⟨pa,vs,L',e8,e9,hp,hz',hs⟩:=qi
  cases e8
  have hlen:=hs.len
  have qy:RepA (NN fp3 (ad O [])) H2 y d:=(Dw (fun b z=>FL.mpr z) q2).tr (M:=Fp fp2) (fun b z=>.inl z) p3.kept fun b z=>by
   rcases z with z | z | z
   ·exact (p3.new b (.inr z)).imp (fun y=>.inl y) id
   ·exact .inl (.inr z)
   ·simp at z
  have k:=EI (o:=.lst (vs.set j y)) hp
  have pn:NN fp3 (ad O []) p0:=.inl ⟨i,by rw [e9]; simp⟩
  have n1:=p4.rel.nd i
  rw [e9] at n1
  have h1:As K (NN fp3 (ad O [])) (upd H2 p0 (.lst (vs.set j y))) vs as L':=hs.tr (M:=fun b=>b = p0) (fun b z=>z ▸ pn) k (fun b z=>.inl z) fun b hb z=>by
   subst z
   exact (List.nodup_cons.mp n1).1 hb
  have h2:RepA (NN fp3 (ad O [])) (upd H2 p0 (.lst (vs.set j y))) y d:=qy.tr (M:=fun b=>b = p0) (fun b z=>z ▸ pn) k fun b z=>.inl z
  obtain ⟨L4,g1,g2,g3⟩:=As.setFz (j:=j) h1 h2
  refine ⟨p0,vs,kk,j,rfl,rfl,hp,by rw [hlen]; exact e6,w _ _ _ (p4.mut (a':=.lst (as.set j (.fz d))) (L':=p0 :: L4) g gst hv (by rw [e9]; simp) hp (fun b hb=>?_) ?_ ?_)⟩
  ·rcases List.mem_cons.mp hb with rfl | hb
   ·exact .inl (by rw [e9]; simp)
   ·exact .inl (by rw [e9]; simp [g2 b hb])
  ·exact List.nodup_cons.mpr ⟨fun z=>(List.nodup_cons.mp n1).1 (g2 _ z),g3 (List.nodup_cons.mp n1).2⟩
  ·rw [AE]
   exact ⟨p0,vs.set j y,L4,rfl,rfl,AV,by rw [List.length_set]; exact hz',g1⟩
 ·cases e4
end
section
variable {X:Cx} {a b c e:Expr} {es:List Expr} {m m1 m2 m3:ME} {ms:MA} {p pos pos' p2 apos cpos q npos:Pos} {x:Str}
theorem J3 (i:Nat) (hN:X.N[i]? = some x) (hv:Vis X.env.scope x) (hd:(x == ("__debug__" : Str)) = false) (hcd:(x == ("__classdict__" : Str)) = false) (hbase:attributeBase (.Name x npos) "append" X.env (eval (.Name x npos) X.env) = eval (.Name x npos) X.env) (hline:(apos.endLine == cpos.line) = true)
  (hs:starEach [e] X.env = [(false,eval e X.env)]) (hw:swapsWith (.Call (.Attribute (.Name x npos) "append" apos) [e] [] cpos) none pos.line X.env = pure false) (he:JE X e m):JS X (.Expr (.Call (.Attribute (.Name x npos) "append" apos) [e] [] cpos) pos) (Dx i m):=
 Cf (Iu (RF PySem.F.plainAttrs_list PySem.F.slot_list_append PySem.F.type_list_append FJ (Kj hN hv hd hcd) (DE he FU hs) hbase (by rw [hs]; rfl) hline hs rfl) hw) fun _ _ _ h=>QT h
theorem J4 (i:Nat) (hN:X.N[i]? = some x) (hv:Vis X.env.scope x) (hd:(x == ("__debug__" : Str)) = false) (hcd:(x == ("__classdict__" : Str)) = false)
  (ha:∀ v,assign (.Subscript (.Name x npos) b pos') X.env v = (do
   let ov ← holding [v] (eval (.Name x npos) X.env)
   let iv ← holding [v,ov] (eval b X.env)
   standAt pos'
   holding [v,ov,iv] (setItem ov iv v)
   release [v,ov,iv] []))
  (hs:swapsWithSole [.Subscript (.Name x npos) b pos'] e pos.line X.env = pure false) (hw:swappedStores [.Subscript (.Name x npos) b pos'] e X.env = pure none) (h1:(assignEach [.Subscript (.Name x npos) b pos'] X.env).map (·.2) = [assign (.Subscript (.Name x npos) b pos') X.env])
  (hk:JE X b m1) (he:JE X e m2):JS X (.Assign [.Subscript (.Name x npos) b pos'] e pos) (Jr i m1 m2):=
 Cf (Nb he (Qs (Kj hN hv hd hcd) hk set_list ha) hs hw h1) fun _ _ _ h=>QW h
end
end J
end
section
namespace PySem
open Sem (wp)
section
variable {prog:Program} {w:World} {Kk:Type} [DecidableEq Kk] {knd:KeyKind prog w Kk} {A:Around} {E:Value→Shared→Prop} {R:Result→Shared→Prop}
end
end PySem
end
section
namespace L2
open PySem PySem.Spec PyProof.Rows
section
variable {κ:Type} [DecidableEq κ]
end
section
variable {P:Program} {w:World} {H:Hp} {h:Heap} {a:Addr}
end
section
variable {X:Cx} {pins:List (Addr × Obj)} {σ:St} {H:Hp} {s:Shared} {a:Addr} {y v:V} {u r:Value} {o:Option V} {A:Around} {E:Value→Shared→Prop}
end
section
variable {X:Cx} {pins:List (Addr × Obj)} {σ:St} {H:Hp} {s:Shared} {a:Addr} {kvs:List (Key × V)} {k:Key} {u:Value} {A:Around} {E:Value→Shared→Prop}
end
section
variable {X:Cx} {o i e value:Expr} {pos pos' tpos:Pos} {td ty tv:TE}
end
section
variable {X:Cx} {pos:Pos}
end
structure M1 (X:Cx) (o:Expr) (m:Str) (apos:Pos) (e:Expr) (cpos:Pos):Prop where
 base:attributeBase o m X.env (eval o X.env) = eval o X.env
 few:((backTo cpos (starEach [e] X.env)).all (fun x=>!x.1) && (backToKw cpos (keywordEach [] X.env)).all (fun x=>x.1.isSome)
  && decide (([e]:List Expr).length + ([]:List Keyword).length + (if ([]:List Keyword).isEmpty then 0 else 1) < 30)) = true
 line:(apos.endLine == cpos.line) = true
 trees:backTo cpos (starEach [e] X.env) = [(false,eval e X.env)]
structure M2 (X:Cx) (o:Expr) (m:Str) (apos:Pos) (e f:Expr) (cpos:Pos):Prop where
 base:attributeBase o m X.env (eval o X.env) = eval o X.env
 few:((backTo cpos (starEach [e,f] X.env)).all (fun x=>!x.1) && (backToKw cpos (keywordEach [] X.env)).all (fun x=>x.1.isSome)
  && decide (([e,f]:List Expr).length + ([]:List Keyword).length + (if ([]:List Keyword).isEmpty then 0 else 1) < 30)) = true
 line:(apos.endLine == cpos.line) = true
 trees:backTo cpos (starEach [e,f] X.env) = [(false,eval e X.env),(false,eval f X.env)]
section
variable {X:Cx} {pins:List (Addr × Obj)} {σ:St} {H:Hp} {s:Shared} {a:Addr} {y d:V} {u r:Value} {o:Option V} {A:Around} {E:Value→Shared→Prop}
end
section
variable {X:Cx} {o e f:Expr} {apos cpos:Pos} {td ty tx:TE}
end
section
variable {X:Cx} {pins:List (Addr × Obj)} {σ:St} {H:Hp} {s:Shared} {a:Addr} {kvs:List (Key × V)} {A:Around} {E:Value→Shared→Prop}
end
section
variable {X:Cx} {pins:List (Addr × Obj)} {σ:St} {H:Hp} {s:Shared} {a:Addr} {y:V} {u:Value} {A:Around} {E:Value→Shared→Prop}
end
section
variable {X:Cx}
end
section
variable {X:Cx}
end
end L2
namespace J
open PySem PySem.Spec PyProof.Rows L2
section
variable {X:Cx} {a b c e:Expr} {es:List Expr} {m m1 m2 m3:ME} {ms:MA} {p pos pos' p2 apos cpos q npos:Pos} {x:Str}
variable {K:Frag} {N:Addr→Prop} {H:Hp} {σ:L2.St} {v:V} {L:List Addr}
noncomputable def Sf:D→Option Key
 | .int i=>some (.inl i)
 | .str z=>some (.inr z)
 | .non | .bl _ | .lst _ | .tup _=>none
end
section
variable {P:Program} {w:World} {K:Frag} {mg:Str→Option Value} {base:Heap}
theorem Ci {x qual:Str} {st:Stmt} {f:Addr} {fd:FuncData} {N ps:List Str} {k:Nat} {m:MS} (F:Fun K x qual st f fd) (S:FnScope N ps (Aq st))
  (hb:∀ (cdv:Value) (A:Around) (outer:List Env) (s:Shared) (H:Hp) (E:XK),Room k (A.deeper (envOfC qual (Aq st) s.heap.objs.size f cdv))→JSs (A5 CX0 P w K mg base N qual (Aq st) f cdv A outer s H E).nox (BU st) m) :
  FnOk P w K mg base CX0 (k + 1) f fd ps (spJ K (fnM ps.length N.length m) ps.length):=by
 refine F.ok S (fun vs H Q E h=>?_) fun cdv A outer s H vs Q E hr h=>⟨_,hb cdv A outer s H E hr,?_⟩
 ·obtain ⟨_,_,_,h,_⟩:=h
  exact h
 ·have hl:vs.length = ps.length:=by
   obtain ⟨_,_,_,h,_⟩:=h
   exact h
  have:=HU h
  unfold L2.start
  rw [hl]
  exact this
theorem Au {np nn:Nat} {b:MS}:∀ args y,fnM np nn b args = some y→args.length = np:=fun args y e=>by
 unfold fnM at e
 split at e
 ·rename_i h; exact h
 ·cases e
theorem PV {Φ:Fn} {H:Hp} {a:Addr} {ns:List Int} {as':List A} {E:XK} (hl:ns.length≤63) (hO:NI H) (hS:SqL K H a (ns.map V.int)) (e : Φ [(.ro,.scr ns)] = some (.fz (.bl true),as')):spJ K Φ 1 [.ref a] H (fun v _=>v = .bl true) E:=by
 refine ⟨[(.ro,.scr ns)],fun _=>False,fun _=>[],rfl,⟨rfl,fun i st b h=>?_,fun _ _=>rfl,fun _=>List.nodup_nil,fun i j p h=>by simp at h,fun i p h=>by simp at h,fun p z=>?_⟩,_,_,e,fun v H' ⟨L,fp',p,q⟩=>?_⟩
 ·cases i with
  | zero =>
   simp at h
   obtain ⟨rfl,rfl⟩:=h
   refine ⟨.ref a,rfl,?_⟩
   rw [AE]
   refine ⟨a,rfl,rfl,fun H' k=>?_,Nat.le_trans hl (by decide)⟩
   rcases hS with (h | ⟨o,h⟩) | h
   ·rcases hO a with z | ⟨o,xs,z⟩ | ⟨ps,z⟩
    ·rw [z] at h; cases h
    ·rw [z] at h; cases h
    ·rw [z] at h; cases h
   ·exact .inl (.inr ⟨o,k _ _ h⟩)
   ·exact .inr h
  | succ i=>simp at h
 ·rcases z with ⟨i,z⟩ | z
  ·simp at z
  ·exact z.elim
 ·exact Nj q rfl
end
end J
end
section
namespace J
open PySem PySem.Spec PyProof.Rows L2
noncomputable def moves:List R→Ro→Option (List A × Ro)
 | [],ρ=>some ([],ρ)
 | r :: rs,ρ=>(move ρ r).bind fun p=>(moves rs p.2).map fun q=>(p.1 :: q.1,q.2)
noncomputable def BZ (m:MA):ME:=fun ρ=>(m ρ).bind fun p=>(moves p.1 p.2).bind fun q=>if q.1.length≤LIM then some (.val (mkT q.1),q.2) else none
section
variable {K:Frag} {ρ ρ' ρ1 ρ2:Ro} {σ σ' σ1 σ2:L2.St} {H H' H1 H2:Hp} {O O' N:Addr→Prop} {fp fp' fp1 fp2:Nat→List Addr} {L L1:List Addr}
theorem Post.perm {L':List Addr} (x:Post K O fp H ρ ρ1 σ σ1 L fp1 H1) (h:∀ p,p∈L'↔p∈L) (nd:L'.Nodup):Post K O fp H ρ ρ1 σ σ1 L' fp1 H1:=
 ⟨x.rel.congr fun p=>or_congr Iff.rfl (h p).symm,nd,fun p hp=>x.lo p ((h p).mp hp),fun p hp=>x.new p (hp.imp (h p).mp id),x.kept,x.ln,x.stab⟩
theorem Post.give {i:Nat} {a:A} {v:V} (x:Post K O fp H ρ ρ1 σ σ L fp1 H1) (ha : ρ1[i]? = some (some (.own,a))) (hv : σ[i]? = some (some v)) :
  Post K O fp H ρ (ρ1.set i none) σ σ (L ++ fp1 i) (pt fp1 i []) H1∧AE K (NN fp1 (ad O L)) H1 v a (fp1 i)∧∀ p,NN (pt fp1 i []) (ad O (L ++ fp1 i)) p↔NN fp1 (ad O L) p:=by
 obtain ⟨v',hv',q⟩:=x.rel.slot i _ _ ha
 rw [hv] at hv'; cases hv'
 have nn:∀ p,NN (pt fp1 i []) (ad O (L ++ fp1 i)) p↔NN fp1 (ad O L) p:=fun p=>by
  constructor
  ·intro z
   rcases z with ⟨j,z⟩ | z | z
   ·rcases BS z with ⟨_,z⟩ | ⟨_,z⟩
    ·simp at z
    ·exact .inl ⟨j,z⟩
   ·exact .inr (.inl z)
   ·rcases List.mem_append.mp z with z | z
    ·exact .inr (.inr z)
    ·exact .inl ⟨i,z⟩
  ·intro z
   rcases z with ⟨j,z⟩ | z | z
   ·by_cases hj:j = i
    ·subst hj; exact .inr (.inr (List.mem_append_right _ z))
    ·exact .inl ⟨j,by rw [F8 hj]; exact z⟩
   ·exact .inr (.inl z)
   ·exact .inr (.inr (List.mem_append_left _ z))
 have nd:(L ++ fp1 i).Nodup:=List.nodup_append.mpr ⟨x.nd,x.rel.nd i,fun a ha b hb e=>by subst e; exact x.rel.off i a hb (.inr ha)⟩
 have R:=x.rel.set (i:=i) (s:=none) (o:=some v) (L:=[]) (O':=ad O (L ++ fp1 i)) (AF ha) (fun p z=>(nn p).mp (.inr z)) (fun p hp=>by simp at hp) List.nodup_nil (fun p hp=>by simp at hp) (fun p hp=>by simp at hp)
  (fun j p hj h z=>by
   rcases z with z | z
   ·exact x.rel.off j p h (.inl z)
   ·rcases List.mem_append.mp z with z | z
    ·exact x.rel.off j p h (.inr z)
    ·exact hj (x.rel.inj j i p h z)) (fun st a e=>by cases e) (fun _=>rfl)
 rw [G7 hv] at R
 refine ⟨⟨R,nd,fun p hp z=>?_,fun p hp=>?_,x.kept,rfl,fun j st a' h n=>?_⟩,q,nn⟩
 ·rcases List.mem_append.mp hp with hp | hp
  ·exact x.lo p hp z
  ·exact x.rel.off i p hp (.inl z)
 ·rcases hp with hp | ⟨j,hp⟩
  ·rcases List.mem_append.mp hp with hp | hp
   ·exact x.new p (.inl hp)
   ·exact x.new p (.inr ⟨i,hp⟩)
  ·rcases BS hp with ⟨_,z⟩ | ⟨_,z⟩
   ·simp at z
   ·exact x.new p (.inr ⟨j,z⟩)
 ·obtain ⟨a2,h2,_,f2⟩:=x.stab j st a' h n
  refine ⟨a2,?_,rfl,f2⟩
  rw [List.getElem?_set_ne]
  ·exact h2
  ·rintro rfl
   rw [ha] at h2; cases h2; exact n rfl
theorem RRs.weak (h:∀ p,O' p→N p):∀ {vs:List V} {rs:List R} {L:List Addr},RRs K N H σ vs rs L→RRs K O' H σ vs rs L
 | [],[],_,q=>q
 | [],_ :: _,_,q=>by simp only [RRs] at q
 | _ :: _,[],_,q=>by simp only [RRs] at q
 | v :: vs,r :: rs,L,q=>by
  simp only [RRs] at q ⊢
  obtain ⟨L1,L2,rfl,h1,h2⟩:=q
  refine ⟨L1,L2,rfl,?_,RRs.weak h h2⟩
  cases r with
  | val a=>exact Dc h h1
  | ref i=>exact h1
theorem J8:∀ {rs:List R} {vs:List V} {as:List A} {ρ1 ρ2:Ro} {fp1:Nat→List Addr} {Lacc L:List Addr},Post K O fp H ρ ρ1 σ σ (Lacc ++ L) fp1 H1→RRs K (NN fp1 (ad O (Lacc ++ L))) H1 σ vs rs L→moves rs ρ1 = some (as,ρ2) →
  ∃ L2 fp2,Post K O fp H ρ ρ2 σ σ (Lacc ++ L2) fp2 H1∧As K (NN fp2 (ad O (Lacc ++ L2))) H1 vs as L2∧∀ p,NN fp2 (ad O (Lacc ++ L2)) p↔NN fp1 (ad O (Lacc ++ L)) p:=by
 intro _l
 induction _l with
 | nil =>
  intro _m
  cases _m with
  | nil =>
   intro as ρ1 ρ2 fp1 Lacc L x q e
   simp only [moves,Option.some.injEq,Prod.mk.injEq] at e
   obtain ⟨rfl,rfl⟩:=e
   simp only [RRs] at q
   subst q
   exact ⟨[],fp1,x,by simp [As],fun p=>Iff.rfl⟩
  | cons _ _ =>
   intro _ _ _ _ _ _ _ q _
   simp only [RRs] at q
 | cons r rs ih =>
  intro _m
  cases _m with
  | nil =>
   intro _ _ _ _ _ _ _ q _
   simp only [RRs] at q
  | cons v vs =>
   intro as ρ1 ρ2 fp1 Lacc L x q e
   simp only [RRs] at q
   obtain ⟨L1,L2,rfl,h1,h2⟩:=q
   simp only [moves,bind_eq_some_iff,map_eq_some_iff] at e
   obtain ⟨⟨a,ρ3⟩,e1,⟨as',ρ4⟩,e2,e3⟩:=e
   cases e3
   cases r with
   | val b =>
    simp only [move,Option.some.injEq,Prod.mk.injEq] at e1
    obtain ⟨rfl,rfl⟩:=e1
    rw [← List.append_assoc] at x h1 h2
    obtain ⟨L3,fp3,p3,q3,n3⟩:=ih (Lacc:=Lacc ++ L1) x h2 e2
    rw [List.append_assoc] at p3 q3 n3
    refine ⟨L1 ++ L3,fp3,p3,?_,fun p=>by rw [n3 p,List.append_assoc]⟩
    simp only [As]
    exact ⟨L1,L3,rfl,Dc (fun p z=>by have:=(n3 p).mp z; rw [List.append_assoc]; rw [List.append_assoc] at this; exact this) h1,q3⟩
   | ref i =>
    obtain ⟨rfl,hv⟩:=h1
    rw [List.nil_append] at x h2
    simp only [move] at e1
    split at e1
    ·rename_i a' ha
     cases e1
     obtain ⟨g1,g2,g3⟩:=x.give ha hv
     have nd:((Lacc ++ fp1 i) ++ L2).Nodup:=by
      have:=g1.nd
      rw [List.append_assoc] at this ⊢
      exact (List.perm_append_comm.append_left Lacc).nodup this
     have g1':Post K O fp H ρ (ρ1.set i none) σ σ ((Lacc ++ fp1 i) ++ L2) (pt fp1 i []) H1:=g1.perm (fun p=>by simp; exact ⟨fun z=>by rcases z with z | z | z; exact .inl z; exact .inr (.inr z); exact .inr (.inl z),fun z=>by rcases z with z | z | z; exact .inl z; exact .inr (.inr z); exact .inr (.inl z)⟩) nd
     have nn:∀ p,NN (pt fp1 i []) (ad O ((Lacc ++ fp1 i) ++ L2)) p↔NN fp1 (ad O (Lacc ++ L2)) p:=fun p=>by
      rw [← g3 p]
      refine or_congr Iff.rfl (or_congr Iff.rfl ?_)
      simp
      exact ⟨fun z=>by rcases z with z | z | z; exact .inl z; exact .inr (.inr z); exact .inr (.inl z),fun z=>by rcases z with z | z | z; exact .inl z; exact .inr (.inr z); exact .inr (.inl z)⟩
     obtain ⟨L3,fp3,p3,q3,n3⟩:=ih (Lacc:=Lacc ++ fp1 i) g1' (RRs.weak (fun p z=>(nn p).mp z) h2) e2
     rw [List.append_assoc] at p3 q3 n3
     refine ⟨fp1 i ++ L3,fp3,p3,?_,fun p=>by rw [n3 p,nn p]; simp⟩
     simp only [As]
     exact ⟨fp1 i,L3,rfl,Dc (fun p z=>(nn p).mp ((n3 p).mp z)) g2,q3⟩
    ·cases e1
theorem OM {m:MA} {Q:VK} (h:tE K (BZ m) σ H Q):Q2 (tA K m) σ H Q:=by
 obtain ⟨ρ,O,fp,rl,x,ρ',e,k⟩:=h
 simp only [BZ,bind_eq_some_iff] at e
 obtain ⟨⟨rs,ρ1⟩,e1,⟨as,ρ2⟩,e2,e3⟩:=e
 split at e3
 ·rename_i hz
  cases e3
  refine ⟨ρ,O,fp,rl,rs,_,e1,fun vs H1 yy=>?_⟩
  obtain ⟨L,fp1,p,q⟩:=yy
  obtain ⟨L2,fp2,p2,q',_⟩:=J8 (Lacc:=[]) p q e2
  rw [List.nil_append] at p2 q'
  have hl:=q'.len
  refine ⟨by rw [hl]; exact hz,fun a ha=>k _ _ ?_⟩
  have s:=CY (o:=.tup vs) ha
  have q2:As K (NN fp2 (ad O L2)) (upd H1 a (.tup vs)) vs as L2:=q'.tr (M:=fun _=>False) (fun _ z=>z.elim) (B8.kept s) (fun p z=>.inl z) fun _ _ z=>z
  show Hr _ _ _ _ _ _ _ (.val (mkT as)) _ _
  unfold mkT
  split
  ·rename_i ds hd
   obtain ⟨rfl,qd⟩:=q2.fzs hd
   exact ⟨[],fp2,p2.more s List.nodup_nil (fun p hp=>by simp at hp),Jw (Iz AV (by rw [hl]; exact hz) qd)⟩
  ·refine ⟨L2,fp2,p2.more s p2.nd (fun p hp=>.inl hp),?_⟩
   show AE _ _ _ _ _ _
   rw [AE]
   exact ⟨a,vs,rfl,AV,by rw [hl]; exact hz,q2⟩
 ·cases e3
end
section
variable {X:Cx} {a b c e:Expr} {es:List Expr} {m m1 m2 m3:ME} {ms:MA} {p pos pos' p2 apos cpos q npos:Pos} {x:Str} {K:Frag}
theorem Ce {k:Nat} (h:JA X es ms):JE X (.Tuple es k pos) (BZ ms):=AW (M8 h) fun _ _ _ h=>OM h
theorem FP:OpN K C0 (r2L (rI0 fun i j=>.int (i - j))):=GP
theorem KY:OpN K DQ (r2L (rI0 fun i j=>.int (Builtin.bitAnd i j))):=GP
theorem P5:OpN K JN (r2L (rI0 fun i j=>.int (Builtin.bitOr i j))):=GP
theorem Rv:OpN K gtA (r2L (rI0 fun i j=>.bl (decide (j < i)))):=Jk
theorem Ru:OpN K geA (r2L (rI0 fun i j=>.bl (decide (j≤i)))):=Jk
end
end J
end
section
namespace L2
open PySem PySem.Spec PyProof.Rows
section
variable {X:Cx} {pins:List (Addr × Obj)} {σ:St} {H:Hp} {s:Shared} {h':Heap}
end
section
variable {X:Cx}
noncomputable def rSm:R2:=fun a b H Q=>∃ p q:Bool,a = .bl p∧b = .bl q∧Q (.bl (p == q)) H
theorem Rz:OpR X (compareOp .Is) rSm:=by
 intro pins s σ H x y v u Q I rx ry h
 obtain ⟨p,q,rfl,rfl,k⟩:=h
 have e1:v = .bool p:=rx
 have e2:u = .bool q:=ry
 subst e1 e2
 refine wpAny_is_plain (by cases p <;> cases q <;> rfl) ⟨_,H,I,?_,k⟩
 show Value.bool _ = Value.bool _
 cases p <;> cases q <;> rfl
end
end L2
namespace J
open PySem PySem.Spec PyProof.Rows L2
section
variable {X:Cx} {a b c e:Expr} {es:List Expr} {m m1 m2 m3:ME} {ms:MA} {p pos pos' p2 apos cpos q npos:Pos} {x:Str}
variable {K:Frag} {N:Addr→Prop} {H:Hp} {σ:L2.St} {v:V} {L:List Addr}
noncomputable def isA:List A→Option A
 | [.fz (.bl p),.fz (.bl q)]=>some (.fz (.bl (p == q)))
 | _=>none
theorem Rw:OpN K isA (r2L rSm):=by
 intro N H xs as b Q hs e k
 unfold isA at e
 split at e
 ·rename_i p q
  cases e
  obtain ⟨x,y,L1,L2,rfl,h1,h2⟩:=BM hs
  rw [AE] at h1 h2
  obtain ⟨rfl,h1⟩:=h1
  obtain ⟨rfl,h2⟩:=h2
  cases h1
  cases h2
  exact ⟨_,_,rfl,p,q,rfl,rfl,k _ _ ⟨fun _ _ z=>z,[],DG (K:=K) (.bl _),List.nodup_nil,fun _ h=>by simp at h⟩⟩
 ·cases e
end
end J
end
section
namespace Sg
open PySem
section
variable {P:Program} {w:World} {A:Around} {E:Value→Shared→Prop} {s:Shared}
end
section
variable {P:Program} {w:World} {A:Around} {E:Value→Shared→Prop}
end
section
variable {P:Program} {w:World} {A:Around} {E:Value→Shared→Prop} {s:Shared}
end
section
variable {P:Program} {w:World} {A:Around} {E:Value→Shared→Prop} {s:Shared}
end
section
variable {P:Program} {w:World} {A:Around} {E:Value→Shared→Prop} {s:Shared}
end
end Sg
end
section
namespace Sg
open PySem PyProof.Rows
section
variable {P:Program} {w:World} {A:Around} {E:Value→Shared→Prop} {s:Shared}
end
section
variable {P:Program} {w:World} {A:Around} {E:Value→Shared→Prop} {s:Shared}
end
end Sg
end
section
namespace L2
open PySem PySem.Spec PyProof.Rows Sg
section
variable {X:Cx}
end
end L2
namespace J
open PySem PySem.Spec PyProof.Rows L2 Sg
section
variable {X:Cx} {a b c e:Expr} {es:List Expr} {m m1 m2 m3:ME} {ms:MA} {p pos pos' p2 apos cpos q npos:Pos} {x:Str}
variable {K:Frag} {N:Addr→Prop} {H:Hp} {σ:L2.St} {v:V} {L:List Addr}
end
end J
end
section
namespace J
open PySem PySem.Spec PyProof.Rows L2
section
variable {K:Frag} {ρ ρ' ρ1 ρ2:Ro} {σ σ' σ1 σ2:L2.St} {H H' H1 H2:Hp} {O O' N:Addr→Prop} {fp fp' fp1 fp2:Nat→List Addr} {L L1:List Addr}
end
section
variable {X:Cx} {a b c e:Expr} {es:List Expr} {m m1 m2 m3:ME} {ms:MA} {p pos pos' p2 apos cpos q npos:Pos} {x:Str}
end
end J
end
section
namespace L2
open PySem PySem.Spec PyProof.Rows
section
variable {X:Cx} {pins:List (Addr × Obj)} {σ:St} {H:Hp} {s:Shared}
end
section
variable {P:Program} {w:World} {A:Around} {E:Value→Shared→Prop} {s:Shared}
theorem nx {n k j:Nat} (h:k≠j:=by decide):n + k≠n + j:=fun e=>h (Nat.add_left_cancel e)
end
end L2
namespace L2
open PySem PySem.Spec PyProof.Rows
section
variable {X:Cx}
noncomputable def RQ:R2:=fun a b H Q=>∃ p q:Bool,a = .bl p∧b = .bl q∧Q (.bl (!(p == q))) H
theorem M3:OpR X (compareOp .IsNot) RQ:=by
 intro pins s σ H x y v u Q I rx ry h
 obtain ⟨p,q,rfl,rfl,k⟩:=h
 have e1:v = .bool p:=rx
 have e2:u = .bool q:=ry
 subst e1 e2
 refine wpAny_isNot_plain (by cases p <;> cases q <;> rfl) ⟨_,H,I,?_,k⟩
 show Value.bool _ = Value.bool _
 cases p <;> cases q <;> rfl
end
end L2
namespace J
open PySem PySem.Spec PyProof.Rows L2
section
variable {X:Cx} {a b c e:Expr} {es:List Expr} {m m1 m2 m3:ME} {ms:MA} {p pos pos' p2 apos cpos q npos:Pos} {x:Str}
variable {K:Frag} {N:Addr→Prop} {H:Hp} {σ:L2.St} {v:V} {L:List Addr}
noncomputable def JY:List A→Option A
 | [.fz (.bl p),.fz (.bl q)]=>some (.fz (.bl (!(p == q))))
 | _=>none
theorem MX:OpN K JY (r2L RQ):=by
 intro N H xs as b Q hs e k
 unfold JY at e
 split at e
 ·rename_i p q
  cases e
  obtain ⟨x,y,L1,L2,rfl,h1,h2⟩:=BM hs
  rw [AE] at h1 h2
  obtain ⟨rfl,h1⟩:=h1
  obtain ⟨rfl,h2⟩:=h2
  cases h1
  cases h2
  exact ⟨_,_,rfl,p,q,rfl,rfl,k _ _ ⟨fun _ _ z=>z,[],DG (K:=K) (.bl _),List.nodup_nil,fun _ h=>by simp at h⟩⟩
 ·cases e
end
end J
end
section
namespace Ug
open PySem Sg
section
variable {P:Program} {w:World} {A:Around} {E:Value→Shared→Prop} {s:Shared}
end
section
variable {P:Program} {w:World} {A:Around} {E:Value→Shared→Prop}
end
section
variable {P:Program} {w:World} {A:Around} {E:Value→Shared→Prop} {s:Shared}
end
section
variable {P:Program} {w:World} {A:Around} {E:Value→Shared→Prop} {s:Shared}
end
section
variable {P:Program} {w:World} {A:Around} {E:Value→Shared→Prop} {s:Shared}
end
end Ug
end
section
namespace Ug
open PySem Sg PyProof.Rows
section
variable {P:Program} {w:World} {A:Around} {E:Value→Shared→Prop} {s:Shared}
end
end Ug
end
section
namespace L2
open PySem PySem.Spec PyProof.Rows Sg
section
variable {X:Cx}
end
end L2
namespace J
open PySem PySem.Spec PyProof.Rows L2 Sg
section
variable {X:Cx} {a b c e:Expr} {es:List Expr} {m m1 m2 m3:ME} {ms:MA} {p pos pos' p2 apos cpos q npos:Pos} {x:Str}
variable {K:Frag} {N:Addr→Prop} {H:Hp} {σ:L2.St} {v:V} {L:List Addr}
noncomputable def G3 (m1 m2:ME):MI:=fun ρ=>(m2L m1 m2 ρ).bind fun p=>match p.1 with
 | [.val (.fz (.int i)),.val (.fz (.int j))]=>if -(2 ^ 62)≤i∧i < 2 ^ 62 ∧ -(2 ^ 62)≤j∧j < 2 ^ 62 then some (C5 i (j - i).toNat,none,p.2) else none
 | _=>none
theorem ON {R:It→Hp→Prop} (h:tI K (G3 m1 m2) σ H R):O0 (tA K (m2L m1 m2)) σ H R:=by
 obtain ⟨ρ,O,fp,rl,ds,n,ρ',e,k⟩:=h
 simp only [G3,bind_eq_some_iff] at e
 obtain ⟨⟨rs,ρ1⟩,e1,e2⟩:=e
 dsimp only at e2
 split at e2
 ·rename_i i j
  split at e2
  ·rename_i hz
   cases e2
   refine ⟨ρ,O,fp,rl,_,_,e1,fun vs H1 yy=>?_⟩
   obtain ⟨L,fp1,p,q⟩:=yy
   have hs:=p.rel.peeks (rs:=[.val (.fz (.int i)),.val (.fz (.int j))]) (as:=[.fz (.int i),.fz (.int j)]) q rfl
   obtain ⟨v2,v3,_,_,rfl,h2,h3⟩:=BM hs
   cases Bt h2
   cases Bt h3
   refine ⟨i,j,rfl,hz,k _ _ ⟨.val (.fz .non),.non,.fz .non,[],fp1,p.drop0,DG (K:=K) .non,rfl,rfl,fun N H2 _=>?_⟩⟩
   have hl:(C5 i (j - i).toNat).length = (j - i).toNat:=by simp [C5]
   refine ⟨fun k hk=>by show k < (j - i).toNat; lia,fun k hk=>by show (j - i).toNat≤k; lia,fun k v H' d y e=>?_⟩
   obtain ⟨rfl,rfl⟩:=y
   refine ⟨fun _ _ z=>z,?_⟩
   have hi:k < (j - i).toNat:=by have:=AF e; lia
   simp only [C5,List.getElem?_map,List.getElem?_range hi,Option.map_some,Option.some.injEq] at e
   subst e
   exact .int _
  ·cases e2
 ·cases e2
theorem N3 {tg:Expr} (hg:Gl X "range") (hm:X.mg "range" = none) (hs:starEach [a,b] X.env = [(false,eval a X.env),(false,eval b X.env)]) (hs2:starEach [b] X.env = [(false,eval b X.env)]) (h:JE X a m1) (h':JE X b m2):JI X tg (.Call (.Name "range" p) [a,b] [] pos) (G3 m1 m2):=
 Ir (LL hg hm (Ac (by rw [hs,hs2]) h (Ac hs2 h' Ai)) hs hs2) fun _ _ _ h=>ON h
end
end J
end
section
namespace Lm
open PySem PyProof.Rows
section
variable {prog:Program} {w:World} {A:Around} {E:Value→Shared→Prop} {s:Shared} {h₀:Heap} {l q I S:Addr} {vs:List Value} {R:Result→Shared→Prop} {Q:Value→Shared→Prop}
end
end Lm
end
section
namespace L2
open PySem PySem.Spec PyProof.Rows PySem.W
section
variable {X:Cx} {pins:List (Addr × Obj)} {σ:St} {H:Hp} {s:Shared} {h':Heap}
theorem Inv.tabled {t':Nat} {P c':Addr} {ps:Array Value} (I:Inv X pins σ H s) (eP:H P = some (.tbl ps)) (hx:∀ b o,b≠P→s.heap.get? b = some o→h'.get? b = some o) (hP:∃ o,h'.get? P = some o) (hc:s.heap.objs.size≤c')
  (hok:HOk X.prog X.w (upd H c' (.own P)) h'):Inv X pins σ (upd H c' (.own P)) { s with heap:=h',toks:=t' }:=by
 have hn:H c' = none:=I.hok.fresh hc
 have neP:∀ b,H b = none→b≠P:=fun b e z=>by rw [z,eP] at e; cases e
 have neC:∀ b u,H b = some u→b≠c':=fun b u e z=>by rw [z,hn] at e; cases e
 refine I.step (g':=s.gens) (d':=s.drawn) (ch:=[]) (fun b hb=>by simp at hb) (fun b o _ _ _ e n=>hx b o (neP b n) e) (fun b o _ _ _ e n=>⟨o.slots,hx b o (neP b n) e⟩) (fun b o _ e n=>?_)
  (fun b o _ e=>?_) (fun b xs e=>by rw [Ax (neC b _ e)]; exact e) (fun b o u e=>by rw [Ax (neC b _ e)]; exact e) (fun b qs e=>⟨#[],by rw [Ax (neC b _ e),e]; simp⟩) (fun m hm=>?_) hok I.bare
 ·rw [Ax (Nat.ne_of_lt (Nat.lt_of_lt_of_le (Heap.lt_size e) hc))]; exact n
 ·by_cases hb:b = P
  ·rw [hb]; exact hP
  ·exact ⟨o,hx b o hb e⟩
 ·obtain ⟨o,es,ep,ho,r⟩:=hm
  exact ⟨o,es,ep,hx _ o (neP _ I.free) ho,r⟩
theorem JK {pos pos':Pos} {v c:Value} (l:List Value) (h:TriplesOk l) (e:codeAmong pos (l ++ [rawInt pos'.line,rawInt pos'.col,v]) = some c):codeAmong pos l = some c∨c = v:=by
 fun_induction TriplesOk l with
 | case1 =>
  simp only [List.nil_append,codeAmong,rawInt] at e
  split at e
  ·exact .inr (Option.some.inj e).symm
  ·cases e
 | case2 a t b u x rest ih =>
  simp only [List.cons_append,codeAmong] at e ⊢
  split at e
  ·rename_i q
   rw [if_pos q]; exact .inl e
  ·rename_i q
   rw [if_neg q]; exact ih h e
 | case3=>exact h.elim
theorem JV {P:Program} {w:World} {h h':Heap} {b c':Addr} {ps qs:Array Value} {pos:Pos} {q:Str} (hok:HOk P w H h) (eP:H b = some (.tbl ps)) (gP:h.get? b = some { cls:=.none,data:=.fields qs }) (tr:TriplesOk qs.toList)
  (hx:∀ a o,a≠b→h.get? a = some o→h'.get? a = some o) (hP:h'.get? b = some { cls:=.none,data:=.fields (qs ++ #[rawInt pos.line,rawInt pos.col,.ref c']) }) (hc:h.objs.size≤c') (hr:h'.CodeRec (.ref c') q) (hq:ps[0]? = some (.str q 0)) :
  HOk P w (upd H c' (.own b)) h':=fun a u e=>by
 have hn:H c' = none:=hok.fresh hc
 have neC:∀ a u,H a = some u→a≠c':=fun a u e z=>by rw [z,hn] at e; cases e
 obtain ⟨c2,oc,vs,t,e2,g1,g2,g3⟩:=hr
 cases e2
 by_cases ha:a = c'
 ·subst ha; rw [AV] at e; cases e; exact ⟨oc,g1⟩
 ·rw [Ax ha] at e
  by_cases hb:a = b
  ·subst hb
   rw [eP] at e; cases e
   obtain ⟨qs',gP',_,f⟩:=hok a _ eP
   rw [gP] at gP'; cases gP'
   refine ⟨_,hP,by rw [Array.toList_append]; exact TriplesOk_snoc _ _ _ _ tr,fun pos' c hcc=>?_⟩
   rw [Array.toList_append] at hcc
   rcases JK _ tr hcc with z | z
   ·obtain ⟨c3,oc3,vs3,t3,q3,f1,f2,f3,f4⟩:=f pos' c z
    have nb:c3≠a:=fun z=>by rw [z,eP] at f2; cases f2
    exact ⟨c3,oc3,vs3,t3,q3,f1,by rw [Ax (neC _ _ f2)]; exact f2,hx _ _ nb f3,f4⟩
   ·exact ⟨c',oc,vs,t,q,z,AV,g1,g2,g3,hq⟩
  ·refine (hok a u e).stay (fun d v hd q=>hx d v (fun z=>?_) q) (fun d q=>by rw [Ax (neC d _ q)]; exact q) fun d xs q=>by rw [Ax (neC d _ q)]; exact q
   rcases hd with hd | hd
   ·exact hb (hd ▸ z)
   ·rw [z,eP] at hd; cases hd
noncomputable abbrev N5 (params:Arguments) (body:Expr) (scope:Scope) (cl:List (Str × Addr)) (pm:Value) (c':Addr) (ctv:Value):Obj:=kla_obj "<lambda>" Bv params body scope cl pm c' ctv
theorem MK {params:Arguments} {body:Expr} {scope:Scope} {pos:Pos} {c P:Addr} {cl:List (Str × Addr)} {Q:Value→Shared→Prop} (I:Inv X pins σ H s) (hcode:X.env.code = .ref c) (ht:tabIn X.K Bp = some (c,P)) (hh:codeHdIn X.K c P = true)
  (hq:X.env.qual ++ "<lambda>" = Bv) (hdef:defaultsOf params X.env = ([],[])) (hcl:closureFor scope X.env = pure cl)
  (h:∀ f c' pm ctv h' tk H2,Inv X pins σ H2 { s with heap:=h',toks:=tk }→B8 H H2→h'.get? f = some (N5 params body scope cl pm c' ctv)→h'.CodeRec (.ref c') Bv→Q (.ref f) { s with heap:=h',toks:=tk }) :
  wpAny (model X.prog X.w) X.A (eval (.Lambda params body scope pos) X.env) Q X.xe s:=by
 obtain ⟨ps,eP,e0⟩:=I.tabs c P ht
 obtain ⟨qs,gP,tr,fc⟩:=I.hok P _ eP
 have C:CodeHd s.heap c P:=codeHd_of_K I.kIn hh
 obtain ⟨bm,ob,b1,b2,b3,b4,b5,b6⟩:=I.mod.bmain
 have g3:=I.bk _ _ b3
 have hgs:s.heap.Ns mainGlobals X.mg:=I.mod.glob.keeps I.bk
 have hgP:mainGlobals≠P:=fun q=>by
  obtain ⟨o,es,ep,e,hd,_⟩:=hgs
  rw [q,gP] at e; cases e; cases hd
 have hbP:bm≠P:=fun q=>by rw [q,gP] at g3; cases g3; cases b4
 have hbG:bm≠mainGlobals:=fun q=>by
  obtain ⟨o,es,ep,e,hd,_⟩:=hgs
  rw [q,e] at g3; cases g3; rw [hd] at b6; cases b6
 have hba:s.heap.BuiltinsAt X.mg P:=⟨bm,ob,b1,b2,hbG,hbP,g3,b4,b5,b6⟩
 refine kla_eval hdef ?_
 rw [hq]
 cases hnf:codeAmong pos qs.toList with
 | none =>
  refine kla_makeFunction hcl I.ok.glob hgs hcode C gP tr hnf hgP hba fun c' ctv h1 tk hx hge hlt hrec htb=>?_
  have ok2:=JV (q:=Bv) I.hok eP gP tr hx htb hge hrec e0
  have I2:=I.tabled (t':=tk) eP hx ⟨_,htb⟩ hge ok2
  have I3:Inv X pins σ (upd H c' (.own P)) { s with heap:=h1.push (N5 params body scope cl ((X.mg "__name__").getD .none) c' ctv),toks:=tk }:=I2.kept (t':=tk) fun b o e=>Heap.get?_push_of_some _ e
  refine h _ c' _ ctv _ tk _ I3 (J.CY (I.hok.fresh hge)) (Heap.get?_push_size _ rfl) ?_
  obtain ⟨c2,oc,vs,t,e1,e2,e3⟩:=hrec
  exact ⟨c2,oc,vs,t,e1,Heap.get?_push_of_some _ e2,e3⟩
 | some cv =>
  obtain ⟨c',oc,vs,t,q,rfl,f2,f3,f4,f5,f6⟩:=fc pos cv hnf
  rw [e0] at f6
  have hqq:q = Bv:=by
   have:=Option.some.inj f6
   cases this; rfl
  subst hqq
  refine kla_makeFunctionHit hcl I.ok.glob hgs hcode C gP tr hnf hba fun ctv h1 tk hk hsz=>?_
  have I3:Inv X pins σ H { s with heap:=h1.push (N5 params body scope cl ((X.mg "__name__").getD .none) c' ctv),toks:=tk }:=I.kept (t':=tk) fun b o e=>Heap.get?_push_of_some _ (hk b o e)
  exact h _ c' _ ctv _ tk _ I3 (fun _ _ e=>e) (Heap.get?_push_size _ rfl) ⟨c',oc,vs,t,rfl,Heap.get?_push_of_some _ (hk _ _ f3),f4,f5⟩
end
end L2
namespace L2
open PySem PySem.Spec PyProof.Rows PySem.W
end L2
end
section
namespace J
open PySem PySem.Spec PyProof.Rows L2 PySem.W
section
variable {X:Cx} {a b c e:Expr} {es:List Expr} {m m1 m2 m3:ME} {ms:MA} {p pos pos' p1 p2 p3 lp kp:Pos} {x y:Str}
variable {K:Frag} {N:Addr→Prop} {H:Hp} {σ:L2.St} {v:V} {L:List Addr}
end
section
variable {X:Cx} {K:Frag}
end
section
variable {P:Program} {w:World} {K:Frag} {mg:Str→Option Value} {base:Heap}
theorem NU {f c b:Addr} {oc:Value} {od:Option Addr} {fd:FuncData} {osl:Array (Option Value)} (n:nsIn K mainGlobals Bp = some (some (.ref f))) (lk:K.lookup f = some ⟨oc,od,.func fd,osl⟩) (t:tabIn K Bp = some (c,b)):fd.code = .ref c:=by
 unfold tabIn at t
 rw [n] at t
 dsimp only at t
 rw [lk] at t
 dsimp only at t
 split at t
 ·rename_i c' hc
  split at t
  ·split at t
   ·cases t; exact hc
   ·cases t
  ·cases t
 ·cases t
theorem Po {st:Stmt} {f c b:Addr} {fd:FuncData} {N ps:List Str} {k:Nat} {m:MS} (F:Fun K Bp Bp st f fd) (hn:nsIn K mainGlobals Bp = some (some (.ref f))) (ht:tabIn K Bp = some (c,b)) (S:FnScope N ps (Aq st))
  (hb:∀ (A:Around) (outer:List Env) (s:Shared) (H:Hp) (E:XK),Room k (A.deeper (envOfC Bp (Aq st) s.heap.objs.size f (.ref c)))→JSs (A5 CX0 P w K mg base N Bp (Aq st) f (.ref c) A outer s H E).nox (BU st) m) :
  FnOk P w K mg base CX0 (k + 1) f fd ps (spJ K (fnM ps.length N.length m) ps.length):=by
 obtain ⟨oc,od,kV,doc,pm,an,cdv,ct,osl,rfl,lk,hcd⟩:=F.ex
 have ec:cdv = .ref c:=NU hn lk ht
 subst ec
 refine Mo lk hcd S (fun vs H Q E h=>?_) fun A outer s H vs Q E hr h=>?_
 ·obtain ⟨_,_,_,h,_⟩:=h
  exact h
 ·have hl:vs.length = ps.length:=by
   obtain ⟨_,_,_,h,_⟩:=h
   exact h
  have:=HU h
  refine ⟨_,PSs.nox (hb A outer s H E hr),?_⟩
  unfold L2.start
  rw [hl]
  exact this
end
end J
end
section
namespace L2
open PySem PySem.Spec PyProof.Rows
section
variable {X:Cx} {a e:Expr} {ta te:TE} {apos cpos:Pos}
end
end L2
namespace J
open PySem PySem.Spec PyProof.Rows L2
section
variable {X:Cx} {a b c e:Expr} {es:List Expr} {m m1 m2 m3:ME} {ms:MA} {p pos pos' p2 apos cpos q npos:Pos} {x:Str}
variable {K:Frag} {N:Addr→Prop} {H:Hp} {σ:L2.St} {v:V} {L:List Addr}
noncomputable def cutD (ds:List D) (lo hi:Option Int):List D:=(ds.drop (HT.sIx ds.length 0 lo)).take (HT.sIx ds.length ds.length hi - HT.sIx ds.length 0 lo)
noncomputable def Cj:List A→Option A:=on2 fun x q2=>(Bs q2).bind fun j=>(BY x).map fun ds=>.lst ((cutD ds none (some j)).map A.fz)
theorem Nm:∀ {vs:List V} {ds:List D},AD N H vs ds→vs.length = ds.length:=by
 intro vs
 induction vs with
 | nil=>intro ds q; cases ds with | nil=>rfl | cons d ds=>simp only [AD] at q
 | cons v vs ih=>intro ds q; cases ds with | nil=>simp only [AD] at q | cons d ds=>simp [ih q.2]
theorem Nk:∀ {vs:List V} {ds:List D} (n:Nat),AD N H vs ds→AD N H (vs.drop n) (ds.drop n):=by
 intro vs
 induction vs with
 | nil=>intro ds n q; cases ds with | nil=>cases n <;> exact q | cons d ds=>simp only [AD] at q
 | cons v vs ih=>intro ds n q; cases ds with | nil=>simp only [AD] at q | cons d ds=>cases n with | zero=>exact q | succ n=>exact ih n q.2
theorem Nl:∀ {vs:List V} {ds:List D} (n:Nat),AD N H vs ds→AD N H (vs.take n) (ds.take n):=by
 intro vs
 induction vs with
 | nil=>intro ds n q; cases ds with | nil=>cases n <;> exact q | cons d ds=>simp only [AD] at q
 | cons v vs ih=>intro ds n q; cases ds with | nil=>simp only [AD] at q | cons d ds=>cases n with | zero=>simp only [List.take_zero]; exact trivial | succ n=>exact ⟨q.1,ih n q.2⟩
theorem K9 {vs:List V} {ds:List D} {lo hi:Option Int} (q:AD N H vs ds):AD N H (Lo vs lo hi) (cutD ds lo hi):=by
 unfold Lo cutD
 rw [Nm q]
 exact Nl _ (Nk _ q)
theorem GG (ha:JE X a m1) (hb:JE X b m2):JE X (.Subscript a (.Slice none (some b) none p2) pos) (opM Cj (m2L m1 m2)):=by
 refine AW (Jp Lc ha K6 (K7 hb)) fun σ H Q h=>?_
 have ok:OpN X.K Cj (r2L fun x y H Q=>∃ j,y = .int j∧QC X.K x none (some j) H Q):=by
  intro N H xs as b Q hs e k
  replace e:=CO e
  obtain ⟨x,q2,rfl,e⟩:=e
  replace e:=bind_eq_some_iff.mp e
  obtain ⟨j,eq2,e⟩:=e
  cases Bl eq2
  clear eq2
  simp only [map_eq_some_iff] at e
  obtain ⟨ds,e1,rfl⟩:=e
  obtain ⟨x,y,L1,L2,rfl,h1,h2⟩:=BM hs
  cases Bt h2
  obtain ⟨p,vs,rfl,hp,hz,q⟩:=B3 h1 e1
  refine ⟨_,_,rfl,j,rfl,p,vs,rfl,.inl (.inl hp),fun l hl=>k _ _ (Gn hl ?_ (K9 q))⟩
  exact Nat.le_trans (Eg _ _ _) hz
 exact tE.mono (two ok h) fun x H1 h1=>tE.mono h1 fun y H2 ⟨j,e,q⟩=>⟨j,e,q⟩
end
section
variable {K:Frag} {ρ ρ' ρ1 ρ2:Ro} {σ σ' σ1 σ2:L2.St} {H H' H1 H2:Hp} {O O' N:Addr→Prop} {fp fp' fp1 fp2:Nat→List Addr} {L L1:List Addr}
end
section
variable {X:Cx} {a b c e:Expr} {es:List Expr} {m m1 m2 m3:ME} {ms:MA} {p pos pos' p2 apos cpos q npos:Pos} {x:Str}
end
end J
end
section
namespace J
open PySem PySem.Spec PyProof.Rows L2
noncomputable abbrev MR:=Ro→Option Str
noncomputable abbrev FnR:=List (Own × A)→Option Str
noncomputable def E1 (a:MS) (r:MR):MR:=fun ρ=>(a ρ).bind fun f=>match f with
 | .next ρ1=>r ρ1
 | _=>none
noncomputable def ifR (c:MT) (r:MR):MR:=fun ρ=>(c ρ).bind fun p=>if p.1 then r p.2 else none
noncomputable def GZ (x:Str):MR:=fun _=>some x
noncomputable def DF:List (Own × A)→Bool
 | []=>true
 | (.own,.fz _) :: as=>DF as
 | _=>false
noncomputable def Cp (Ψ:FnR) (m:MA):MR:=fun ρ=>(m ρ).bind fun p=>(CI p.2 p.1).bind fun args=>if DF args then Ψ args else none
noncomputable def fnR (np nn:Nat) (r:MR):FnR:=fun args=>if args.length = np then r (args.map some ++ List.replicate (nn - np) none) else none
noncomputable def tR (K:Frag) (XC:Str→Addr) (E:XK) (r:MR):TS:=fun _ σ H=>∃ ρ O fp,Rel K ρ σ H O fp∧∃ x,r ρ = some x∧∀ H',Kept (Fp fp) H H'→E (.ref (XC x)) none H'
noncomputable def spR (K:Frag) (XC:Str→Addr) (Ψ:FnR) (np:Nat):Sp:=fun vs H _ E=>∃ args O fp,vs.length = np∧Rel K (args.map some) (vs.map some) H O fp∧∃ x,Ψ args = some x∧∀ H',Kept (Fp fp) H H'→E (.ref (XC x)) none H'
section
variable {K:Frag} {XC:Str→Addr} {E:XK} {σ:L2.St} {H:Hp} {D:Ends} {r:MR} {a:MS} {c:MT}
theorem QS (h:tR K XC E (E1 a r) D σ H):Q0 (tS K a) (tR K XC E r) D σ H:=by
 obtain ⟨ρ,O,fp,rl,x,e,k⟩:=h
 simp only [E1,bind_eq_some_iff] at e
 obtain ⟨f,e1,e2⟩:=e
 cases f with
 | next ρ1 =>
  refine ⟨ρ,O,fp,rl,_,e1,fun σ' fp' H' p=>?_⟩
  exact ⟨ρ1,O,fp',p.rel0,x,e2,fun H'' kk=>k H'' (p.kept.trans kk fun q hq=>p.new q (.inr hq))⟩
 | brk _=>cases e2
 | cnt _=>cases e2
 | ret _ _=>cases e2
theorem R0 {u:TS} (h:tR K XC E (ifR c r) D σ H):QR (tT K c) (tR K XC E r) u D σ H:=by
 obtain ⟨ρ,O,fp,rl,x,e,k⟩:=h
 simp only [ifR,bind_eq_some_iff] at e
 obtain ⟨⟨b,ρ1⟩,e1,e2⟩:=e
 cases b with
 | true =>
  refine ⟨ρ,O,fp,rl,true,ρ1,e1,fun fp1 H1 p=>?_⟩
  dsimp only
  rw [if_pos rfl]
  exact ⟨ρ1,O,fp1,p.rel0,x,e2,fun H'' kk=>k H'' (p.kept.trans kk fun q hq=>p.new q (.inr hq))⟩
 | false=>cases e2
theorem NB {C:Addr} {x:Str} {m:MA} {rs:List R} (hm:∀ ρ,m ρ = some (rs,ρ)) (hl:rs.length≤8) (hC:XC x = C) (h:tR K XC E (GZ x) D σ H):Kx E C (tA K m) D σ H:=by
 obtain ⟨ρ,O,fp,rl,y,e,k⟩:=h
 cases e
 refine ⟨ρ,O,fp,rl,rs,ρ,hm ρ,fun vs H' q=>?_⟩
 obtain ⟨L,fp',p,q⟩:=q
 refine ⟨?_,?_⟩
 ·have:∀ {rs:List R} {vs:List V} {N:Addr→Prop} {L:List Addr},RRs K N H' σ vs rs L→vs.length = rs.length:=by
   intro rs
   induction rs with
   | nil=>intro vs N L q; cases vs with | nil=>rfl | cons _ _=>simp only [RRs] at q
   | cons r rs ih =>
    intro vs N L q
    cases vs with
    | nil=>simp only [RRs] at q
    | cons v vs =>
     simp only [RRs] at q
     obtain ⟨_,_,_,_,q2⟩:=q
     simp [ih q2]
  have hs:8≤sizeLine:=by decide
  rw [this q]; lia
 ·rw [← hC]; exact k H' p.kept
theorem JL {N:Addr→Prop} {ρ:Ro}:∀ {rs:List R} {args:List (Own × A)} {vs:List V} {L:List Addr},CI ρ rs = some args→DF args = true→RRs K N H σ vs rs L→args.length = vs.length∧∀ (j:Nat) st a v,args[j]? = some (st,a)→vs[j]? = some v→∃ d,a = .fz d∧RepA N H v d:=by
 intro rs
 induction rs with
 | nil =>
  intro args vs L e _ q
  cases vs with
  | nil=>cases e; exact ⟨rfl,fun j st a v h=>by simp at h⟩
  | cons _ _=>simp only [RRs] at q
 | cons r rs ih =>
  intro args vs L e hp q
  cases vs with
  | nil=>simp only [RRs] at q
  | cons v vs =>
   simp only [RRs] at q
   obtain ⟨L1,L2,_,q1,q2⟩:=q
   simp only [CI,bind_eq_some_iff,map_eq_some_iff] at e
   obtain ⟨a,e1,args',e2,rfl⟩:=e
   obtain ⟨st,a⟩:=a
   cases st with
   | lent=>cases a <;> simp [DF] at hp
   | ro=>cases a <;> simp [DF] at hp
   | own =>
    cases a with
    | fz d =>
     simp only [DF] at hp
     obtain ⟨i1,i2⟩:=ih e2 hp q2
     cases r with
     | val b =>
      cases e1
      simp only [RR] at q1
      rw [AE] at q1
      refine ⟨by simp [i1],fun j st a u h1 h2=>?_⟩
      cases j with
      | zero=>cases h1; cases h2; exact ⟨d,rfl,q1.2⟩
      | succ j=>exact i2 j st a u (by simpa using h1) (by simpa using h2)
     | ref i =>
      simp only [Ed] at e1
      split at e1 <;> cases e1
    | _=>simp [DF] at hp
theorem Lh {np:Nat} {Ψ:FnR} {m:MA} {E':XK} (hE:E' = E) (hnp:∀ args y,Ψ args = some y→args.length = np) (h:tR K XC E (Cp Ψ m) D σ H):Ld (JB (spR K XC Ψ np) [] E' (tA K m)) D σ H:=by
 subst hE
 obtain ⟨ρ,O,fp,rl,x,e,k⟩:=h
 simp only [Cp,bind_eq_some_iff] at e
 obtain ⟨⟨rs,ρ1⟩,e1,args,e2,e3⟩:=e
 split at e3
 ·rename_i hp
  refine ⟨ρ,O,fp,rl,rs,ρ1,e1,fun vs H1 q=>?_⟩
  obtain ⟨L,fp1,p,q⟩:=q
  obtain ⟨i1,i2⟩:=JL e2 hp q
  rw [List.append_nil]
  have nn:∀ b,NN (fun _=>[]) (NN fp1 (ad O L)) b↔NN fp1 (ad O L) b:=fun b=>⟨fun z=>by
   rcases z with ⟨j,z⟩ | z
   ·simp at z
   ·exact z,fun z=>.inr z⟩
  refine ⟨args,NN fp1 (ad O L),fun _=>[],by rw [← i1]; exact hnp _ _ e3,⟨by simp [i1],fun j st a ea=>?_,fun _ _=>rfl,fun _=>List.nodup_nil,fun i j b h=>by simp at h,fun i b h=>by simp at h,fun b z=>p.rel.al b ((nn b).mp z)⟩,x,e3,fun H' kk=>?_⟩
  ·have hj:j < args.length:=by
    have:=AF ea
    simpa using this
   have ea':args[j]? = some (st,a):=by simpa using ea
   obtain ⟨v,hv⟩:∃ v,vs[j]? = some v:=⟨vs[j]'(by rw [← i1]; exact hj),List.getElem?_eq_getElem _⟩
   obtain ⟨d,rfl,rd⟩:=i2 j st a v ea' hv
   refine ⟨v,by simp [hv],?_⟩
   rw [AE]
   exact ⟨rfl,Dw (fun b z=>(nn b).mp z) rd⟩
  ·exact k H' (p.kept.trans kk fun b z=>by
    obtain ⟨j,z⟩:=z
    simp at z)
 ·cases e3
theorem Pl {np nn:Nat} {r:MR} {vs:List V} {Q:VK} (h:spR K XC (fnR np nn r) np vs H Q E):tR K XC E r D (vs.map some ++ List.replicate (nn - np) none) H:=by
 obtain ⟨args,O,fp,hl,rl,x,e,k⟩:=h
 simp only [fnR] at e
 split at e
 ·exact ⟨_,O,fp,rl.start (nn - np),x,e,k⟩
 ·cases e
theorem CL {np nn:Nat} {r:MR}:∀ args y,fnR np nn r args = some y→args.length = np:=fun args y e=>by
 unfold fnR at e
 split at e
 ·rename_i h; exact h
 ·cases e
end
section
variable {X:Cx} {K:Frag} {XC:Str→Addr} {E:XK} {r:MR} {w1:MS} {s:Stmt} {ss st st':List Stmt} {mt:MT} {c:Expr} {pos:Pos}
noncomputable def JR (X:Cx) (XC:Str→Addr) (E:XK) (s:Stmt) (r:MR):Prop:=PS X s (tR X.K XC E r)
noncomputable def JRs (X:Cx) (XC:Str→Addr) (E:XK) (ss:List Stmt) (r:MR):Prop:=PSs X ss (tR X.K XC E r)
theorem Cv (h:JS X s w1) (t:JRs X XC E ss r):JRs X XC E (s :: ss) (E1 w1 r):=Fq (GY h t) fun _ _ _ h=>QS h
theorem BF (h:JR X XC E s r):JRs X XC E (s :: ss) r:=
 Fq (GY h (show PSs X ss (fun _ _ _=>False) from fun _ _ _ _ _ _ h=>h.elim)) fun _ _ _ h=>h
theorem Je (hc:JT X c mt) (ha:JRs X XC E st r):JR X XC E (.If c st st' pos) (ifR mt r):=
 Cf (O4 hc ha (show PSs X st' (fun _ _ _=>False) from fun _ _ _ _ _ _ h=>h.elim)) fun _ _ _ h=>R0 h
end
section
variable {P:Program} {w:World} {K:Frag} {mg:Str→Option Value} {base:Heap} {XC:Str→Addr}
theorem ES {x qual:Str} {st:Stmt} {f:Addr} {fd:FuncData} {N ps:List Str} {k:Nat} {r:MR} (F:Fun K x qual st f fd) (S:FnScope N ps (Aq st))
  (hb:∀ (cdv:Value) (A:Around) (outer:List Env) (s:Shared) (H:Hp) (E:XK),Room k (A.deeper (envOfC qual (Aq st) s.heap.objs.size f cdv))→JRs (A5 (Fly P w) P w K mg base N qual (Aq st) f cdv A outer s H E) XC E (BU st) r) :
  FnOk P w K mg base (Fly P w) (k + 1) f fd ps (spR K XC (fnR ps.length N.length r) ps.length):=by
 refine F.okF S (fun vs H Q E h=>?_) fun cdv A outer s H vs Q E hr h=>⟨_,hb cdv A outer s H E hr,?_⟩
 ·obtain ⟨_,_,_,h,_⟩:=h
  exact h
 ·have hl:vs.length = ps.length:=by
   obtain ⟨_,_,_,h,_⟩:=h
   exact h
  have:=Pl (D:={ nx:=fun _ H'=>Q .non H',rt:=Q }) h
  unfold L2.start
  rw [hl]
  exact this
section
variable {N:List Str} {qual:Str} {scope:Scope} {f:Addr} {cd:Value} {A:Around} {outer:List Env} {s:Shared} {H:Hp} {E:XK}
theorem MF {x:Str} {C:Addr} {np cpos pos:Pos} {e:Expr} {z:Str} {k:Nat} (X:Exc K mg x C) (hC:XC x = C) (hr:Room k (A.deeper (envOfC qual scope s.heap.objs.size f cd)))
  (hg:Gl (A5 (Fly P w) P w K mg base N qual scope f cd A outer s H E) x) (hdb:(x == ("__debug__" : Str)) = false)
  (he:starEach [e] (A5 (Fly P w) P w K mg base N qual scope f cd A outer s H E).env = (false,eval e (A5 (Fly P w) P w K mg base N qual scope f cd A outer s H E).env) :: starEach [] (A5 (Fly P w) P w K mg base N qual scope f cd A outer s H E).env)
  (hpl:(backTo cpos (starEach [] (A5 (Fly P w) P w K mg base N qual scope f cd A outer s H E).env)).any (·.1) = false)
  (ha:JE (A5 (Fly P w) P w K mg base N qual scope f cd A outer s H E) e (Ae (.str z))) :
  JR (A5 (Fly P w) P w K mg base N qual scope f cd A outer s H E) XC E (.Raise (some (.Call (.Name x np) [e] [] cpos)) none pos) (GZ x):=
 Cf (LN X hr hg hdb he hpl (Ac he ha Ai)) fun _ _ _ h=>NB (rs:=[.val (.fz (.str z))]) (fun _=>rfl) (show 1≤8 by decide) hC h
theorem Fh {g:Str} {k j np:Nat} {ps:List Str} {Ψ:FnR} {ms:MA} {p cpos pos:Pos} {e:Expr} {es:List Expr} (D:Def P w K mg base (Fly P w) k g ps (spR K XC Ψ np)) (hnp:∀ args y,Ψ args = some y→args.length = np) (hr:Room j (A.deeper (envOfC qual scope s.heap.objs.size f cd))) (hkj:k≤j)
  (hs:swapsWith (.Call (.Name g p) (e :: es) [] cpos) none pos.line (A5 (Fly P w) P w K mg base N qual scope f cd A outer s H E).env = pure false)
  (hdb:(g == ("__debug__" : Str)) = false) (hg:Gl (A5 (Fly P w) P w K mg base N qual scope f cd A outer s H E) g)
  (he:starEach (e :: es) (A5 (Fly P w) P w K mg base N qual scope f cd A outer s H E).env = (false,eval e (A5 (Fly P w) P w K mg base N qual scope f cd A outer s H E).env) :: starEach es (A5 (Fly P w) P w K mg base N qual scope f cd A outer s H E).env)
  (hpl:(backTo cpos (starEach es (A5 (Fly P w) P w K mg base N qual scope f cd A outer s H E).env)).any (·.1) = false)
  (ha:JA (A5 (Fly P w) P w K mg base N qual scope f cd A outer s H E) (e :: es) ms) :
  JR (A5 (Fly P w) P w K mg base N qual scope f cd A outer s H E) XC E (.Expr (.Call (.Name g p) (e :: es) [] cpos) pos) (Cp Ψ ms):=
 Cf (Iu (Ki (X:=A5 (Fly P w) P w K mg base N qual scope f cd A outer s H E) (E:=E) D hr hkj (Jo fun _ _ _ h=>h) ha hg hdb he hpl) hs) fun _ _ _ h=>Lh rfl hnp h
end
end
end J
end
section
namespace PySem
section
variable {M:Model} {A:Around} {E:Value→Shared→Prop}
variable {nm q nm' q':Str} {C N B N':Addr} {bs bm bs' bm':List Value} {hdct hdct':Bool} {sn sn':List Str} {sub sub':List Value} {ab ab':Bool} {col col':Option Bool} {dd dd':Option Addr} {k0 k1 k2 k3 k5 j0 j1 j2 j3 j5:Option Value} {newId newId':String}
theorem Fz {h:Heap} {g:Array GenState} {d:Drawn} {t:Nat} {os:OsState} {e:Addr} {oe:Obj} {Q:Bool→Shared→Prop}
  (hC:h.get? C = some (excClassObj nm q C N bs bm hdct sn sub ab col dd k0 k1 k2 k3 k5 newId)) (hB:h.get? B = some (excClassObj nm' q' B N' bs' bm' hdct' sn' sub' ab' col' dd' j0 j1 j2 j3 j5 newId')) (he:h.get? e = some oe) (hcls:oe.cls = .ref C) (hbase:bm'.contains (.type "BaseException") = true) (hm:bm.contains (.ref B) = true)
  (hq:Q true ⟨h,g,d,t,os⟩):wpAny M A (excMatches (.ref e) (.ref B)) Q E ⟨h,g,d,t,os⟩:=by
 have hcB:(Value.ref B :: bm').contains (.type "BaseException") = true:=by rw [List.contains_cons,hbase,Bool.or_true]
 have hcC:(Value.ref C :: bm).contains (.ref B) = true:=by rw [List.contains_cons,hm,Bool.or_true]
 have f:=tc_notTuple
 unfold excMatches
 repeat (first | (with_reducible refine wpAny_loadPart_at he ?_; rw [hcls]) | with_reducible refine wpAny_loadPart_at hB ?_ | (with_reducible refine wpAny_isSubtype_exc hB ?_; rw [hcB]) | (with_reducible refine wpAny_isSubtype_exc hC ?_; rw [hcC]) | wp_step)
 exact hq
end
noncomputable def Above (h:Heap) (C B:Addr):Prop:=∃ (nm q nm' q':Str) (N N':Addr) (bs bm bs' bm':List Value) (hd hd':Bool) (sn sn':List Str) (sub sub':List Value) (ab ab':Bool) (col col':Option Bool) (dd dd':Option Addr) (k0 k1 k2 k3 k5 j0 j1 j2 j3 j5:Option Value) (nid nid':String),
 h.get? C = some (excClassObj nm q C N bs bm hd sn sub ab col dd k0 k1 k2 k3 k5 nid)∧h.get? B = some (excClassObj nm' q' B N' bs' bm' hd' sn' sub' ab' col' dd' j0 j1 j2 j3 j5 nid')∧bm'.contains (.type "BaseException") = true∧bm.contains (.ref B) = true
section
variable {prog:Program} {w:World} {A:Around} {E:Value→Shared→Prop} {s:Shared} {env:Env}
theorem Fc {e C B:Addr} {t:Expr} {n:Str} {b₀:Stmt} {suite:List Stmt} {pos:Pos} {rest:List ExceptHandler} {Q:Flow→Shared→Prop}
  (h:wpAny (model prog w) (A.mark (some (.ref e))) (eval t env) (fun c s₁=>c = .ref B∧Above s₁.heap C B∧(∃ oe,s₁.heap.get? e = some oe∧oe.cls = .ref C) ∧
   wpAny (model prog w) (A.mark (some (.ref e))) (setFlight (.ref e) none) (fun _ s₂ =>
     wpAny (model prog w) (A.mark (some (.ref e))) (storeName env n (.ref e)) (fun _ s₃ =>
      wpAny (model prog w) (A.mark (some (.ref e))) (execs (b₀ :: suite) env)
       (fun f s₄=>wpAny (model prog w) A (do bindName env n .none; unbindBehindTheSuite env n pos) (fun _ s₅=>Q f s₅) E s₄)
       (AsSuiteRaised (model prog w) (A.mark (some (.ref e))) env n pos (notedBy (model prog w) (A.mark (some (.ref e))) env (cameBackBy (model prog w) A env E))) s₃) (notedBy (model prog w) (A.mark (some (.ref e))) env (cameBackBy (model prog w) A env E)) s₂) (notedBy (model prog w) (A.mark (some (.ref e))) env (cameBackBy (model prog w) A env E)) s₁) (notedBy (model prog w) (A.mark (some (.ref e))) env (cameBackBy (model prog w) A env E)) s) :
  wpAny (model prog w) A (handleBy (.ref e) env (.ExceptHandler (some t) (some n) (b₀ :: suite) pos :: rest)) Q E s:=by
 refine wpAny_handleBy_cons (codeAny_handlers_test (wpAny_mono h (fun c s₁ h₁=>?_) fun _ _ y=>y)) (by intro q; cases q)
 obtain ⟨rfl,⟨_,_,_,_,_,_,_,_,_,_,_,_,_,_,_,_,_,_,_,_,_,_,_,_,_,_,_,_,_,_,_,_,_,_,hC,hB,hb,hm⟩,⟨oe,he,hcls⟩,hk⟩:=h₁
 obtain ⟨hh,g,d,tk,os⟩:=s₁
 exact Fz hC hB he hcls hb hm (codeAny_handlers_suite_as hk)
end
end PySem
end
section
namespace L2
open PySem PySem.Spec PyProof.Rows
section
variable {P:Program} {w:World} {outer:List Env} {H H':Hp} {s s':Shared} {a C:Addr} {a0:Value} {B:Heap}
theorem FlyAt.on {h':Heap} (F:FlyAt P w outer H s a C a0 B H' s') (hd:∀ b∈frs outer,∀ o,s.heap.get? b = some o→∀ vs,o.data ≠ .fields vs) (fl:Heap.FlyingW B outer a (.ref C) a0 h') (sm:s'.heap.UpToSlots h') (pl:A8 h' a):FlyAt P w outer H s a C a0 B H' { s' with heap:=h' }:=
 ⟨F.os,F.bare,fl,F.keep,fun b o e n hb=>by
  obtain ⟨sl,e1⟩:=F.slot b o e n hb
  obtain ⟨sl2,e2⟩:=sm b { o with slots:=sl } e1 (hd b hb o e)
  exact ⟨sl2,e2⟩,F.free,F.there,F.tups,F.frzs,F.tbls,F.hok,pl⟩
theorem FlyAt.un (F:FlyAt P w outer H s a C a0 B H' s') (ht:∀ b∈frs outer,∀ o,s.heap.get? b = some o→H b = none):Un (frs outer) [] H H' s.heap s'.heap∧HOk P w H' s'.heap:=by
 have st:∀ b o,B.get? b = some o→s'.heap.get? b = some o:=F.fly.1
 refine ⟨⟨fun b o e n hb _=>st b o (F.keep b o e n hb),fun b o e n hb _=>F.slot b o e n hb,fun b o e n _=>F.free b o e n,fun b o e _=>?_,F.tups,F.frzs,F.tbls⟩,F.hok.kept st⟩
 by_cases hb:b∈frs outer
 ·obtain ⟨sl,e1⟩:=F.slot b o e (ht b hb o e) hb
  exact ⟨_,e1⟩
 ·obtain ⟨o',e1⟩:=F.there b o e hb
  exact ⟨o',st b o' e1⟩
end
section
variable {X:Cx} {pins:List (Addr × Obj)} {σ:St} {H H':Hp} {s s':Shared} {a C:Addr} {a0:Value} {B:Heap}
theorem Inv.landed (I:Inv X pins σ H s) (F:FlyAt X.prog X.w X.stack H s a C a0 B H' s'):Inv X pins σ H' s':=by
 have e0:=I.env0
 obtain ⟨u,hok⟩:=F.un fun b hb o e=>e0.frf b hb
 obtain ⟨v,H1,J,_,q⟩:=I.after (Q:=fun _ H1=>H1 = H') (u:=.none) (s':=s') ⟨.non,H',F.os,F.bare,u,hok,rfl,rfl⟩
 subst q
 exact J
theorem lands {env:Env} {outer:List Env} {L:Addr} {E:Value→Shared→Prop} {R:Shared→Prop} (I:Inv X pins σ H s) (hs:X.stack = env :: outer) (hf:env.frame = some L) (F:FlyAt X.prog X.w X.stack H s a C a0 B H' s')
  (h:∀ s3,FlyAt X.prog X.w X.stack H s a C a0 B H' s3→R s3) :
  wpAny (model X.prog X.w) X.A (noteFrame (.ref a) env) (fun _ s2=>wpAny (model X.prog X.w) X.A (setFlight (.ref a) none) (fun _ s3=>R s3) E s2) E s':=by
 have e0:=I.env0
 have hd:∀ b∈frs X.stack,∀ o,s.heap.get? b = some o→∀ vs,o.data ≠ .fields vs:=fun b hb o e=>CU e0.funs hb e
 have fr:=e0.frames
 have fl:=F.fly
 rw [hs] at fr fl
 refine Jh fr hf fl F.pl fun h1 held sm1 pl1=>?_
 refine EW held.1 held.2.1 held.2.2.1 held.2.2.2 pl1 fun h2 fl2 sm2 pl2=>?_
 rw [← hs] at fl2
 exact h _ (F.on hd fl2 (sm1.trans sm2) pl2)
end
section
variable {X:Cx} {body:List Stmt} {h0:ExceptHandler} {hs:List ExceptHandler} {pos:Pos} {t:TS}
noncomputable def Mg (X:Cx) (pins:List (Addr × Obj)) (D:Ends) (hs:List ExceptHandler):Value→Shared→Prop:=fun e s1 =>
 wpAny (model X.prog X.w) X.A (noteFrame e X.env) (fun _ s2=>wpAny (model X.prog X.w) X.A (setFlight e none) (fun _ s3=>wpAny (model X.prog X.w) X.A (handleBy e X.env hs) (SP X pins D) X.xe s3) X.xe s2) X.xe s1
theorem OT {pins:List (Addr × Obj)} {s:Shared} {σ:St} {H:Hp} {D:Ends} (hb:wpAny (model X.prog X.w) X.A (execs body X.env) (SP X pins D) (Mg X pins D (h0 :: hs)) s) :
  wpAny (model X.prog X.w) X.A (exec (.Try body (h0 :: hs) [] [] pos) X.env) (SP X pins D) X.xe s:=by
 refine wpAny_Try_except (wpAny_mono hb (fun f s1 q=>?_) fun e s1 q=>q)
 cases f with
 | next=>exact wpAny_execs_nil q
 | brk=>exact q
 | cont=>exact q
 | ret u=>exact q
theorem Hn {P:Program} {w:World} {env:Env} {outer:List Env} {L:Addr} {pins:List (Addr × Obj)} {D:Ends} {E:XK} (hP:X.prog = P) (hw:X.w = w) (he:X.env = env) (hs':X.stack = env :: outer) (hf:env.frame = some L)
  (h:∀ (σ:St) (H H':Hp) (s s3:Shared) (a C:Addr) (a0:Value) (B:Heap),Inv X pins σ H s→FlyAt P w X.stack H s a C a0 B H' s3→Inv X pins σ H' s3→E (.ref C) none H'→wpAny (model P w) X.A (handleBy (.ref a) env (h0 :: hs)) (SP X pins D) X.xe s3) :
  ∀ (σ:St) (H:Hp) (s:Shared) (e:Value) (s':Shared),Inv X pins σ H s→Fly P w X.stack H s E e s'→Mg X pins D (h0 :: hs) e s':=by
 subst hP hw he
 intro σ H s e s' I fl
 obtain ⟨a,C,a0,B,H',rfl,F,q⟩:=fl
 exact lands I hs' hf F fun s3 F3=>h σ H H' s s3 a C a0 B I F3 (I.landed F3) q
end
section
variable {X:Cx} {k j:Nat} {x:Str} {ps:List Str} {sp:Sp} {E:XK} {p cpos pos:Pos} {e:Expr} {es:List Expr} {t:TA} {pins:List (Addr × Obj)} {σ:St} {H:Hp} {s:Shared}
end
section
variable {X:Cx} {pins:List (Addr × Obj)} {σ:St} {H H':Hp} {s s':Shared} {a C:Addr} {a0:Value} {B:Heap}
theorem FlyAt.fresh {P:Program} {w:World} {K:Frag} {mg:Str→Option Value} {base:Heap} {A:Around} {outer:List Env} (e0:Env0 P w K mg base A outer s H) (F:FlyAt P w outer H s a C a0 B H' s'):s.heap.get? a = none:=by
 cases hs:s.heap.get? a with
 | none=>rfl
 | some o =>
  by_cases hb:a∈frs outer
  ·obtain ⟨sl,e1⟩:=F.slot a o hs (e0.frf a hb) hb
   obtain ⟨oe,vs,e2,_,hd,_⟩:=F.fly.first
   rw [e1] at e2
   cases e2
   exact absurd hd (CU e0.funs hb hs vs)
  ·obtain ⟨o',e1⟩:=F.there a o hs hb
   rw [F.fly.2.1] at e1; cases e1
theorem Inv.track {s1:Shared} {o:Obj} (I0:Inv X pins σ H s) (I:Inv X pins σ H' s1) (h0:s.heap.get? a = none) (hn:H' a = none) (ho:s1.heap.get? a = some o):Inv X pins σ (upd H' a (.frz o (.own a))) s1:=by
 have ne:∀ b u,s.heap.get? b = some u→b≠a:=fun b u e z=>by rw [z,h0] at e; cases e
 have neH:∀ b u,H' b = some u→b≠a:=fun b u e z=>by rw [z,hn] at e; cases e
 have u:=I.base
 obtain ⟨m0,n0,_⟩:=I0.loc
 refine ⟨I.ok,I.os,I.bare,⟨u.keep,u.slot,fun b ob e n hx=>?_,u.there,fun b xs e=>?_,fun b ob v e=>?_,fun b qs e=>?_⟩,I.loc,I.cell,?_,fun x c hc=>?_,fun q hq=>?_,fun b v e=>?_,I.len⟩
 ·by_cases hb:b∈X.ex
  ·exact absurd hb hx
  ·obtain ⟨o',e'⟩:=I0.base.there b ob e hx
   rw [Ax (ne b o' e')]
   exact u.free b ob e n hx
 ·have:=u.tups b xs e
  rw [Ax (neH b _ this)]; exact this
 ·have:=u.frzs b ob v e
  rw [Ax (neH b _ this)]; exact this
 ·obtain ⟨more,this⟩:=u.tbls b qs e
  exact ⟨more,by rw [Ax (neH b _ this)]; exact this⟩
 ·obtain ⟨ol,es,ep,el,_⟩:=n0
  rw [Ax (ne _ ol el)]; exact I.free
 ·obtain ⟨v,hv⟩:=I0.cell x c hc
  obtain ⟨oc,ec,_⟩:=hv
  rw [Ax (ne _ oc ec)]; exact I.freeC x c hc
 ·obtain ⟨e1,e2,e3⟩:=I.pin q hq
  obtain ⟨f1,_⟩:=I0.pin q hq
  exact ⟨e1,by rw [Ax (ne _ _ f1)]; exact e2,e3⟩
 ·by_cases hb:b = a
  ·subst hb
   rw [AV] at e; cases e
   exact ⟨ho,_,ho⟩
  ·rw [Ax hb] at e
   exact (I.hok b v e).stay (fun d v' _ q=>q) (fun d q=>by rw [Ax (neH d _ q)]; exact q) fun d xs q=>by rw [Ax (neH d _ q)]; exact q
end
end L2
end
section
namespace PySem
theorem Above.keeps {h h':Heap} {C B:Addr} (x:Above h C B) (k:∀ b o,h.get? b = some o→h'.get? b = some o):Above h' C B:=by
 obtain ⟨a1,a2,a3,a4,a5,a6,a7,a8,a9,b0,b1,b2,b3,b4,b5,b6,b7,b8,b9,c0,c1,c2,c3,c4,c5,c6,c7,c8,c9,d0,d1,d2,d3,d4,hC,hB,q⟩:=x
 exact ⟨a1,a2,a3,a4,a5,a6,a7,a8,a9,b0,b1,b2,b3,b4,b5,b6,b7,b8,b9,c0,c1,c2,c3,c4,c5,c6,c7,c8,c9,d0,d1,d2,d3,d4,k _ _ hC,k _ _ hB,q⟩
end PySem
namespace L2
open PySem PySem.Spec PyProof.Rows
section
variable {X:Cx} {pins:List (Addr × Obj)} {σ:St} {H H':Hp} {s s3:Shared} {a C:Addr} {a0:Value} {B:Heap}
theorem Inv.forget {h':Heap} {t':Nat} {m':Str→Option Value} (I:Inv X pins σ H s) (hn':h'.Ns X.env.locals m') (hs:Heap.SameBut X.env.locals s.heap h'):Inv X pins (List.replicate X.N.length none) H { s with heap:=h',toks:=t' }:=by
 have cne:=I.cne
 refine ⟨I.ok,I.os,I.bare,⟨fun b o e n hb hx=>?_,fun b o e n hb hx=>?_,I.base.free,fun b o e hx=>?_,I.base.tups,I.base.frzs,I.base.tbls⟩,⟨_,hn',fun j y v' e1 e2 e3=>?_⟩,fun y c e=>?_,I.free,I.freeC,fun p hp=>?_,fun b ob e=>?_,by simp⟩
 ·exact (hs.2 b (Nat.ne_of_lt (Nat.lt_of_lt_of_le (Heap.lt_size e) I.ok.above))).trans (I.base.keep b o e n hb hx)
 ·obtain ⟨sl,e1⟩:=I.base.slot b o e n hb hx
  exact ⟨sl,(hs.2 b (Nat.ne_of_lt (Nat.lt_of_lt_of_le (Heap.lt_size e) I.ok.above))).trans e1⟩
 ·obtain ⟨o',e1⟩:=I.base.there b o e hx
  exact ⟨o',(hs.2 b (Nat.ne_of_lt (Nat.lt_of_lt_of_le (Heap.lt_size e) I.ok.above))).trans e1⟩
 ·rw [List.getElem?_replicate] at e2
  split at e2 <;> cases e2
 ·obtain ⟨w',z⟩:=I.cell y c e
  exact ⟨w',z.sameBut hs (cne y c e)⟩
 ·obtain ⟨e,n,ne,nf,d⟩:=I.pin p hp
  exact ⟨(hs.2 p.1 ne).trans e,n,ne,nf,d⟩
 ·have hfree:=I.free
  refine (I.hok b ob e).stay (fun c w' hc q=>(hs.2 c ?_).trans q) (fun _ q=>q) fun _ _ q=>q
  rintro rfl
  rcases hc with hc | hc
  ·rw [← hc,hfree] at e; cases e
  ·rw [hfree] at hc; cases hc
theorem JU {HE:Addr} {y n:Str} {i:Nat} {e:Expr} {tp rp hpos:Pos} {D:Ends} (hN:X.N.Nodup) (hi:X.N[i]? = some n) (hx:X.env.scope.names.lookup n = some .local) (hk:X.env.kindOf n = some .local)
  (hg:Gl X y) (hm:X.mg y = some (.ref HE)) (hdb:(y == ("__debug__" : Str)) = false) (hab:Above X.base C HE) (I0:Inv X pins σ H s) (F:FlyAt X.prog X.w X.stack H s a C a0 B H' s3) (hn:H' a = none)
  (he:∀ (oe:Obj) (vs:Array Value) (s5:Shared),oe.cls = .ref C→oe.data = .fields vs→vs[2]? = some .none→Inv X pins (σ.set i (some (.ref a))) (upd H' a (.frz oe (.own a))) s5→wpAny (model X.prog X.w) (X.A.mark (some (.ref a))) (eval e X.env) (fun u s6=>∃ v σ6 H6,Inv X pins σ6 H6 s6∧RelV v u∧D.rt v H6) (fun _ _=>False) s5) :
  wpAny (model X.prog X.w) X.A (handleBy (.ref a) X.env [.ExceptHandler (some (.Name y tp)) (some n) [.Return (some e) rp] hpos]) (SP X pins D) X.xe s3:=by
 have I3:=I0.landed F
 have e0:=I0.env0
 have hd:∀ b∈frs X.stack,∀ o,s.heap.get? b = some o→∀ vs,o.data ≠ .fields vs:=fun b hb o e=>CU e0.funs hb e
 refine Fc (C:=C) (B:=HE) (Calls.Name_function_global I3.ok.kind hg (Calls.loadGlobal_global (by rw [I3.ok.glob]; exact I3.mod.glob.keeps I3.bk) hm ⟨rfl,hab.keeps I3.bk,F.fly.there,?_⟩) hdb)
 refine Jf F.fly F.pl fun h4 fl4 sm4 pl4=>?_
 have F4:=F.on hd fl4 sm4 pl4
 have I4:=I0.landed F4
 obtain ⟨oe,hoe,hcls⟩:=fl4.there
 obtain ⟨oe',vs,q1,q2,q3⟩:=pl4
 rw [hoe] at q1
 cases q1
 have I4':=Inv.track I0 I4 (F.fresh e0) hn hoe
 refine Ez (v:=.ref a) I4' hN hi (.inl hx) rfl (fun s5 I5=>?_) (.inr hx)
 refine wpAny_execs_cons (wpAny_Return_some (wpAny_mono (he oe vs s5 hcls q2 q3 I5) (fun u s6 yy=>?_) fun _ _ z=>z.elim))
 obtain ⟨v,σ6,H6,I6,r,q⟩:=yy
 obtain ⟨m6,n6,_⟩:=id I6.loc
 refine wpAny_nameGoes hk n6 (by rw [I6.ok.kind]; rfl) fun h7 m7 n7 sb7=>?_
 exact ⟨v,_,H6,I6.forget n7 sb7,r,q⟩
end
end L2
end
section
namespace L2
open PySem PySem.Spec PyProof.Rows
theorem Hd:entryFor table "proto.unchain" = some Builtin.«proto.unchain»:=entryFor_of_tree (by kernel_rfl)
section
variable {prog:Program} {w:World} {A:Around} {E:Value→Shared→Prop} {s:Shared}
theorem Iw {α:Type} {h e:Addr} {oe:Obj} {ve:Array Value} {Q:α → Shared→Prop} (hh:A.handled = some (.ref h)) (ne:h≠e) (hp:A8 s.heap h) (he:s.heap.get? e = some oe) (hde:oe.data = .fields ve) (h2:2 < ve.size)
  (k:E (.ref e) { s with heap:=s.heap.update e (Obj.mapFields (·.setIfInBounds 2 (.ref h))) }):wpAny (model prog w) A (raiseNew (α:=α) (.ref e)) Q E s:=by
 obtain ⟨oh,vh,ho,hd,hc⟩:=hp
 simp only [raiseNew]
 refine wpAny_bind (wpAny_handled ?_)
 rw [hh]
 have hne:(Value.ref h != Value.ref e) = true:=by
  rw [bne_iff_ne]
  intro z
  injection z with z
  exact ne z
 show wpAny _ _ (if (Value.ref h != Value.ref e) = true then _ else _) _ _ _
 rw [if_pos hne]
 refine wpAny_bind (wpAny_holding (runValue_entry Hd ?_))
 unfold Builtin.«proto.unchain»
 refine wpAny_bind (wpAny_field ho hd hc ?_)
 refine wpAny_pure ⟨_,rfl,?_⟩
 unfold updateField
 refine wpAny_bind (wpAny_bind (wpAny_load he ?_))
 rw [hde]
 show wpAny _ _ (if 2 < ve.size then _ else _) _ _ _
 rw [if_pos h2]
 exact wpAny_update he (wpAny_throw k)
end
section
variable {prog:Program} {w:World} {A:Around} {E:Value→Shared→Prop} {s:Shared}
theorem FX {it a:Addr} {x left step:Int} {Q:Option Value→Shared→Prop} (hh:A.handled = some (.ref a)) (hp:A8 s.heap a) (hit:IsRangeIter s.heap it x left step) (hleft:left≤0)
  (hQ:∀ h',(∀ b o,s.heap.get? b = some o→h'.get? b = some o)→Q none { s with heap:=h' }):wpAny (model prog w) A (pyNext (.ref it)) Q E s:=by
 have hT:s.TypeIs (.ref it) "range_iterator" := ⟨_,hit,rfl⟩
 unfold pyNext
 refine wpAny_bind (wpAny_attempt (wpAny_callSpecial?_slot (name:=Str.ofString "__next__") hT F.slot_range_iterator_next
  (wpAny_call_entry F.slot_range_iterator_next hT F.entry_range_iterator_next ?_ (F.args_range_iterator_next_1 _))))
 show wpAny _ _ (field (.ref it) 0 >>= _) _ _ s
 refine wpAny_bind (wpAny_field hit rfl (x:=rawInt x) rfl ?_)
 show wpAny _ _ (field (.ref it) 1 >>= _) _ _ s
 refine wpAny_bind (wpAny_field hit rfl (x:=rawInt left) rfl ?_)
 show wpAny _ _ (field (.ref it) 2 >>= _) _ _ s
 refine wpAny_bind (wpAny_field hit rfl (x:=rawInt step) rfl ?_)
 show wpAny _ _ (if left≤0 then _ else _) _ _ s
 rw [if_pos hleft]
 refine wpAny_bind (wpAny_rule ?_)
 refine wpAny_bind ?_
 show wpAny _ _ (newExc (.type "StopIteration") [] >>= _) _ _ _
 refine wpAny_bind ?_
 simp only [newExc,newTuple]
 refine wpAny_bind (wpAny_newObj_type ?_ (by size_fits))
 refine wpAny_bind (m:=firstArgMember _ _) (wpAny_of_eq (a:=Value.none) (by first | rfl | (simp only [firstArgMember]; rfl)) ?_)
 refine wpAny_newObj_type ?_ (by size_fits)
 have hlt:=hp.lt
 have kk:∀ (o1 o2:Obj) b o,s.heap.get? b = some o→((s.heap.push o1).push o2).get? b = some o:=fun o1 o2 b o e=>Heap.get?_push_of_some _ (Heap.get?_push_of_some _ e)
 refine Iw (h:=a) hh (fun z=>?_) (hp.keeps (kk _ _)) (Heap.get?_push_size _ rfl) rfl (by simp [ownMembersOf]) ?_
 ·have:((s.heap.push { cls:=.type "tuple",data:=.seq ([]:List Value).toArray }).objs.size:Nat) = s.heap.objs.size + 1:=Heap.size_push ..
  lia
 refine wpAny_bind (wpAny_isInstance (T := "StopIteration") (b:=true) ⟨_,Heap.get?_update_self _ (Heap.get?_push_size _ rfl) rfl,rfl⟩ isSubtype_stop ?_)
 refine wpAny_pure (hQ _ fun b o e=>?_)
 refine (Heap.get?_update_other _ _ fun z=>?_).trans (kk _ _ b o e)
 have hb:=Heap.lt_size e
 have:((s.heap.push { cls:=.type "tuple",data:=.seq ([]:List Value).toArray }).objs.size:Nat) = s.heap.objs.size + 1:=Heap.size_push ..
 lia
end
end L2
end
section
namespace J
open PySem PySem.Spec PyProof.Rows L2
section
variable {X:Cx} {a b c e:Expr} {m m1 m2 m3:ME} {p pos pos' p2:Pos}
variable {K:Frag} {N:Addr→Prop} {H:Hp} {v:V}
end
end J
end
section
namespace L2
open PySem PySem.Spec PyProof.Rows
section
variable {X:Cx}
end
end L2
namespace J
open PySem PySem.Spec PyProof.Rows L2
section
variable {X:Cx} {a b c e:Expr} {es:List Expr} {m m1 m2 m3:ME} {ms:MA} {p pos pos' p2 apos cpos q npos:Pos} {x:Str}
variable {K:Frag} {N:Addr→Prop} {H:Hp} {σ:L2.St} {v:V} {L:List Addr}
noncomputable def R9:List A→Option A:=ET (fun _ _=>true) fun i j=>i + j
end
end J
end
section
namespace L2
open PySem PySem.Spec PyProof.Rows
section
variable {X:Cx} {pins:List (Addr × Obj)} {σ:St} {H:Hp} {s:Shared}
noncomputable abbrev withN (X:Cx) (N':List Str):Cx:={ X with N:=N' }
noncomputable def HF (N' N:List Str) (sco:Scope):Bool:=(N'.length == N.length) && (N'.zip N).all fun p=>p.1 == p.2 || (sco.names.lookup p.1).isNone
theorem NX:∀ {N' N:List Str} {sco:Scope},HF N' N sco = true→∀ (i:Nat) (x:Str),N'[i]? = some x→Vis sco x→N[i]? = some x:=by
 intro N' N sco h i x e v
 simp only [HF,Bool.and_eq_true,beq_iff_eq,List.all_eq_true] at h
 obtain ⟨hl,ha⟩:=h
 have hi:i < N'.length:=(List.getElem?_eq_some_iff.mp e).1
 have hi2:i < N.length:=by rw [← hl]; exact hi
 have hz:(N'.zip N)[i]? = some (x,N[i]):=by
  rw [List.getElem?_zip_eq_some]
  exact ⟨e,List.getElem?_eq_getElem hi2⟩
 have:=ha _ (List.mem_of_getElem? hz)
 simp only [Bool.or_eq_true,beq_iff_eq,Option.isNone_iff_eq_none] at this
 rcases this with z | z
 ·rw [List.getElem?_eq_getElem hi2,← z]
 ·rcases v with v | v | v <;> rw [z] at v <;> cases v
theorem Cx.Ok.withN {N':List Str} (ok:X.Ok):(withN X N').Ok:=⟨ok.mod,ok.kind,ok.glob,ok.blt,ok.above,ok.inj,ok.has,ok.cab,ok.hd,ok.frames,ok.stk,ok.exf,ok.bs,ok.bsz,ok.noex,ok.exfs,ok.funs,ok.frf,ok.tb⟩
theorem Inv.hide {N':List Str} (h:HF N' X.N X.env.scope = true) (I:Inv X pins σ H s):Inv (withN X N') pins σ H s:=by
 refine ⟨I.ok.withN,I.os,I.bare,I.base,?_,I.cell,I.free,I.freeC,I.pin,I.hok,?_⟩
 ·obtain ⟨m,hn,q⟩:=I.loc
  exact ⟨m,hn,fun i x v e1 e2 vis=>q i x v (NX h i x e1 vis) e2 vis⟩
 ·simp only [HF,Bool.and_eq_true,beq_iff_eq] at h
  exact I.len.trans h.1.symm
theorem Inv.blank {N':List Str} (I:Inv (withN X N') pins σ H s):Inv X pins (List.replicate X.N.length none) H s:=by
 have ok:X.Ok:=⟨I.ok.mod,I.ok.kind,I.ok.glob,I.ok.blt,I.ok.above,I.ok.inj,I.ok.has,I.ok.cab,I.ok.hd,I.ok.frames,I.ok.stk,I.ok.exf,I.ok.bs,I.ok.bsz,I.ok.noex,I.ok.exfs,I.ok.funs,I.ok.frf,I.ok.tb⟩
 refine ⟨ok,I.os,I.bare,I.base,?_,I.cell,I.free,I.freeC,I.pin,I.hok,by rw [List.length_replicate]⟩
 obtain ⟨m,hn,_⟩:=I.loc
 refine ⟨m,hn,fun i x v e1 e2 vis=>?_⟩
 rw [List.getElem?_replicate] at e2
 split at e2 <;> simp at e2
theorem Ql {N':List Str} {own:List Str} {scope:Scope} {target iter elt:Expr} {ifs:List Expr} {pos:Pos} {wi:TI} {un:TU} {tc:TT} {te:TE} (hid:HF N' X.N X.env.scope = true) (hc:X.calm = true) (hok:BX own N' scope X.env.scope = true) (hi:PI X target iter wi)
  (hg:∀ C s H fp pins,PGo (cxC (withN X N') own scope C s H fp pins) target own.length un) (ht:∀ C s H fp pins,PTs (cxC (withN X N') own scope C s H fp pins) ifs tc) (he:∀ C s H fp pins,PE (cxC (withN X N') own scope C s H fp pins) elt te)
  (hs:∀ x,foldedSetIterable iter X.env x = pure x:=by intro _; rfl):PE X (.ListComp elt [⟨target,iter,ifs,0⟩] scope pos) (tLc wi un tc te):=by
 intro pins s σ H Q I h
 have hok':BX own (withN X N').N scope (withN X N').env.scope = true:=hok
 rw [eval_ListComp]
 refine wpAny_comprehension_free (use:=none) rfl hs (HY (env:=X.env) (BX.free (X:=withN X N') hok' (I.hide hid))) (BX.kind hok) (BX.names hok) ?_
 refine thn (hi pins s σ H _ I h) fun v s1 h1=>thn h1 fun itv s2 h2=>?_
 obtain ⟨it,fp,tn,J,H2,e,I2,T,st2,f2,q⟩:=h2
 subst e
 obtain ⟨W,w0,turn⟩:=q s2.heap.objs.size I2.fresh
 refine wpAny_newObj_type (hd:=by size_fits) ?_
 have I3:Inv X pins σ (upd H2 s2.heap.objs.size (.lst [])) { s2 with heap:=s2.heap.push { cls:=.type "list",data:=.seq ([]:List Value).toArray } }:=I2.lnew (its:=[]) (t':=s2.toks) .nil (Nat.zero_le _)
 have st3:tn 0 (s2.heap.push { cls:=.type "list",data:=.seq ([]:List Value).toArray }):=T.keep _ _ _ st2 fun b _ o e=>Heap.get?_push_of_some _ e
 have f3:∀ b∈fp,DN X pins (upd H2 s2.heap.objs.size (.lst [])) b:=fun b hb=>by
  obtain ⟨o,e,_⟩:=T.obj _ _ st2 b hb
  exact ⟨by rw [Ax (Nat.ne_of_lt (Heap.lt_size e))]; exact (f2 b hb).1,(f2 b hb).2⟩
 refine thn (HM (X:=withN X N') (iter:=iter) (pos:=pos) (R:=compPost (model X.prog X.w) X.A X.xe none (EP X pins σ Q) (.ref s2.heap.objs.size) (s2.heap.push { cls:=.type "list",data:=.seq ([]:List Value).toArray }).objs.size) hc hok' hg ht he (I3.hide hid) T st3 f3 W w0 turn fun s' σ' H' J' q'=>?_) fun cenv s4 ⟨el,h4⟩=>?_
 ·obtain ⟨m,hn,_⟩:=J'.loc
  have J2:=Inv.blank (X:=cxC X own scope (s2.heap.push { cls:=.type "list",data:=.seq ([]:List Value).toArray }).objs.size _ _ fp pins) (N':=own ++ N') J'
  exact ⟨m,hn,fun h' hs'=>⟨.ref s2.heap.objs.size,H',El I3 f3 J2 hs',rfl,q'⟩⟩
 ·have el':cenv.locals = (s2.heap.push { cls:=.type "list",data:=.seq ([]:List Value).toArray }).objs.size:=el
  rw [← el'] at h4
  exact h4
end
end L2
namespace J
open PySem PySem.Spec PyProof.Rows L2
section
variable {X:Cx} {x:Str} {pos:Pos} {mi:MI} {mt:MT} {m:ME}
theorem PJ (N':List Str) {scope:Scope} {iter elt:Expr} {ifs:List Expr} {px:Pos} (hid:HF N' X.N X.env.scope = true) (hok:BX [x] N' scope X.env.scope = true) (hc:X.calm = true) (hn:N'.Nodup) (hx:scope.names.lookup x = some .local)
  (hs:∀ z,foldedSetIterable iter X.env z = pure z) (hi:JI X (.Name x px) iter mi) (ht:JTc (withN X N') [x] scope ifs mt) (he:JEc (withN X N') [x] scope elt m) :
  JE X (.ListComp elt [⟨.Name x px,iter,ifs,0⟩] scope pos) (BH mi 0 mt m):=by
 have hnx:∀ y∈N',x≠y:=fun y hy z=>by
  simp only [BX,Bool.and_eq_true,List.all_eq_true] at hok
  have:=hok.2 x (by simp)
  rw [z] at this
  simp [hy] at this
 exact AW (Ql (te:=tE X.K m) hid hc hok hi (fun C s H fp pins=>GX rfl (List.nodup_cons.mpr ⟨fun z=>hnx x z rfl,hn⟩) (lookup_relabel_local hx)) ht (fun C s H fp pins=>he C s H fp pins) hs) fun _ _ _ h=>IG h
end
end J
end
section
namespace L2
open PySem PySem.Spec PyProof.Rows
noncomputable def Mkd (X:Cx):Prop:=∃ (a:Addr) (o:Obj) (u:HO) (vs:Array Value),X.A.handled = some (.ref a)∧X.H₀ a = some (.frz o u)∧o.data = .fields vs∧vs[2]? = some .none
theorem Inv.plainly {X:Cx} {pins:List (Addr × Obj)} {σ:St} {H:Hp} {s:Shared} (I:Inv X pins σ H s) (m:Mkd X):∃ a,X.A.handled = some (.ref a)∧A8 s.heap a:=by
 obtain ⟨a,o,u,vs,h,hp,hd,hc⟩:=m
 have hok:=(show B7 X.prog X.w H s.heap a (.frz o u) from I.hok a _ (I.base.frzs _ _ _ hp))
 exact ⟨a,h,o,vs,hok.1,hd,hc⟩
theorem O2 {X:Cx} {own:List Str} {scope:Scope} {C:Addr} {cl:List (Str × Addr)} {fn:Str→Bool} {s:Shared} {σ:St} {H:Hp} {fp:List Addr} {pins:List (Addr × Obj)} (I:Inv X pins σ H s) (m:Mkd X):Mkd (cxD X own scope C cl fn s H fp pins):=by
 obtain ⟨a,o,u,vs,h,hp,r⟩:=m
 exact ⟨a,o,u,vs,h,I.base.frzs _ _ _ hp,r⟩
structure TurnM (P:Program) (w:World) (K:Frag) (tg:Expr) (J:It) (fp:List Addr) (it:Addr) (tn:Nat→Heap→Prop):Prop where
 mem:it∈fp
 obj:∀ i h,tn i h→∀ b∈fp,∃ o,h.get? b = some o∧∀ v,o.data ≠ .cell v
 keep:∀ i h h',tn i h→(∀ b∈fp,∀ o,h.get? b = some o→h'.get? b = some o)→tn i h'
 item:∀ (X:Cx),X.prog = P→X.w = w→X.K = K→Mkd X→∀ (i:Nat) (pins:List (Addr × Obj)) (s:Shared) (σ:St) (H:Hp) (E:Value→Shared→Prop),Inv X pins σ H s→(∀ b∈fp,DN X pins H b)→tn i s.heap→J.go i H →
  wpAny (model P w) X.A (pyNext (.ref it)) (fun r s1=>∃ u,r = some u ∧
   wpAny (model P w) X.A (letOwnedTupleGo tg (.ref it) u) (fun _ s2=>∃ x H',Inv X pins σ H' s2∧RelV x u∧J.yld i H x H'∧tn (i + 1) s2.heap∧∀ b∈fp,H' b = none) E s1) E s
 done:∀ (X:Cx),X.prog = P→X.w = w→X.K = K→Mkd X→∀ (i:Nat) (pins:List (Addr × Obj)) (s:Shared) (σ:St) (H:Hp) (E:Value→Shared→Prop),Inv X pins σ H s→(∀ b∈fp,DN X pins H b)→tn i s.heap→J.stop i H →
  wpAny (model P w) X.A (pyNext (.ref it)) (fun r s1=>r = none∧Inv X pins σ H s1) E s
 self:∀ (A:Around) (i:Nat) (s:Shared) (Q:Value→Shared→Prop) (E:Value→Shared→Prop),tn i s.heap→Q (.ref it) s→wpAny (model P w) A (pyIter (.ref it)) Q E s
noncomputable def Q8 (X:Cx) (pins:List (Addr × Obj)) (σ:St) (tg:Expr) (R:It→Hp→Prop) (itv:Value) (s2:Shared):Prop:=
 ∃ (it:Addr) (fp:List Addr) (tn:Nat→Heap→Prop) (J:It) (H':Hp),itv = .ref it∧Inv X pins σ H' s2∧TurnM X.prog X.w X.K tg J fp it tn∧tn 0 s2.heap∧(∀ b∈fp,DN X pins H' b)∧R J H'
noncomputable def PIM (X:Cx) (tg iter:Expr) (wi:TI):Prop:=
 ∀ (pins:List (Addr × Obj)) (s:Shared) (σ:St) (H:Hp) (R:It→Hp→Prop),Inv X pins σ H s→wi σ H R →
  wpAny (model X.prog X.w) X.A (eval iter X.env) (fun v s1=>wpAny (model X.prog X.w) X.A (pyIter v) (Q8 X pins σ tg R) X.xe s1) X.xe s
theorem JD {P:Program} {w:World} {K:Frag} {tg:Expr} (it:Addr) (lo:Int) (n:Nat):TurnM P w K tg (Itr lo n) [it] it (fun i h=>IsRangeIter h it (lo + (i:Nat) * 1) ((n:Int) - (i:Nat)) 1) where
 mem:=by simp
 obj:=fun i h st b hb=>by
  have e:b = it:=by simpa using hb
  subst e
  exact ⟨_,st,fun v z=>by
   have z':Data.fields _ = Data.cell v:=z
   cases z'⟩
 keep:=fun i h h' st k=>k it (by simp) _ st
 item:=by
  intro X hP hw hK hc i pins s σ H E I hf st hg
  subst hP hw hK
  obtain ⟨f0,f1,f2,f3,f4,f5⟩:=hf it (by simp)
  have hi:i < n:=hg
  refine wpAny_pyNext_range_item st (by lia) fun h' st' sb=>?_
  have I1:Inv X pins σ H { s with heap:=h',toks:=s.toks + 1 }:=I.turned (fun b o hb e=>(sb.2 b hb).trans e) f0 f1 f3 f4 f5
  have e1:lo + ((i + 1:Nat):Int) * 1 = lo + (i:Int) * 1 + 1:=by lia
  have e2:(n:Int) - ((i + 1:Nat):Int) = (n:Int) - (i:Int) - 1:=by lia
  have st2:IsRangeIter h' it (lo + ((i + 1:Nat):Int) * 1) ((n:Int) - ((i + 1:Nat):Int)) 1:=by rw [e1,e2]; exact st'
  refine ⟨_,rfl,KR (s:={ s with heap:=h',toks:=s.toks + 1 }) (n := "range_iterator") st2 rfl rfl (by decide) ⟨.int (lo + i),H,I1,⟨s.toks,?_⟩,⟨rfl,rfl⟩,st2,fun b hb=>(hf b hb).1⟩⟩
  rw [Int.mul_one]
 done:=by
  intro X hP hw hK hc i pins s σ H E I hf st hg
  subst hP hw hK
  obtain ⟨f0,f1,f2,f3,f4,f5⟩:=hf it (by simp)
  obtain ⟨a,hh,hp⟩:=I.plainly hc
  exact FX hh hp st (by have:n≤i:=hg; lia) fun h' kk=>⟨rfl,I.kept (t':=s.toks) fun b o e=>kk b o e⟩
 self:=fun _ _ _ _ _ st h=>wpAny_pyIter_rangeiter st h
section
variable {X:Cx} {tg:Expr}
theorem LP {pins:List (Addr × Obj)} {σ:St} {H:Hp} {s:Shared} {R:It→Hp→Prop} {E:Value→Shared→Prop} {lo hi:Int} {t u v:Tok} {tk:Nat} (I:Inv X pins σ H s) (h1 : -(2 ^ 62)≤lo) (h2:lo < 2 ^ 62) (h3 : -(2 ^ 62)≤hi) (h4:hi < 2 ^ 62)
  (q:R (Itr lo (hi - lo).toNat) H):wpAny (model X.prog X.w) X.A (pyIter (.ref s.heap.objs.size)) (Q8 X pins σ tg R) E { s with heap:=s.heap.push { cls:=.type "range",data:=.fields #[.int lo t,.int hi u,.int 1 v] },toks:=tk }:=by
 refine wpAny_pyIter_range (IsRange.new ..) (small_one h1 h2 h3 h4) ?_
 have I1:Inv X pins σ H { s with heap:=s.heap.push { cls:=.type "range",data:=.fields #[.int lo t,.int hi u,.int 1 v] },toks:=tk }:=I.kept fun b o e=>Heap.get?_push_of_some _ e
 refine ⟨(s.heap.push { cls:=.type "range",data:=.fields #[.int lo t,.int hi u,.int 1 v] }).objs.size,[(s.heap.push { cls:=.type "range",data:=.fields #[.int lo t,.int hi u,.int 1 v] }).objs.size],_,_,H,rfl,
  I1.kept (t':=tk) fun b o e=>Heap.get?_push_of_some _ e,JD _ lo (hi - lo).toNat,?_,fun b hb=>?_,q⟩
 ·have e1:lo + ((0:Nat):Int) * 1 = lo:=by simp
  have e2:(((hi - lo).toNat:Nat):Int) - ((0:Nat):Int) = Builtin.Range.rangeSize lo hi 1:=by rw [rangeSize_one]; split <;> lia
  show IsRangeIter _ _ (lo + ((0:Nat):Int) * 1) ((((hi - lo).toNat:Nat):Int) - ((0:Nat):Int)) 1
  rw [e1,e2]
  exact Heap.get?_push_size _ rfl
 ·have e:b = (s.heap.push { cls:=.type "range",data:=.fields #[.int lo t,.int hi u,.int 1 v] }).objs.size:=by simpa using hb
  subst e
  exact I1.fpOk (Nat.le_refl _) (I1.hok.fresh (Nat.le_refl _))
theorem Kl {a:Expr} {ta:TA} {p pos:Pos} (hg:Gl X "range") (hm:X.mg "range" = none) (ha:PA X [a] ta) (hs:starEach [a] X.env = [(false,eval a X.env)]:=by rfl):PIM X tg (.Call (.Name "range" p) [a] [] pos) (Mt ta):=by
 intro pins s σ H R I h
 refine Call_ (FH I hg hm boot_range (PyProof.Rows.callWith_type1 (thn (ha pos pins s σ H _ I h) fun us s1 ⟨vs,H1,I1,r1,q1⟩=>?_) hs rfl))
 obtain ⟨j,e,q1,q2,q⟩:=q1
 subst e
 cases r1 with
 | cons r rr =>
  cases rr
  obtain ⟨t,rfl⟩:=r
  exact call_range_1 (LP I1 (by lia) (by lia) q1 q2 (by simpa using q))
end
section
variable {X:Cx} {pins:List (Addr × Obj)} {σ:St} {H:Hp} {s:Shared}
theorem LQ {own:List Str} {scope:Scope} {fp:List Addr} {it:Addr} {tn:Nat→Heap→Prop} {J:It} {target iter elt:Expr} {ifs:List Expr} {pos:Pos} {un:TU} {tc:TT} {te:TE} {acc:Addr} {Q:VK} {R:Result→Shared→Prop}
  {cl:List (Str × Addr)} {fn:Str→Bool} {h1:Heap} {t1:Nat} (hc:Mkd X)
  (hg:PGo (cxD X own scope s.heap.objs.size cl fn s H fp pins) target own.length un) (ht:PTs (cxD X own scope s.heap.objs.size cl fn s H fp pins) ifs tc) (he:PE (cxD X own scope s.heap.objs.size cl fn s H fp pins) elt te)
  (I:Inv X pins σ H s) (T:TurnM X.prog X.w X.K target J fp it tn) (st:tn 0 s.heap) (f2:∀ b∈fp,DN X pins H b)
  (W:Nat→Nat→List V→Hp→Prop) (w0:∃ m,W 0 m [] H)
  (turn:∀ i m ys H,W i m ys H→H acc = some (.lst ys) ∧
   ((J.stop i H∧Q (.ref acc) H)∨(J.go i H∧∀ x H',J.yld i H x H'→∃ vs,un x H' vs∧tc (vs.map some ++ σ) H' fun b H3 =>
    if b = true then te (vs.map some ++ σ) H3 fun v H4=>H4 acc = some (.lst ys)∧ys.length < sizeLine∧∃ m',m' < m∧W (i + 1) m' (ys ++ [v]) (upd H4 acc (.lst (ys ++ [v])))
    else ∃ m',m' < m∧W (i + 1) m' ys H3)))
  (fin:∀ s' σ' H',Inv (cxD X own scope s.heap.objs.size cl fn s H fp pins) [] σ' H' s'→Q (.ref acc) H'→R (.ok .next) s')
  (hk:∀ b o,s.heap.get? b = some o→h1.get? b = some o) (I0:Inv (cxD X own scope s.heap.objs.size cl fn s H fp pins) [] (List.replicate own.length none ++ σ) H { s with heap:=h1,toks:=t1 }) :
  codeAny (model X.prog X.w) X.A (.compStart (.ListComp elt [⟨target,iter,ifs,0⟩] scope pos) 0 (.ref it) (.ref acc) (compEnvC scope cl s.heap.objs.size X.env)) R { s with heap:=h1,toks:=t1 }:=by
 have st1:tn 0 h1:=T.keep _ _ _ st fun b _ o e=>hk b o e
 have stat:∀ {H':Hp},(∀ b∈fp,H' b = none)→∀ b∈fp,DN (cxD X own scope s.heap.objs.size cl fn s H fp pins) [] H' b:=fun hn b hb=>by
  obtain ⟨_,f1,f3,_,f5,f6⟩:=f2 b hb
  obtain ⟨o,e,_⟩:=T.obj _ _ st b hb
  refine ⟨hn b hb,Nat.ne_of_lt (Heap.lt_size e),fun hz=>?_,.inl hb,(I0.ok.exf b hb).2,fun p hp=>f6 p (by simpa using hp)⟩
  rcases List.mem_cons.mp (I.stkSub b hz) with z | z
  ·exact f1 z
  ·exact f3 z
 have loop:∀ s4,s4 = { s with heap:=h1,toks:=t1 }→codeAny (model X.prog X.w) X.A (.compLoop (.ListComp elt [⟨target,iter,ifs,0⟩] scope pos) 0 (.ref it) (.ref acc) (compEnvC scope cl s.heap.objs.size X.env)) R s4:=by
  rintro s4 rfl
  obtain ⟨m0,w0⟩:=w0
  refine Gu (fun n s'=>∃ i ys σ0 H',σ0.length = own.length∧Inv (cxD X own scope s.heap.objs.size cl fn s H fp pins) [] (σ0 ++ σ) H' s'∧tn i s'.heap∧(∀ b∈fp,H' b = none)∧W i n ys H') ?_ m0 ⟨0,[],_,H,by rw [List.length_replicate],I0,st1,fun b hb=>(f2 b hb).1,w0⟩
  rintro n s3 ⟨i,ys,σ0,H3,hl3,I3,st3,fr3,w3⟩
  obtain ⟨ha,turn3⟩:=turn i n ys H3 w3
  rcases turn3 with ⟨stop,qn⟩ | ⟨go,step⟩
  ·refine thn (T.done (cxD X own scope s.heap.objs.size cl fn s H fp pins) rfl rfl rfl (O2 I hc) i [] s3 _ H3 _ I3 (stat fr3) st3 stop) fun r s4 yy=>?_
   obtain ⟨hr,I4⟩:=yy
   subst hr
   exact fin s4 _ H3 I4 qn
  ·refine thn (T.item (cxD X own scope s.heap.objs.size cl fn s H fp pins) rfl rfl rfl (O2 I hc) i [] s3 _ H3 _ I3 (stat fr3) st3 go) fun r s4 yy=>?_
   obtain ⟨u,hr,h4⟩:=yy
   subst hr
   refine thn h4 fun _ s5 yy=>?_
   obtain ⟨x,H5,I5,r5,y5,st5,fr5⟩:=yy
   obtain ⟨vs,hu,q5⟩:=step x H5 y5
   have I5':=I5.pinned (stat fr5) (T.obj _ _ st5)
   have again:∀ {H7:Hp} {s7:Shared},vs.length = own.length→Inv (cxD X own scope s.heap.objs.size cl fn s H fp pins) ([] ++ FV fp s5.heap) (vs.map some ++ σ) H7 s7→∀ {ys'},(∃ m',m' < n∧W (i + 1) m' ys' H7) →
     ∃ m,m < n∧∃ i ys σ0 H',σ0.length = own.length∧Inv (cxD X own scope s.heap.objs.size cl fn s H fp pins) [] (σ0 ++ σ) H' s7∧tn i s7.heap∧(∀ b∈fp,H' b = none)∧W i m ys H':=fun {H7 s7} hl I7 {ys'} ⟨m',hm,w7⟩=>by
    refine ⟨m',hm,i + 1,ys',vs.map some,H7,by rw [List.length_map,hl],I7.unpinned,T.keep _ _ _ st5 fun b hb o e=>(I7.pin (b,o) (List.mem_append_right _ (List.mem_append_right _ (CV hb e)))).1,fun b hb=>?_,w7⟩
    obtain ⟨o,e,d⟩:=T.obj _ _ st5 b hb
    exact (I7.pin (b,o) (List.mem_append_right _ (List.mem_append_right _ (CV hb e)))).2.1
   refine thn (hg _ s5 σ0 σ H5 x u vs hl3 I5' r5 hu) fun _ s6 yy=>?_
   obtain ⟨hl,I6⟩:=yy
   refine thn (ht _ s6 _ H5 _ I6 q5) fun ok s7 yy=>?_
   obtain ⟨H7,I7,q7⟩:=yy
   cases ok with
   | false =>
    rw [if_neg Bool.false_ne_true] at q7
    rw [if_neg Bool.false_ne_true]
    exact again hl I7 q7
   | true =>
    rw [if_pos rfl] at q7
    rw [if_pos rfl]
    refine thn (he _ s7 _ H7 _ I7 q7) fun v s8 yy=>?_
    obtain ⟨y,H8,I8,r8,ha8,hz8,q8⟩:=yy
    refine thn (FJ _ s8 _ H8 (.ref acc) [y] (.ref acc) [v] (fun _ H9=>∃ m',m' < n∧W (i + 1) m' (ys ++ [y]) H9) I8 rfl (.cons r8 .nil) ⟨acc,ys,y,rfl,rfl,ha8,hz8,q8⟩) fun _ s9 yy=>?_
    obtain ⟨_,H9,I9,_,q9⟩:=yy
    exact again hl I9 q9
 exact codeAny_compStart_list (loop _ rfl) (T.self X.A 0 _ _ _ st1 (loop _ rfl))
theorem Kn {own:List Str} {scope:Scope} {fp:List Addr} {it:Addr} {tn:Nat→Heap→Prop} {J:It} {target iter elt:Expr} {ifs:List Expr} {pos:Pos} {un:TU} {tc:TT} {te:TE} {acc:Addr} {Q:VK} {R:Result→Shared→Prop}
  {E:Value→Shared→Prop} (hc:Mkd X) (hok:BX own X.N scope X.env.scope = true)
  (hg:∀ C s H fp pins,PGo (cxC X own scope C s H fp pins) target own.length un) (ht:∀ C s H fp pins,PTs (cxC X own scope C s H fp pins) ifs tc) (he:∀ C s H fp pins,PE (cxC X own scope C s H fp pins) elt te)
  (I:Inv X pins σ H s) (T:TurnM X.prog X.w X.K target J fp it tn) (st:tn 0 s.heap) (f2:∀ b∈fp,DN X pins H b)
  (W:Nat→Nat→List V→Hp→Prop) (w0:∃ m,W 0 m [] H)
  (turn:∀ i m ys H,W i m ys H→H acc = some (.lst ys) ∧
   ((J.stop i H∧Q (.ref acc) H)∨(J.go i H∧∀ x H',J.yld i H x H'→∃ vs,un x H' vs∧tc (vs.map some ++ σ) H' fun b H3 =>
    if b = true then te (vs.map some ++ σ) H3 fun v H4=>H4 acc = some (.lst ys)∧ys.length < sizeLine∧∃ m',m' < m∧W (i + 1) m' (ys ++ [v]) (upd H4 acc (.lst (ys ++ [v])))
    else ∃ m',m' < m∧W (i + 1) m' ys H3)))
  (fin:∀ s' σ' H',Inv (cxC X own scope s.heap.objs.size s H fp pins) [] σ' H' s'→Q (.ref acc) H'→R (.ok .next) s') :
  wpAny (model X.prog X.w) X.A (newFunctionEnv scope X.env.globals (clo X.env.cells scope.names []) [] X.env.qual none .none (some X.env)) (fun cenv s₄ =>
   cenv.locals = s.heap.objs.size∧codeAny (model X.prog X.w) X.A (.compStart (.ListComp elt [⟨target,iter,ifs,0⟩] scope pos) 0 (.ref it) (.ref acc) { cenv with scope:=relabel scope X.env }) R s₄) E s:=by
 have hcell:∀ x∈scope.names,x.2 ≠ .cell:=fun x hx z=>by
  simp only [BX,Bool.and_eq_true,List.all_eq_true] at hok
  have:=(hok.1.1.2 x hx).1.1
  rw [z] at this
  simp at this
 have hkind:scope.kind = .function:=by
  simp only [BX,Bool.and_eq_true] at hok
  simpa using hok.1.2
 refine wpAny_newFunctionEnv hcell (fun x hx=>by simp at hx) (fun h1 hns hsb=>⟨rfl,?_⟩) hkind
 have hk:∀ b o,s.heap.get? b = some o→h1.get? b = some o:=fun b o e=>(hsb.2 b (Nat.ne_of_lt (Heap.lt_size e))).trans (Heap.get?_push_of_some _ e)
 have I0:Inv (cxC X own scope s.heap.objs.size s H fp pins) [] (List.replicate own.length none ++ σ) H { s with heap:=h1,toks:=s.toks + ([]:List (Str × Value)).length }:=
  HG hok I f2 (fun b hb=>let ⟨o,e,_⟩:=T.obj _ _ st b hb; ⟨o,e⟩) (by simpa using hns) hk
 exact LQ (iter:=iter) (pos:=pos) hc (hg _ _ _ _ _) (ht _ _ _ _ _) (he _ _ _ _ _) I T st f2 W w0 turn fin hk I0
end
section
variable {X:Cx}
end
structure ExcCls (K:Frag) (C:Addr):Prop where
 ga:PySem.W.findIn K (.ref C) "__getattribute__" = some (some (.builtin "BaseException.__getattribute__"))
 noga:PySem.W.findIn K (.ref C) "__getattr__" = some none
 cl:PySem.W.findIn K (.ref C) "__class__" = some (some (.builtin "object.__class__"))
 obj:PySem.W.mroIn K C (.type "object") = some true
 bex:PySem.W.mroIn K C (.type "BaseException") = some true
section
variable {prog:Program} {w:World} {A:Around} {E:Value→Shared→Prop} {h:Heap} {g:Array GenState} {d:Drawn} {t:Nat} {os:OsState} {a C:Addr} {o:Obj} {K:Frag}
theorem He {R:Result→Shared→Prop} (X:K.In h) (Y:ExcCls K C) (hx:h.get? a = some o) (hc:o.cls = .ref C) (hq:R (.ok (.ret (.ref C))) ⟨h,g,d,t,os⟩) :
  codeAny (model prog w) A (.call (.builtin "getset_descriptor.__get__") ⟨[.builtin "object.__class__",.ref a,.ref C],[]⟩) R ⟨h,g,d,t,os⟩:=by
 have hT5:(⟨h,g,d,t,os⟩:Shared).TypeIs (.builtin "object.__class__") "getset_descriptor" := F.typeOf_object_class
 have L1:=PySem.W.looks_mroIn (M:=model prog w) X Y.obj
 have L2:PySem.W.Looks (model prog w) h (isSubtype (.ref C) (.type (".".intercalate ("object.__class__".cutAt '.').dropLast))) true:=by rw [F.owner_object_class]; exact L1
 refine codeAny_call_builtin F.slot_gs_get.plain F.entry_gs_get (F.slot_gs_get.check _ _ _ _ _ _ _ _ hT5 (F.args_gs_get _ _ _) ?_)
 repeat (any_goals (first | assumption | (with_reducible refine wpAny_loadPart_at hx ?_; rw [hc]) | (with_reducible refine L2.at ?_) | wp_step))
 refine ⟨Code.quiet_builtin _ dK,codeAny_builtin F.entry_object_class ?_⟩
 repeat (any_goals (first | assumption | (with_reducible refine wpAny_loadPart_at hx ?_; rw [hc]) | wp_step))
theorem Ga {tk:Tok} {Q:Fin→Shared→Prop} (X:K.In h) (Y:ExcCls K C) (hx:h.get? a = some o) (hc:o.cls = .ref C) (hq:Q (.done (.ret (.ref C))) ⟨h,g,d,t,os⟩) :
  wpAny (model prog w) A (Builtin.«object.__getattribute__» ⟨[.ref a,.str "__class__" tk],[]⟩) Q E ⟨h,g,d,t,os⟩:=by
 have hT5:(⟨h,g,d,t,os⟩:Shared).TypeIs (.builtin "object.__class__") "getset_descriptor" := F.typeOf_object_class
 have f5:=F.typeOf_object_class
 have f6:=F.slot_gs_get.lookup
 have f7:=F.slot_gs_set.lookup
 have L1:=PySem.W.looks_findIn (M:=model prog w) X Y.cl
 repeat (any_goals (first | assumption | (with_reducible refine wpAny_loadPart_at hx ?_; rw [hc]) | (with_reducible refine L1.at ?_) | wp_step))
 refine He X Y hx hc ?_
 repeat (any_goals (first | assumption | wp_step))
theorem Ic {M:Model} {nameV:Value} {Q:Unit→Shared→Prop} (X:K.In h) (Y:ExcCls K C) (hx:h.get? a = some o) (hc:o.cls = .ref C) (hq:Q () ⟨h,g,d,t,os⟩):wpAny M A (checkBuiltinCall "BaseException.__getattribute__" ⟨[.ref a,nameV],[]⟩) Q E ⟨h,g,d,t,os⟩:=by
 have hk:builtinKind "BaseException.__getattribute__" = some .slot:=by decide +kernel
 have hsplit:splitId "BaseException.__getattribute__" = some ("BaseException","__getattribute__"):=by decide +kernel
 have L1:=PySem.W.looks_mroIn (M:=M) X Y.bex
 have ha:=F.args_bexc_ga (.ref a) nameV
 simp only [checkBuiltinCall,hk,hsplit]
 refine wpAny_bind ?_
 ·unfold isInstance
  repeat (first | (with_reducible refine wpAny_loadPart_at hx ?_; rw [hc]) | (with_reducible refine L1.at ?_) | wp_step)
  exact hq
theorem Gy {tk:Tok} {R:Result→Shared→Prop} (X:K.In h) (Y:ExcCls K C) (hx:h.get? a = some o) (hc:o.cls = .ref C) (hp:Slot "ValueError" "__getattribute__" "BaseException.__getattribute__") (hq:R (.ok (.ret (.ref C))) ⟨h,g,d,t,os⟩) :
  codeAny (model prog w) A (.call (.builtin "BaseException.__getattribute__") ⟨[.ref a,.str "__class__" tk],[]⟩) R ⟨h,g,d,t,os⟩:=
 codeAny_call_builtin hp.plain F.entry_bexc_ga (Ic X Y hx hc (Ga X Y hx hc hq))
theorem Ib {tk:Tok} {fill:Bool} {Q:Value→Shared→Prop} (X:K.In h) (Y:ExcCls K C) (hx:h.get? a = some o) (hc:o.cls = .ref C) (hp:Slot "ValueError" "__getattribute__" "BaseException.__getattribute__") (hq:Q (.ref C) ⟨h,g,d,t,os⟩) :
  wpAny (model prog w) A (getAttrBy (.ref a) (.str "__class__" tk) fill) Q E ⟨h,g,d,t,os⟩:=by
 have f3:=hp.bind (.ref a)
 have hx2:(Value.builtin "BaseException.__getattribute__" == Value.builtin "object.__getattribute__") = false:=by decide +kernel
 have hx1:(onTheHeap (Value.ref C) && Value.builtin "BaseException.__getattribute__" == Value.builtin "object.__getattribute__") = false:=by rw [hx2]; rfl
 have L1:=PySem.W.looks_findIn (M:=model prog w) X Y.ga
 have L2:=PySem.W.looks_findIn (M:=model prog w) X Y.noga
 repeat (any_goals (first | assumption | (with_reducible refine wpAny_loadPart_at hx ?_; rw [hc]) | (with_reducible refine L1.at ?_) | (with_reducible refine L2.at ?_) | wp_step))
 refine Gy X Y hx hc hp ?_
 repeat (any_goals (first | assumption | wp_step))
theorem Gx {Q:Option Value→Shared→Prop} (X:K.In h) (Y:ExcCls K C) (hx:h.get? a = some o) (hc:o.cls = .ref C) (hp:Slot "ValueError" "__getattribute__" "BaseException.__getattribute__") (hq:Q (some (.ref C)) ⟨h,g,d,t + 1,os⟩) :
  wpAny (model prog w) A (getAttr? (.ref a) "__class__") Q E ⟨h,g,d,t,os⟩:=by
 unfold getAttr? getAttrBy?
 repeat (any_goals (first | assumption | with_reducible apply Ib X Y hx hc hp | wp_step))
end
theorem MH {K:Frag} {a C:Addr} {cd:ClassData} (Y:ExcCls K C) (hcD:PySem.W.clsIn K C = some cd):PySem.W.KitX K (.ref a) (.ref C) (fun h=>∃ o,h.get? a = some o∧o.cls = .ref C) where
 ty:=fun M h _ p=>by
  obtain ⟨o,h1,h2⟩:=p
  exact h2 ▸ (PySem.W.Looks.ld h1).andThen .now
 it:=fun _ _ X _=>by
  unfold PySem.W.clsIn at hcD
  split at hcD
  ·rename_i c' d' cd' sl' ho
   intro A' Q' E' s' k q
   unfold isType loadHead
   exact wpAny_bind (wpAny_loadPart (k _ _ (X _ _ ho)) (wpAny_pure q))
  ·cases hcD
 ne:=fun h tp dd its n sl X htp=>by
  refine Bool.eq_false_iff.mpr fun q=>?_
  have e:C = tp:=Value.ref.inj (beq_iff_eq.mp q)
  subst e
  unfold PySem.W.clsIn at hcD
  split at hcD
  ·rename_i c' d' cd' sl' ho
   have z:=(X _ _ ho).symm.trans htp
   cases z
  ·cases hcD
 ca:=fun {_ _ _ _ _ s} X p k=>by
  obtain ⟨h,g,d,t,os⟩:=s
  obtain ⟨o,h1,h2⟩:=p
  exact Gx X Y h1 h2 F.attr_ValueError.ga k
noncomputable def RL (C:Addr) (c:V) (b:Bool):List V→Hp→VK→Prop:=fun xs H Q=>∃ a o u,xs = [.ref a,c]∧H a = some (.frz o u)∧o.cls = .ref C∧Q (.bl b) H
theorem Mf {X:Cx} {C:Addr} {c:V} {cv:Value} {b:Bool} {cd:ClassData} (Y:ExcCls X.K C) (hcD:PySem.W.clsIn X.K C = some cd) (hk:PySem.W.kitOne X.K (.ref C) cv = some b) (hc:∀ u,RelV c u→u = cv) :
  Cg X (.builtin "isinstance") (RL C c b):=by
 intro pins s σ H xs us Q I r h
 obtain ⟨a,o,u,rfl,ho,hcl,q⟩:=h
 obtain ⟨v1,v2,rfl,r1,r2⟩:=r.two
 cases (show v1 = Value.ref a from r1)
 cases hc _ r2
 have hok:=(show B7 X.prog X.w H s.heap a (.frz o u) from I.hok a _ ho)
 exact PySem.W.kia_one (MH Y hcD) I.kIn ⟨o,hok.1,hcl⟩ hk (fun z=>nomatch z) fun tk=>⟨.bl b,H,I.tok tk,rfl,q⟩
end L2
end
section
namespace J
open PySem PySem.Spec PyProof.Rows L2
section
variable {X:Cx} {a:Expr} {m:ME} {p pos q:Pos} {K:Frag} {H:Hp} {σ:L2.St}
noncomputable def Pu (C:Addr) (b:Bool):A→Option A
 | .opq _ o=>if (o.cls == .ref C) = true then some (.fz (.bl b)) else none
 | .fz _ | .lst _ | .tup _ | .scr _ | .dic _=>none
noncomputable def BB (C:Addr) (b:Bool):List A→Option A:=on1 (Pu C b)
theorem P7 {C:Addr} {b:Bool}:OpN K (BB C b) (r1L fun x H Q=>∃ a o u,x = .ref a∧H a = some (.frz o u)∧o.cls = .ref C∧Q (.bl b) H):=by
 intro N H xs as b' Q hs e k
 replace e:=Et e
 obtain ⟨a,rfl,e⟩:=e
 obtain ⟨x,L1,rfl,h1⟩:=DL hs
 cases a with
 | opq a o =>
  simp only [Pu] at e
  split at e
  ·rename_i hc
   cases e
   rw [AE] at h1
   obtain ⟨rfl,_,u,h⟩:=h1
   exact ⟨_,rfl,a,o,u,rfl,h,beq_iff_eq.mp hc,k _ _ DM⟩
  ·cases e
 | _=>cases e
theorem QL {C:Addr} {c:V} {b:Bool} {Q:VK} (h:tE K (opM (BB C b) (m1L m)) σ H Q):tCB (RL C c b) (CC (tE K m) (CC (tC c) Gg)) σ H Q:=by
 have h2:=one P7 h
 exact tE.mono h2 fun x H1 ⟨a,o,u,e,r,hc,q⟩=>⟨a,o,u,by rw [e],r,hc,q⟩
theorem MB {y:Str} {C:Addr} {c:V} {cv:Value} {b:Bool} {cd:ClassData} (Y:ExcCls X.K C) (hcD:PySem.W.clsIn X.K C = some cd) (hk:PySem.W.kitOne X.K (.ref C) cv = some b) (hc:∀ u,RelV c u→u = cv)
  (hn:PE X (.Name y q) (tC c)) (hg:Gl X "isinstance") (B:Blt X.mg X.K) (he:starEach [a,.Name y q] X.env = [(false,eval a X.env),(false,eval (.Name y q) X.env)]) (he2:starEach [.Name y q] X.env = [(false,eval (.Name y q) X.env)]) (ha:JE X a m) :
  JE X (.Call (.Name "isinstance" p) [a,.Name y q] [] pos) (opM (BB C b) (m1L m)):=
 AW (GV (Mf Y hcD hk hc) hg B.isinstance PyProof.Rows.Boot.«isinstance» (DE ha (DE hn FU he2) (he.trans (by rw [he2]))) dK dK (he.trans (by rw [he2])) (by rw [he2]; rfl)) fun _ _ _ h=>QL h
end
section
variable {X:Cx} {a b c e:Expr} {m:ME} {mt:MT} {mi:MI} {p pos:Pos} {x:Str}
noncomputable def JIM (X:Cx) (tg e:Expr) (m:MI):Prop:=PIM X tg e (tI X.K m)
theorem Na {tg:Expr} {t t':TI} (h:PIM X tg e t) (w:∀ σ H R,t' σ H R→t σ H R):PIM X tg e t':=fun pins s σ H R I q=>h pins s σ H R I (w σ H R q)
theorem MD {tg:Expr} (hg:Gl X "range") (hm:X.mg "range" = none) (hs:starEach [a] X.env = [(false,eval a X.env)]) (h:JE X a m):JIM X tg (.Call (.Name "range" p) [a] [] pos) (BL m):=
 Na (Kl hg hm (DE h FU hs) hs) fun _ _ _ h=>Lg h
end
end J
end
section
namespace L2
open PySem PySem.Spec PyProof.Rows
structure RoomM (k:Nat) (A:Around):Prop where
 dp:A.depth + 3 * k + 5 < recursionLimit
 un:A.units + 16 * k + 200 < cLine
theorem RoomM.mono {j k:Nat} {A:Around} (r:RoomM k A) (h:j≤k):RoomM j A:=⟨by have:=r.dp; lia,by have:=r.un; lia⟩
theorem RoomM.deeper {k:Nat} {A:Around} (r:RoomM (k + 1) A) (env:Env):RoomM k (A.deeper env):=
 ⟨by have:=r.dp; show A.depth + 1 + 3 * k + 5 < _; lia,by have:=r.un; show A.units + 3 + 16 * k + 200 < _; lia⟩
theorem RoomM.depth {k:Nat} {A:Around} (r:RoomM k A):A.depth < recursionLimit:=by have:=r.dp; lia
theorem RoomM.units {k:Nat} {A:Around} (r:RoomM k A):A.units + 64 < cLine:=by have:=r.un; lia
theorem Room.marked {k:Nat} {A:Around} (r:Room k A) (e:Option Value):RoomM k (A.mark e):=⟨r.dp,r.un⟩
noncomputable def OY (A:Around) (H:Hp):Prop:=∃ (a:Addr) (o:Obj) (u:HO) (vs:Array Value),A.handled = some (.ref a)∧H a = some (.frz o u)∧o.data = .fields vs∧vs[2]? = some .none
theorem Mkd.of {X:Cx} {pins:List (Addr × Obj)} {σ:St} {H:Hp} {s:Shared} (m:Mkd X) (I:Inv X pins σ H s):OY X.A H:=by
 obtain ⟨a,o,u,vs,h,hp,r⟩:=m
 exact ⟨a,o,u,vs,h,I.base.frzs _ _ _ hp,r⟩
noncomputable def cxM (CX:CXT) (P:Program) (w:World) (K:Frag) (mg:Str→Option Value) (base:Heap) (N:List Str) (qual:Str) (scope:Scope) (f:Addr) (cd:Value) (A:Around) (outer:List Env) (s:Shared) (H:Hp) (E:XK):Cx:=
 { A5 CX P w K mg base N qual scope f cd A outer s H E with calm:=false }
theorem JX {CX:CXT} {P:Program} {w:World} {K:Frag} {mg:Str→Option Value} {base:Heap} {N ps:List Str} {qual:Str} {scope:Scope} {f:Addr} {cd:Value} {A:Around} {outer:List Env} {s s1:Shared} {H:Hp} {E:XK} {us:List Value} {vs:List V}
  (S:FnScope N ps scope) (e0:Env0 P w K mg base A outer s H) (hl:vs.length = ps.length) (r:Vals vs us)
  (x:InCallC s s.heap.objs.size (bindL (envOfC qual scope s.heap.objs.size f cd).kindOf (ps.zip us) fun _=>none) (cellsFrom (s.heap.objs.size + 1) scope.names []) (bindC (envOfC qual scope s.heap.objs.size f cd).kindOf (ps.zip us) fun _=>none) s1) :
  Inv (cxM CX P w K mg base N qual scope f cd A outer s H E) [] (start N vs) H s1:=by
 have I:=FD (CX:=CX) (E:=E) (A:={ A with handled:=none }) (P:=P) (w:=w) (K:=K) (mg:=mg) (base:=base) (outer:=outer) (qual:=qual) (f:=f) (cd:=cd) S rfl ⟨e0.frames,e0.mod,e0.bs,e0.bsz,e0.funs,e0.frf,e0.hok,e0.bare,e0.tb⟩ hl r x
 exact ⟨⟨I.ok.mod,I.ok.kind,I.ok.glob,I.ok.blt,I.ok.above,I.ok.inj,I.ok.has,I.ok.cab,fun z=>absurd z Bool.false_ne_true,Around.frames_deeper e0.frames,I.ok.stk,I.ok.exf,I.ok.bs,I.ok.bsz,I.ok.noex,I.ok.exfs,I.ok.funs,I.ok.frf,I.ok.tb⟩,
  I.os,I.bare,I.base,I.loc,I.cell,I.free,I.freeC,I.pin,I.hok,I.len⟩
structure FnOkM (P:Program) (w:World) (K:Frag) (mg:Str→Option Value) (base:Heap) (CX:CXT) (k:Nat) (f:Addr) (fd:FuncData) (ps:List Str) (sp:Sp):Prop where
 len:∀ vs H Q E,sp vs H Q E→vs.length = ps.length
 run:∀ (A:Around) (outer:List Env) (s:Shared) (H:Hp) (args:Args) (us:List Value) (vs:List V) (Q:VK) (E:XK),RoomM k A→OY A H→Env0 P w K mg base A outer s H→BindsTo s fd args (ps.zip us)→Vals vs us→sp vs H Q E →
  codeAny (model P w) A (.call (.ref f) args) (CR CX outer P w H s Q E) s
theorem Pn {CX:CXT} {P:Program} {w:World} {K:Frag} {mg:Str→Option Value} {base:Heap} {k:Nat} {f:Addr} {name qual:Str} {params:Arguments} {body:List Stmt} {scope:Scope} {dV kV doc pm cdv ct oc:Value} {an od:Option Addr}
  {osl:Array (Option Value)} {N ps:List Str} {sp:Sp} (lk:K.lookup f = some ⟨oc,od,.func (PySem.W.fnOf name qual params body scope dV kV doc pm an cdv ct),osl⟩) (hcd:PySem.W.codeIn K cdv qual = true) (S:FnScope N ps scope)
  (len:∀ vs H Q E,sp vs H Q E→vs.length = ps.length)
  (hbody:∀ (A:Around) (outer:List Env) (s:Shared) (H:Hp) (vs:List V) (Q:VK) (E:XK),RoomM k (A.deeper (envOfC qual scope s.heap.objs.size f cdv))→Mkd (cxM CX P w K mg base N qual scope f cdv A outer s H E)→sp vs H Q E →
   ∃ t,PSs (cxM CX P w K mg base N qual scope f cdv A outer s H E) body t∧t { nx:=fun _ H'=>Q .non H',rt:=Q } (start N vs) H) :
  FnOkM P w K mg base CX (k + 1) f (PySem.W.fnOf name qual params body scope dV kV doc pm an cdv ct) ps sp:=by
 refine ⟨len,fun A outer s H args us vs Q E hr hmk e0 hb r hsp=>?_⟩
 have hl:=len _ _ _ _ hsp
 have KX:K.In s.heap:=e0.mod.kin.keeps fun b o e=>(e0.bs b o e).1
 have lim:s.heap.NoLimit:=e0.mod.nolimit.keeps fun b o e=>(e0.bs b o e).1
 have hkind:∀ y∈ps.zip us,scope.names.lookup y.1 = some .local∨(scope.names.lookup y.1 = some .cell∧((cellsFrom (s.heap.objs.size + 1) scope.names []).lookup y.1).isSome = true):=fun ⟨n,v⟩ hy=>by
  rcases S.par n (List.of_mem_zip hy).1 with q | q
  ·exact .inl q
  ·exact .inr ⟨q,PySem.W.cellsFrom_some _ _ _ (.inl q)⟩
 refine codeAny_call_function hr.depth (KX _ _ lk) rfl S.co S.gen rfl (PySem.W.codeRec_of KX hcd) (hb _ _ _ _ ?_)
 refine wpAny_newFunctionEnv_cells S.kind hkind fun env he s1 x=>?_
 subst he
 refine ⟨lim.keeps x.toInCall.keep,codeAny_func ?_⟩
 obtain ⟨t,ht,hq⟩:=hbody A outer s H vs Q E (hr.deeper _) hmk hsp
 have I:Inv (cxM CX P w K mg base N qual scope f cdv A outer s H E) [] (start N vs) H s1:=JX S e0 hl r x
 refine wpAny_mono (ht [] s1 (start N vs) H _ I hq) (fun fl s' hs=>?_) fun e s' hs=>hs
 have fin:∀ {σ':St} {H':Hp} {v:V} {u:Value},Inv (cxM CX P w K mg base N qual scope f cdv A outer s H E) [] σ' H' s'→RelV v u→Q v H'→CE outer P w H s Q u s':=
  fun {σ' H' v u} J rv q=>⟨v,H',J.os,J.bare,J.base,J.hok,rv,q⟩
 cases fl with
 | ret u =>
  obtain ⟨v,σ',H',J,rv,q⟩:=hs
  exact fin J rv q
 | next =>
  obtain ⟨σ',H',J,q⟩:=hs
  exact fin (v:=V.non) (u:=Value.none) J rfl q
 | brk =>
  obtain ⟨_,_,_,q⟩:=hs
  exact False.elim q
 | cont =>
  obtain ⟨_,_,_,q⟩:=hs
  exact False.elim q
section
variable {X:Cx} {CX:CXT} {k:Nat} {f C:Addr} {fd:FuncData} {ps:List Str} {sp:Sp} {dvs:List V} {ds:List Value} {E:XK} {x m:Str} {p pos apos:Pos} {e o:Expr} {es:List Expr} {ta:TE} {t:TA}
theorem OG {pins:List (Addr × Obj)} {σ:St} {H:Hp} {s:Shared} {Q:VK} {us:List Value} {vs:List V} (F:FnOkM X.prog X.w X.K X.mg X.base CX k f fd ps sp) (hr:RoomM k X.A) (hmk:Mkd X) (hb:Binds X.K fd ps ds) (hd:Vals dvs ds) (hx:Passes CX X E)
  (I:Inv X pins σ H s) (r:Vals vs us) (h:sp (vs ++ dvs) H Q E):wpAny (model X.prog X.w) X.A (call (.ref f) us) (EP X pins σ Q) X.xe s:=by
 have r2:Vals (vs ++ dvs) (us ++ ds):=r.append hd
 have hl:(us ++ ds).length = ps.length:=by rw [← r2.length]; exact F.len _ _ _ _ h
 refine wpAny_call (codeAny_mono (F.run X.A X.stack s H ⟨us,[]⟩ (us ++ ds) (vs ++ dvs) Q E hr (hmk.of I) I.env0 (hb s us I.kIn hl) r2 h) fun r s' hq=>?_)
 cases r with
 | error e=>exact hx pins σ H s e s' I hq
 | ok fl =>
  cases fl with
  | ret u=>exact I.after hq
  | next=>exact False.elim hq
  | brk=>exact False.elim hq
  | cont=>exact False.elim hq
theorem M6 (F:FnOkM X.prog X.w X.K X.mg X.base CX k f fd ps sp) (hr:RoomM k X.A) (hmk:Mkd X) (hg:Gl X x) (hm:X.mg x = some (.ref f)) (hk:PySem.W.keepIn X.K (.ref f) = true) (hb:Binds X.K fd ps ds) (hd:Vals dvs ds) (hx:Passes CX X E)
  (ha:PA X (e :: es) t) (hdb:(x == ("__debug__" : Str)) = false:=by decide) (he:starEach (e :: es) X.env = (false,eval e X.env) :: starEach es X.env:=by rfl) (hpl:(backTo pos (starEach es X.env)).any (·.1) = false:=by rfl) :
  PE X (.Call (.Name x p) (e :: es) [] pos) (JB sp dvs E t):=by
 intro pins s σ H Q I h
 refine wpAny_Call_Name_kw (ED I hg hm ?_ hdb)
 refine PySem.W.callWith_K (h₀:=X.base) I.ok.mod.kin hk (thn (ha pos pins s σ H _ I h) fun us s1 ⟨vs,H1,I1,r,q⟩=>⟨I1.kIn,?_⟩) he hpl
 exact OG F hr hmk hb hd hx I1 r q
end
structure DefM (P:Program) (w:World) (K:Frag) (mg:Str→Option Value) (base:Heap) (CX:CXT) (k:Nat) (x:Str) (ps:List Str) (sp:Sp):Prop where
 ex:∃ (f:Addr) (fd:FuncData),mg x = some (.ref f)∧PySem.W.keepIn K (.ref f) = true∧Binds K fd ps []∧FnOkM P w K mg base CX k f fd ps sp
end L2
namespace J
open PySem PySem.Spec PyProof.Rows L2
section
variable {P:Program} {w:World} {K:Frag} {mg:Str→Option Value} {base:Heap}
theorem Pp {x:Str} {st:Stmt} {f:Addr} {fd:FuncData} {N ps:List Str} {k:Nat} {m:MS} (F:Fun K x x st f fd) (S:FnScope N ps (Aq st))
  (hb:∀ (cdv:Value) (A:Around) (outer:List Env) (s:Shared) (H:Hp) (E:XK),RoomM k (A.deeper (envOfC x (Aq st) s.heap.objs.size f cdv))→Mkd (cxM CX0 P w K mg base N x (Aq st) f cdv A outer s H E) →
   JSs (cxM CX0 P w K mg base N x (Aq st) f cdv A outer s H E).nox (BU st) m) :
  FnOkM P w K mg base CX0 (k + 1) f fd ps (spJ K (fnM ps.length N.length m) ps.length):=by
 obtain ⟨oc,od,kV,doc,pm,an,cdv,ct,osl,rfl,lk,hcd⟩:=F.ex
 refine Pn lk hcd S (fun vs H Q E h=>?_) fun A outer s H vs Q E hr hm h=>?_
 ·obtain ⟨_,_,_,h,_⟩:=h
  exact h
 ·have hl:vs.length = ps.length:=by
   obtain ⟨_,_,_,h,_⟩:=h
   exact h
  have:=HU h
  refine ⟨_,PSs.nox (hb cdv A outer s H E hr hm),?_⟩
  unfold L2.start
  rw [hl]
  exact this
end
section
variable {X:Cx} {e:Expr} {es:List Expr} {ms:MA} {p pos:Pos} {x:Str}
theorem Mz {P:Program} {w:World} {K:Frag} {mg:Str→Option Value} {base:Heap} {CX:CXT} {k j:Nat} {ps:List Str} {Φ:Fn} {np:Nat} {E:XK} (D:DefM P w K mg base CX k x ps (spJ K Φ np)) (hnp:∀ args y,Φ args = some y→args.length = np)
  (hP:X.prog = P) (hw:X.w = w) (hK:X.K = K) (hm:X.mg = mg) (hb:X.base = base) (hr:RoomM j X.A) (hkj:k≤j) (hmk:Mkd X) (hx:Passes CX X E) (hdb:(x == ("__debug__" : Str)) = false) (hg:Gl X x)
  (he:starEach (e :: es) X.env = (false,eval e X.env) :: starEach es X.env) (hpl:(backTo pos (starEach es X.env)).any (·.1) = false) (ha:JA X (e :: es) ms):JE X (.Call (.Name x p) (e :: es) [] pos) (Ak Φ ms):=by
 subst hP hw hK hm hb
 obtain ⟨f,fd,a,b,c,d⟩:=D.ex
 exact AW (M6 d (hr.mono hkj) hmk hg a b c .nil hx ha hdb he hpl) fun _ _ _ h=>Le hnp h
end
end J
end
section
namespace L2
open PySem PySem.Spec PyProof.Rows PySem.W
section
variable {P:Program} {w:World} {K:Frag} {mg:Str→Option Value} {base:Heap}
theorem JQ {A:Around} {env:Env} {outer:List Env} {H:Hp} {s s1 s2:Shared} {E:XK} {L:Addr} {e:Value} (hfr:A.frames = some (env :: outer)) (hf:env.frame = some L) (hL:s.heap.objs.size≤L) (hfun:s.heap.FunFrames base outer)
  (hos:s1.os = s.os) (hk:∀ b o,s.heap.get? b = some o→s1.heap.get? b = some o) (fl:Fly P w (env :: outer) H s1 E e s2) :
  wpAny (model P w) A (leaving env e) (fun _ s3=>Fly P w outer H s E e s3) (fun e' s3=>Fly P w outer H s E e' s3) s2:=by
 obtain ⟨a,C,a0,B,H',rfl,F,q⟩:=fl
 have lt:∀ {b:Addr} {o:Obj},s.heap.get? b = some o→b≠L:=fun e=>Nat.ne_of_lt (Nat.lt_of_lt_of_le (Heap.lt_size e) hL)
 have hfs:frs (env :: outer) = L :: frs outer:=Fb hf
 refine Fi hfr hf F.fly F.pl fun h' fl' sm pl=>?_
 refine ⟨a,C,a0,B,H',rfl,⟨F.os.trans hos,F.bare,fl',fun b o e n hb=>?_,fun b o e n hb=>?_,fun b o e n=>F.free b o (hk b o e) n,fun b o e hb=>?_,F.tups,F.frzs,F.tbls,F.hok,pl⟩,q⟩
 ·refine F.keep b o (hk b o e) n ?_
  rw [hfs]
  exact fun z=>(List.mem_cons.mp z).elim (lt e) hb
 ·obtain ⟨sl',e2⟩:=F.slot b _ (hk b o e) n (by rw [hfs]; exact List.mem_cons_of_mem _ hb)
  obtain ⟨sl3,e3⟩:=sm b { o with slots:=sl' } e2 (show ∀ vs,o.data ≠ .fields vs from CU hfun hb e)
  exact ⟨sl3,e3⟩
 ·refine F.there b o (hk b o e) ?_
  rw [hfs]
  exact fun z=>(List.mem_cons.mp z).elim (lt e) hb
noncomputable def B6 (env:Env) (h:Heap):List Expr→List V→Prop
 | [],[]=>True
 | .Name x _ :: es,v :: vs=>(env.kindOf x = some .free∧(x == ("__debug__" : Str)) = false∧(x == ("__classdict__" : Str)) = false∧∃ c u,env.cells.lookup x = some c∧h.IsCell c (some u)∧RelV v u)∧B6 env h es vs
 | .Constant (.str z) _ _ :: es,v :: vs=>v = .str z∧B6 env h es vs
 | _,_=>False
theorem B6.ind {env:Env} {h:Heap} {M:List Expr→List V→Prop} (nil:M [] [])
  (nm:∀ x p es v vs,(env.kindOf x = some .free∧(x == ("__debug__" : Str)) = false∧(x == ("__classdict__" : Str)) = false∧∃ c u,env.cells.lookup x = some c∧h.IsCell c (some u)∧RelV v u)→B6 env h es vs→M es vs→M (.Name x p :: es) (v :: vs))
  (tx:∀ z k p es vs,B6 env h es vs→M es vs→M (.Constant (.str z) k p :: es) (.str z :: vs)):∀ {es vs},B6 env h es vs→M es vs:=by
 intro es
 induction es with
 | nil=>intro vs x; cases vs with
  | nil=>exact nil
  | cons v vs=>exact x.elim
 | cons e es ih =>
  intro vs x
  cases vs with
  | nil=>cases e <;> first | exact x.elim | (rename_i c k p; cases c <;> exact x.elim)
  | cons v vs =>
   cases e with
   | Name y p=>exact nm y p es v vs x.1 x.2 (ih x.2)
   | Constant c k p =>
    cases c with
    | str z=>obtain ⟨rfl,x⟩:=x; exact tx z k p es vs x (ih x)
    | _=>exact x.elim
   | _=>exact x.elim
theorem B6.plain {env env':Env} {h:Heap} {es:List Expr} {vs:List V} {pos:Pos} (x:B6 env h es vs):(backTo pos (starEach es env')).any (·.1) = false:=by
 refine B6.ind (M:=fun es vs=>(backTo pos (starEach es env')).any (·.1) = false) ?_ ?_ ?_ x
 ·rfl
 ·intro x p es v vs _ _ ih
  show (false || (backTo pos (starEach es env')).any (·.1)) = false
  rw [ih]; rfl
 ·intro z k p es vs _ ih
  show (false || (backTo pos (starEach es env')).any (·.1)) = false
  rw [ih]; rfl
theorem B6.run {M:Model} {A:Around} {E:Value→Shared→Prop} {env:Env} {h:Heap} {es:List Expr} {vs:List V} {pos:Pos} (hk:env.scope.kind = .function) (x:B6 env h es vs) :
  ∀ {s:Shared},s.heap = h→wpAny M A (spliced (backTo pos (starEach es env))) (fun us s'=>Vals vs us∧∃ tk,s' = { s with toks:=tk }) E s:=by
 refine B6.ind (M:=fun es vs=>∀ {s:Shared},s.heap = h→wpAny M A (spliced (backTo pos (starEach es env))) (fun us s'=>Vals vs us∧∃ tk,s' = { s with toks:=tk }) E s) ?_ ?_ ?_ x
 ·intro s hs
  exact Calls.spliced_nil ⟨.nil,s.toks,rfl⟩
 ·intro y p es v vs ⟨k1,k2,k3,c,u,k4,k5,k6⟩ _ ih s hs
  show wpAny M A (spliced ((false,eval (.Name y p) env) :: backTo pos (starEach es env))) _ _ s
  refine Calls.spliced_cons (wpAny_Name (wpAny_loadName_free hk k1 k4 (by rw [hs]; exact k5) ?_ k3) k2)
  exact thn (ih hs) fun us s' ⟨q1,q2⟩=>⟨.cons k6 q1,q2⟩
 ·intro z k p es vs _ ih s hs
  show wpAny M A (spliced ((false,eval (.Constant (.str z) k p) env) :: backTo pos (starEach es env))) _ _ s
  refine Calls.spliced_cons (wpAny_Constant_str ?_)
  exact thn (ih (s:={ s with toks:=s.toks + 1 }) hs) fun us s' ⟨q1,tk,q2⟩=>⟨.cons ⟨_,rfl⟩ q1,tk,q2⟩
theorem B6.keeps {env:Env} {h h':Heap} {es:List Expr} {vs:List V} (k:∀ b o,h.get? b = some o→h'.get? b = some o) (x:B6 env h es vs):B6 env h' es vs:=by
 refine B6.ind (M:=fun es vs=>B6 env h' es vs) ?_ ?_ ?_ x
 ·trivial
 ·intro y p es v vs ⟨k1,k2,k3,c,u,k4,⟨oc,k5,k5'⟩,k6⟩ _ ih
  exact ⟨⟨k1,k2,k3,c,u,k4,⟨oc,k _ _ k5,k5'⟩,k6⟩,ih⟩
 ·intro z k p es vs _ ih
  exact ⟨rfl,ih⟩
structure Clo (P:Program) (w:World) (K:Frag) (mg:Str→Option Value) (base:Heap) (k:Nat) (E:XK) (f:Addr) (s:Shared) (H:Hp):Prop where
 fn:FnAt f s.heap
 run:∀ (A:Around) (outer:List Env) (s1:Shared),Room k A→Env0 P w K mg base A outer s1 H→(∀ b o,s.heap.get? b = some o→s1.heap.get? b = some o)→codeAny (model P w) A (.call (.ref f) ⟨[],[]⟩) (CR (Fly P w) outer P w H s1 (fun _ _=>False) E) s1
theorem Clo.keeps {k:Nat} {E:XK} {f:Addr} {s s':Shared} {H:Hp} (x:Clo P w K mg base k E f s H) (kp:∀ b o,s.heap.get? b = some o→s'.heap.get? b = some o):Clo P w K mg base k E f s' H:=
 ⟨let ⟨a,b,c,d,e⟩:=x.fn; ⟨a,b,c,d,kp _ _ e⟩,fun A outer s1 hr e0 q=>x.run A outer s1 hr e0 fun b o e=>q b o (kp b o e)⟩
theorem N6 {k:Nat} {g:Str} {ps:List Str} {sp:Sp} {f c':Addr} {params:Arguments} {e:Expr} {es:List Expr} {cl:List (Str × Addr)} {pm ctv:Value} {gp cp:Pos} {scope:Scope} {s:Shared} {H:Hp} {vs:List V} {E:XK}
  (Dg:Def P w K mg base (Fly P w) k g ps sp) (ho:s.heap.get? f = some (N5 params (.Call (.Name g gp) (e :: es) [] cp) scope cl pm c' ctv)) (hcd:s.heap.CodeRec (.ref c') Bv)
  (hbind:bindArgs (kla_fn "<lambda>" Bv params (.Call (.Name g gp) (e :: es) [] cp) scope cl pm (.ref c') ctv) ⟨[],[]⟩ = pure []) (hk:scope.kind = .function) (hco:scope.isCoroutine = false) (hgen:scope.isGenerator = false)
  (hnc:∀ n∈scope.names,n.2 ≠ .cell) (hg:scope.names.lookup g = some .globalImplicit) (hdb:(g == ("__debug__" : Str)) = false) (hst:∀ env,starEach (e :: es) env = (false,eval e env) :: starEach es env)
  (hargs:∀ L,B6 (newEnv scope L mainGlobals cl (Bv ++ ".<locals>.") (some f) (.ref c') none builtinsNs) s.heap (e :: es) vs) (hsp:sp vs H (fun _ _=>False) E):Clo P w K mg base (k + 1) E f s H:=by
 refine ⟨⟨_,_,_,_,ho⟩,fun A outer s1 hr e0 kp=>?_⟩
 have KX:K.In s1.heap:=e0.mod.kin.keeps fun b o e=>(e0.bs b o e).1
 have lim:s1.heap.NoLimit:=e0.mod.nolimit.keeps fun b o e=>(e0.bs b o e).1
 obtain ⟨gf,gfd,gm,gk,gb,F⟩:=Dg.ex
 obtain ⟨d1,d2,d3,d4,d5,d6,d7⟩:=hcd
 refine kla_callFunE hr.depth (kp _ _ ho) rfl hco hgen rfl ⟨d1,d2,d3,d4,d5,kp _ _ d6,d7⟩ ?_
 rw [hbind]
 refine wpAny_pure (wpAny_newFunctionEnv hnc (fun b hb=>by simp at hb) (fun h1 hns hsb=>⟨?_,?_⟩) hk)
 ·exact lim.fresh _ hsb
 have k1:∀ b o,s1.heap.get? b = some o→h1.get? b = some o:=fun b o e=>hsb.extBut b o (Nat.ne_of_lt (Heap.lt_size e)) (Heap.get?_push_of_some _ e)
 have lt1:s1.heap.objs.size < h1.objs.size:=hns.lt
 refine kla_codeExpr ?_
 refine wpAny_Call_Name_kw (Calls.Name_function_global hk hg (Calls.loadGlobal_global (mg:=mg) ((e0.mod.glob.keeps fun b o e=>(e0.bs b o e).1).keeps k1) gm ?_) hdb)
 have la:=(hargs s1.heap.objs.size).keeps (h':=h1) fun b o e=>k1 b o (kp b o e)
 refine PySem.W.callWith_K (h₀:=h1) (KX.keeps k1) gk (wpAny_mono (B6.run (pos:=cp) hk la (s:={ s1 with heap:=h1,toks:=s1.toks + 0 }) rfl) (fun us s2 hq=>?_) fun _ _ z=>z) (hst _) ?_
 ·obtain ⟨rv,tk,rfl⟩:=hq
  refine ⟨KX.keeps k1,?_⟩
  have hl:us.length = ps.length:=by rw [← rv.length]; exact F.len _ _ _ _ hsp
  have e1:Env0 P w K mg base (A.deeper (newEnv scope s1.heap.objs.size mainGlobals cl (Bv ++ ".<locals>.") (some f) (.ref c') none builtinsNs)) (newEnv scope s1.heap.objs.size mainGlobals cl (Bv ++ ".<locals>.") (some f) (.ref c') none builtinsNs :: outer) { s1 with heap:=h1,toks:=tk } H:=by
   refine ⟨Around.frames_deeper e0.frames,e0.mod,fun b o e=>⟨k1 _ _ (e0.bs b o e).1,(e0.bs b o e).2⟩,Nat.le_trans e0.bsz (Nat.le_of_lt lt1),?_,fun b hb=>?_,e0.hok.kept k1,e0.bare,e0.tb⟩
   ·refine Heap.FunFrames.cons (by show scope.kind≠_; rw [hk]; decide) rfl hns ?_ (e0.funs.of_keeps fun b o e _=>⟨o,k1 _ _ e,rfl⟩)
    cases q:base.get? s1.heap.objs.size with
    | none=>rfl
    | some o=>exact absurd (Heap.lt_size (e0.bs _ _ q).1) (Nat.lt_irrefl _)
   ·rw [Fb (L:=s1.heap.objs.size) rfl] at hb
    rcases List.mem_cons.mp hb with rfl | hb
    ·exact e0.hok.fresh (Nat.le_refl _)
    ·exact e0.frf b hb
  have hb2:=gb { s1 with heap:=h1,toks:=tk } us (KX.keeps k1) (by rw [List.append_nil]; exact hl)
  rw [List.append_nil] at hb2
  refine wpAny_call (codeAny_mono (F.run _ _ _ H ⟨us,[]⟩ us vs (fun _ _=>False) E (hr.deeper _) e1 hb2 rv hsp) fun r s' hq=>?_)
  cases r with
  | error ex=>exact JQ (base:=base) (L:=s1.heap.objs.size) (s:=s1) (s1:={ s1 with heap:=h1,toks:=tk }) (Around.frames_deeper e0.frames) rfl (Nat.le_refl _) e0.funs rfl k1 hq
  | ok fl =>
   cases fl with
   | ret u=>obtain ⟨_,_,_,_,_,_,_,z⟩:=hq; exact z.elim
   | next=>exact False.elim hq
   | brk=>exact False.elim hq
   | cont=>exact False.elim hq
 ·have:=B6.plain (env':=newEnv scope s1.heap.objs.size mainGlobals cl (Bv ++ ".<locals>.") (some f) (.ref c') none builtinsNs) (pos:=cp) la
  rw [hst] at this
  have this:(false || (backTo cp (starEach es (newEnv scope s1.heap.objs.size mainGlobals cl (Bv ++ ".<locals>.") (some f) (.ref c') none builtinsNs))).any (·.1)) = false:=this
  rw [Bool.false_or] at this
  exact this
end
theorem B7.obj {P:Program} {w:World} {H:Hp} {h:Heap} {a:Addr} {o:HO} (x:B7 P w H h a o):∃ u,h.get? a = some u:=by
 cases o with
 | lst xs=>obtain ⟨_,_,_,_,e⟩:=x; exact ⟨_,e⟩
 | tup xs=>obtain ⟨_,_,_,o,e,_⟩:=x; exact ⟨_,e⟩
 | dK kvs=>obtain ⟨_,_,_,_,o,_,_,e,_⟩:=x; exact ⟨_,e⟩
 | dT kvs=>obtain ⟨_,_,_,_,o,_,_,e,_⟩:=x; exact ⟨_,e⟩
 | set S n=>obtain ⟨o,_,_,_,e,_⟩:=x; exact ⟨_,e⟩
 | ins C dx fs=>obtain ⟨_,_,_,e,_⟩:=x; exact ⟨_,e⟩
 | own y=>obtain ⟨_,e⟩:=x; exact ⟨_,e⟩
 | xd fs=>obtain ⟨_,⟨_,_,_,e,_⟩,_⟩:=x; exact ⟨_,e⟩
 | rng lo hi=>obtain ⟨_,_,_,e⟩:=x; exact ⟨_,e⟩
 | frz ob u=>obtain ⟨e,_⟩:=x; exact ⟨_,e⟩
 | tbl ps=>obtain ⟨_,e,_⟩:=x; exact ⟨_,e⟩
 | met f y=>exact ⟨_,(show h.get? a = some _ from x)⟩
 | ext φ=>obtain ⟨_,⟨_,e⟩,_⟩:=x; exact ⟨_,e⟩
theorem HOk.none {P:Program} {w:World} {H:Hp} {h:Heap} {a:Addr} (x:HOk P w H h) (e:h.get? a = Option.none):H a = Option.none:=by
 cases q:H a with
 | none=>rfl
 | some u =>
  obtain ⟨o,z⟩:=(x a u q).obj
  rw [e] at z; cases z
theorem FlyAt.untracked {P:Program} {w:World} {outer:List Env} {H H':Hp} {s s':Shared} {a C:Addr} {a0:Value} {B:Heap} (F:FlyAt P w outer H s a C a0 B H' s'):H' a = Option.none:=F.hok.none F.fly.2.1
noncomputable abbrev Cx.mk2 (X:Cx) (a:Addr) (o:Obj):Cx:={ X with A:=X.A.mark (some (.ref a)),calm:=false,H₀:=upd X.H₀ a (.frz o (.own a)),xe:=fun _ _=>False }
section
variable {X:Cx} {pins:List (Addr × Obj)} {σ:St} {H:Hp} {s:Shared} {a:Addr} {o:Obj}
theorem Inv.mk2 (I:Inv X pins σ H s) (ha:H a = some (.frz o (.own a))) (hs:X.s₀.heap.get? a = none) (hn:X.H₀ a = none):Inv (X.mk2 a o) pins σ H s:=by
 have k:=I.ok
 have ne:∀ b u,X.s₀.heap.get? b = some u→b≠a:=fun b u e z=>by rw [z,hs] at e; cases e
 have nh:∀ b u,X.H₀ b = some u→b≠a:=fun b u e z=>by rw [z,hn] at e; cases e
 refine ⟨⟨k.mod,k.kind,k.glob,k.blt,k.above,k.inj,k.has,k.cab,fun z=>absurd z Bool.false_ne_true,k.frames,k.stk,k.exf,fun b ob e=>⟨(k.bs b ob e).1,?_⟩,k.bsz,k.noex,k.exfs,k.funs,fun b hb=>?_,fun c p e=>?_⟩,
  I.os,I.bare,⟨fun b ob e n=>I.base.keep b ob e ?_,fun b ob e n=>I.base.slot b ob e ?_,fun b ob e n=>I.base.free b ob e ?_,I.base.there,fun b xs e=>?_,fun b ob u e=>?_,fun b qs e=>?_⟩,I.loc,I.cell,I.free,I.freeC,I.pin,I.hok,I.len⟩
 ·show upd X.H₀ a _ b = none
  rw [Ax (ne b ob (k.bs b ob e).1)]; exact (k.bs b ob e).2
 ·obtain ⟨_,ob,e,_⟩:=k.funs.mem hb
  show upd X.H₀ a _ b = none
  rw [Ax (ne b ob e)]; exact k.frf b hb
 ·obtain ⟨ps,e1,e2⟩:=k.tb c p e
  exact ⟨ps,by show upd X.H₀ a _ p = _; rw [Ax (nh p _ e1)]; exact e1,e2⟩
 ·have n:upd X.H₀ a _ b = none:=n
  rw [Ax (ne b ob e)] at n; exact n
 ·have n:upd X.H₀ a _ b = none:=n
  rw [Ax (ne b ob e)] at n; exact n
 ·have n:upd X.H₀ a _ b = none:=n
  rw [Ax (ne b ob e)] at n; exact n
 ·have e:upd X.H₀ a _ b = _:=e
  by_cases z:b = a
  ·rw [z,AV] at e; cases e
  ·rw [Ax z] at e; exact I.base.tups b xs e
 ·have e:upd X.H₀ a _ b = _:=e
  by_cases z:b = a
  ·rw [z,AV] at e; cases e; rw [z]; exact ha
  ·rw [Ax z] at e; exact I.base.frzs b ob u e
 ·have e:upd X.H₀ a _ b = _:=e
  by_cases z:b = a
  ·rw [z,AV] at e; cases e
  ·rw [Ax z] at e; exact I.base.tbls b qs e
theorem Inv.un2 (I:Inv (X.mk2 a o) pins σ H s) (k:X.Ok) (hs:X.s₀.heap.get? a = none) (hn:X.H₀ a = none):Inv X pins σ H s:=by
 have ne:∀ b u,X.s₀.heap.get? b = some u→b≠a:=fun b u e z=>by rw [z,hs] at e; cases e
 have nh:∀ b u,X.H₀ b = some u→b≠a:=fun b u e z=>by rw [z,hn] at e; cases e
 have u:=I.base
 refine ⟨k,I.os,I.bare,⟨fun b ob e n=>u.keep b ob e ?_,fun b ob e n=>u.slot b ob e ?_,fun b ob e n=>u.free b ob e ?_,u.there,fun b xs e=>u.tups b xs ?_,fun b ob v e=>u.frzs b ob v ?_,fun b qs e=>u.tbls b qs ?_⟩,I.loc,I.cell,I.free,I.freeC,I.pin,I.hok,I.len⟩
 ·show upd X.H₀ a _ b = none; rw [Ax (ne b ob e)]; exact n
 ·show upd X.H₀ a _ b = none; rw [Ax (ne b ob e)]; exact n
 ·show upd X.H₀ a _ b = none; rw [Ax (ne b ob e)]; exact n
 ·show upd X.H₀ a _ b = _; rw [Ax (nh b _ e)]; exact e
 ·show upd X.H₀ a _ b = _; rw [Ax (nh b _ e)]; exact e
 ·show upd X.H₀ a _ b = _; rw [Ax (nh b _ e)]; exact e
theorem Sk {vs:Array Value} (hd:o.data = .fields vs) (h2:vs[2]? = some .none):Mkd (X.mk2 a o):=⟨a,o,_,vs,rfl,AV,hd,h2⟩
end
theorem Mp {CX:CXT} {P:Program} {w:World} {K:Frag} {mg:Str→Option Value} {base:Heap} {k:Nat} {f:Addr} {name qual:Str} {params:Arguments} {body:List Stmt} {scope:Scope} {dV kV doc pm cdv ct oc:Value} {an od:Option Addr}
  {osl:Array (Option Value)} {N ps:List Str} (lk:K.lookup f = some ⟨oc,od,.func (PySem.W.fnOf name qual params body scope dV kV doc pm an cdv ct),osl⟩) (hcd:PySem.W.codeIn K cdv qual = true) (S:FnScope N ps scope)
  {A:Around} {outer:List Env} {s:Shared} {H:Hp} {args:Args} {us:List Value} {vs:List V} {Q:VK} {E:XK} (hr:Room (k + 1) A) (e0:Env0 P w K mg base A outer s H) (hb:BindsTo s (PySem.W.fnOf name qual params body scope dV kV doc pm an cdv ct) args (ps.zip us)) (r:Vals vs us) (hl:vs.length = ps.length)
  (hbody:∀ s1,Room k (A.deeper (envOfC qual scope s.heap.objs.size f cdv))→Inv (A5 CX P w K mg base N qual scope f cdv A outer s H E) [] (start N vs) H s1→(∀ b o,s.heap.get? b = some o→s1.heap.get? b = some o) →
   wpAny (model P w) (A.deeper (envOfC qual scope s.heap.objs.size f cdv)) (execs body (envOfC qual scope s.heap.objs.size f cdv)) (SP (A5 CX P w K mg base N qual scope f cdv A outer s H E) [] { nx:=fun _ H'=>Q .non H',rt:=Q }) (A5 CX P w K mg base N qual scope f cdv A outer s H E).xe s1) :
  codeAny (model P w) A (.call (.ref f) args) (CR CX outer P w H s Q E) s:=by
 have KX:K.In s.heap:=e0.mod.kin.keeps fun b o e=>(e0.bs b o e).1
 have lim:s.heap.NoLimit:=e0.mod.nolimit.keeps fun b o e=>(e0.bs b o e).1
 have hkind:∀ y∈ps.zip us,scope.names.lookup y.1 = some .local∨(scope.names.lookup y.1 = some .cell∧((cellsFrom (s.heap.objs.size + 1) scope.names []).lookup y.1).isSome = true):=fun ⟨n,v⟩ hy=>by
  rcases S.par n (List.of_mem_zip hy).1 with q | q
  ·exact .inl q
  ·exact .inr ⟨q,PySem.W.cellsFrom_some _ _ _ (.inl q)⟩
 refine codeAny_call_function hr.depth (KX _ _ lk) rfl S.co S.gen rfl (PySem.W.codeRec_of KX hcd) (hb _ _ _ _ ?_)
 refine wpAny_newFunctionEnv_cells S.kind hkind fun env he s1 x=>?_
 subst he
 refine ⟨lim.keeps x.toInCall.keep,codeAny_func ?_⟩
 have I:Inv (A5 CX P w K mg base N qual scope f cdv A outer s H E) [] (start N vs) H s1:=FD S hr.hd e0 hl r x
 refine wpAny_mono (hbody s1 (hr.deeper _) I x.toInCall.keep) (fun fl s' hs=>?_) fun e s' hs=>hs
 have fin:∀ {σ':St} {H':Hp} {v:V} {u:Value},Inv (A5 CX P w K mg base N qual scope f cdv A outer s H E) [] σ' H' s'→RelV v u→Q v H'→CE outer P w H s Q u s':=
  fun {σ' H' v u} J rv q=>⟨v,H',J.os,J.bare,J.base,J.hok,rv,q⟩
 cases fl with
 | ret u =>
  obtain ⟨v,σ',H',J,rv,q⟩:=hs
  exact fin J rv q
 | next =>
  obtain ⟨σ',H',J,q⟩:=hs
  exact fin (v:=V.non) (u:=Value.none) J rfl q
 | brk =>
  obtain ⟨_,_,_,q⟩:=hs
  exact False.elim q
 | cont =>
  obtain ⟨_,_,_,q⟩:=hs
  exact False.elim q
theorem L7 {K:Frag} {h:Heap} {C B:Addr} {n n':String} (X:K.In h) (qC:excIn K C NG n = true) (qB:excIn K B NG n' = true) (hm:mroIn K C (.ref B) = some true) (hne:C≠B):Above h C B:=by
 obtain ⟨bm',N',nm',qn',bs',hdct',sn',sub',ab',col',dd',j0,j1,j2,j3,j5,mN',hB,_,_,T'⟩:=KP X qB
 have hbase:=T'.hasType PySem.F.excBase_ValueError.hasBase
 unfold excIn at qC
 split at qC
 ·rename_i dd cd sl ho
  split at qC
  ·rename_i C' bm k0 k1 k2 k3 n k5 hmro hs
   simp only [Bool.and_eq_true,beq_iff_eq,Bool.not_eq_true'] at qC
   obtain ⟨⟨⟨⟨⟨rfl,rfl⟩,hdel⟩,ht⟩,hok⟩,hni⟩:=qC
   have hc:clsIn K C' = some cd:=by unfold clsIn; rw [ho]
   unfold mroIn at hm
   rw [hc,Option.bind_some,hmro] at hm
   have hm2:(Value.ref C' :: bm).contains (.ref B) = true:=by simpa using hm
   rw [List.contains_cons] at hm2
   have hne2:((Value.ref B:Value) == .ref C') = false:=by
    rw [Bool.eq_false_iff]
    intro z
    exact hne (Value.ref.inj (beq_iff_eq.mp z)).symm
   rw [hne2,Bool.false_or] at hm2
   obtain ⟨nm,bs,mro,ns,qn,hd,sn,sub,ab,col,del⟩:=cd
   dsimp only at hmro hdel hok hni
   subst hmro hdel
   have hsl:sl = #[k0,k1,k2,k3,some (.builtin n),k5]:=by
    obtain ⟨l⟩:=sl
    simp only at hs
    rw [hs]
   subst hsl
   exact ⟨_,_,_,_,_,_,_,_,_,_,_,_,_,_,_,_,_,_,_,_,_,_,_,_,_,_,_,_,_,_,_,_,_,_,X _ _ ho,hB,hbase,hm2⟩
  ·cases qC
 ·cases qC
end L2
end
section
namespace J
open PySem PySem.Spec PyProof.Rows L2
section
variable {P:Program} {w:World} {K:Frag} {mg:Str→Option Value} {base:Heap}
theorem FC {M:Model} {A:Around} {E:Value→Shared→Prop} {s:Shared} {env:Env} {st:Stmt} {Q:Flow→Shared→Prop} (h:wpAny M A (exec st env) Q E s):wpAny M A (execs [st] env) Q E s:=by
 refine wpAny_execs_cons (wpAny_mono h (fun fl s2 q=>?_) fun _ _ z=>z)
 cases fl with
 | next=>exact wpAny_execs_nil q
 | brk=>exact q
 | cont=>exact q
 | ret u=>exact q
theorem L0 {Φ:Fn} {a:Addr} {o:Obj} {wd:Str} (hΦ : Φ [(.lent,.opq a o)] = some (.fz (.str wd),[.opq a o])) :
  II (Aa (Ae (.str "refused")) (Aa (Ak Φ (Aa (Ab 1) Af)) Af)) [none,some (.own,.opq a o)] = some (.val (.fz (.tup [.str "refused",.str wd])),[none,some (.own,.opq a o)]):=by
 have h2:2≤LIM:=by decide
 simp [II,Aa,Ae,Ak,Ab,Af,CI,Ed,refs,hΦ,vals,mkT,fzs,back,Kt,h2]
theorem Km {k kw kc:Nat} {f C HE fv:Addr} {fd:FuncData} {st:Stmt} {wd:Str} {Φ:Fn} {k1 k2 k3 k4:Nat} {p1 p2 p3 p4 p5 p6 p7 p8 p9 p10 p11 p12 p13 p14:Pos} {A:Around} {outer:List Env} {s:Shared} {H:Hp}
  (F:Fun K "_law_answer" "_law_answer" st f fd) (S:FnScope ["_law_deed","_law_e"] ["_law_deed"] (Aq st)) (hbd:Binds K fd ["_law_deed"] [])
  (hbody:BU st = [.Try [.Return (some (.Tuple [.Constant (.str "told") k1 p1,.Call (.Name "_law_deed" p2) [] [] p3] k2 p4)) p5]
   [.ExceptHandler (some (.Name "HandError" p6)) (some "_law_e") [.Return (some (.Tuple [.Constant (.str "refused") k3 p7,.Call (.Name "_law_word" p8) [.Name "_law_e" p9] [] p10] k4 p11)) p12] p13] [] [] p14])
  (hs1:(Aq st).names.lookup ("_law_deed" : Str) = some .local) (hs2:(Aq st).names.lookup ("_law_e" : Str) = some .local) (hs3:(Aq st).names.lookup ("HandError" : Str) = some .globalImplicit) (hs4:(Aq st).names.lookup ("_law_word" : Str) = some .globalImplicit)
  (hHE:mg "HandError" = some (.ref HE)) (hab:Above base C HE) (W:DefM P w K mg base CX0 kw "_law_word" ["_law_e"] (spJ K Φ 1)) (hnp:∀ args y,Φ args = some y→args.length = 1)
  (hΦ:∀ a o,o.cls = .ref C → Φ [(.lent,.opq a o)] = some (.fz (.str wd),[.opq a o])) (hkw:kw≤k) (hkc:kc≤k) (hr:Room (k + 1) A) (e0:Env0 P w K mg base A outer s H)
  (clo:Clo P w K mg base kc (fun c _ H'=>c = .ref C∧B8 H H') fv s H) :
  codeAny (model P w) A (.call (.ref f) ⟨[.ref fv],[]⟩) (CR CX0 outer P w H s (fun v H'=>B8 H H'∧Rep H' v (.tup [.str "refused",.str wd])) E0) s:=by
 obtain ⟨oc,od,kV,doc,pm,an,cdv,ct,osl,rfl,lk,hcd⟩:=F.ex
 have KX:K.In s.heap:=e0.mod.kin.keeps fun b o e=>(e0.bs b o e).1
 have hb:=hbd s [.ref fv] KX rfl
 refine Mp (E:=E0) lk hcd S hr e0 (us:=[.ref fv]) hb (vs:=[.ref fv]) (.cons rfl .nil) rfl fun s1 hr1 I kp=>?_
 rw [hbody]
 refine FC ?_
 have I:Inv (A5 CX0 P w K mg base ["_law_deed","_law_e"] "_law_answer" (Aq st) f cdv A outer s H E0) [] [some (.ref fv),none] H s1:=I
 refine OT (X:=A5 CX0 P w K mg base ["_law_deed","_law_e"] "_law_answer" (Aq st) f cdv A outer s H E0) (σ:=[some (.ref fv),none]) (H:=H) ?_
 refine FC (wpAny_Return_some (wpAny_Tuple_spliced ?_))
 refine Calls.spliced_cons (wpAny_Constant_str (k:=k1) (pos:=p1) ?_)
 refine Calls.spliced_cons ?_
 obtain ⟨m,hn,hl⟩:=I.loc
 obtain ⟨u,ru,lku⟩:=hl 0 "_law_deed" (.ref fv) rfl rfl (.inl hs1)
 obtain rfl:u = .ref fv:=ru
 have hm:m "_law_deed" = some (.ref fv):=by
  rcases lku with ⟨_,z⟩ | ⟨z,_⟩
  ·exact z
  ·rcases z with z | z <;> (rw [show Env.kindOf (A5 CX0 P w K mg base ["_law_deed","_law_e"] "_law_answer" (Aq st) f cdv A outer s H E0).env ("_law_deed" : Str) = some .local from hs1] at z; cases z)
 refine wpAny_Call_Name_kw (wpAny_Name (wpAny_loadName_local (v:=.ref fv) S.kind hs1 hn hm ?_) (by decide))
 have clo1:=clo.keeps (s':={ s1 with toks:=s1.toks + 1 }) kp
 refine PySem.W.callWith_F0 clo1.fn ?_
 have I1:=I.tok (s1.toks + 1)
 refine wpAny_call (codeAny_mono (clo1.run _ _ _ (hr1.mono hkc) I1.env0 fun _ _ e=>e) fun r s2 hq=>?_)
 cases r with
 | ok fl =>
  cases fl with
  | ret u=>obtain ⟨_,_,_,_,_,_,_,z⟩:=hq; exact z.elim
  | next=>exact False.elim hq
  | brk=>exact False.elim hq
  | cont=>exact False.elim hq
 | error ex =>
  refine Hn (X:=A5 CX0 P w K mg base ["_law_deed","_law_e"] "_law_answer" (Aq st) f cdv A outer s H E0) (E:=fun c _ H'=>c = .ref C∧B8 H H') rfl rfl rfl rfl rfl (fun σ H1 H2 s3 s4 a C' a0 B I3 F3 I4 he=>?_) _ H _ _ _ I1 hq
  obtain ⟨hc,sm⟩:=he
  obtain rfl:C' = C:=Value.ref.inj hc
  have fresh3:s3.heap.get? a = none:=F3.fresh I3.env0
  have fresh0:s.heap.get? a = none:=by
   cases q:s.heap.get? a with
   | none=>rfl
   | some o =>
    obtain ⟨o',z⟩:=I3.base.there a o q (fun z=>absurd (show a∈([]:List Addr) from z) (by simp))
    rw [fresh3] at z; cases z
  refine JU (X:=A5 CX0 P w K mg base ["_law_deed","_law_e"] "_law_answer" (Aq st) f cdv A outer s H E0) (i:=1) (HE:=HE) S.nd rfl hs2 hs2 hs3 hHE (by decide) hab I3 F3 F3.untracked ?_
  intro oe vs s5 hcls hd h2 I5
  have I6:=I5.mk2 AV fresh0 (e0.hok.none fresh0)
  have hl6:(σ.set 1 (some (.ref a))).length = 2:=by rw [List.length_set]; exact I3.len
  have hlσ : σ.length = 2:=I3.len
  obtain ⟨x0,x1,rfl⟩:∃ x0 x1,σ = [x0,x1]:=by
   match σ,hlσ with
   | [x0,x1],_=>exact ⟨x0,x1,rfl⟩
  have je:JE ((A5 CX0 P w K mg base ["_law_deed","_law_e"] "_law_answer" (Aq st) f cdv A outer s H E0).mk2 a oe) (.Tuple [.Constant (.str "refused") k3 p7,.Call (.Name "_law_word" p8) [.Name "_law_e" p9] [] p10] k4 p11)
    (II (Aa (Ae (.str "refused")) (Aa (Ak Φ (Aa (Ab 1) Af)) Af))):=
   MC (Ac rfl (Bo (by decide)) (Ac rfl (Mz (X:=(A5 CX0 P w K mg base ["_law_deed","_law_e"] "_law_answer" (Aq st) f cdv A outer s H E0).mk2 a oe) (E:=E0) W hnp rfl rfl rfl rfl rfl (hr1.marked _) hkw (Sk hd h2) (fun _ _ _ _ _ _ _ z=>False.elim z) (by decide) hs4 rfl rfl (Ac rfl (J1 1 rfl (.inl hs2) (by decide) (by decide)) Ai)) Ai))
  have cl:=je [] s5 _ _ (fun v H'=>B8 H H'∧Rep H' v (.tup [.str "refused",.str wd])) I6 ?_
  ·refine wpAny_mono cl (fun u s6 q=>?_) fun _ _ z=>z
   obtain ⟨v,H6,I7,r7,q7⟩:=q
   exact ⟨v,_,H6,I7.un2 I3.ok fresh0 (e0.hok.none fresh0),r7,q7⟩
  ·refine ⟨[none,some (.own,.opq a oe)],fun _=>False,fun _=>[],⟨rfl,fun i st' a' e=>?_,fun _ _=>rfl,fun _=>List.nodup_nil,fun i j p z=>by simp at z,fun i p z=>by simp at z,fun p z=>?_⟩,_,_,L0 (hΦ a oe hcls),fun v H' q=>?_⟩
   ·match i,e with
    | 1,e =>
     cases e
     refine ⟨.ref a,rfl,?_⟩
     rw [AE]
     exact ⟨rfl,rfl,_,AV⟩
   ·rcases z with ⟨i,z⟩ | z
    ·simp at z
    ·exact z.elim
   ·obtain ⟨L,fp',p,rr⟩:=q
    simp only [RR] at rr
    rw [AE] at rr
    refine ⟨fun b o e=>p.kept b o ?_ (.inl fun ⟨i,z⟩=>by simp at z),Dw (fun _ z=>z.elim) rr.2⟩
    have ne:b≠a:=fun z=>by
     rw [z,e0.hok.none fresh0] at e; cases e
    rw [Ax ne]
    exact sm b o e
end
end J
end
section
namespace J
open PySem PySem.Spec PyProof.Rows L2 PySem.W
section
variable {P:Program} {w:World} {K:Frag} {mg:Str→Option Value} {base:Heap}
structure Ans (P:Program) (w:World) (K:Frag) (mg:Str→Option Value) (base:Heap) (k kc:Nat) (C:Addr) (wd:Str):Prop where
 ex:∃ fa,mg "_law_answer" = some (.ref fa)∧keepIn K (.ref fa) = true∧∀ (A:Around) (outer:List Env) (s:Shared) (H:Hp) (fv:Addr),Room k A→Env0 P w K mg base A outer s H→Clo P w K mg base kc (fun c _ H'=>c = .ref C∧B8 H H') fv s H →
  codeAny (model P w) A (.call (.ref fa) ⟨[.ref fv],[]⟩) (CR CX0 outer P w H s (fun v H'=>B8 H H'∧Rep H' v (.tup [.str "refused",.str wd])) E0) s
theorem Jx {k ka kc:Nat} {f C fv:Addr} {fd:FuncData} {st:Stmt} {wd:Str} {t:Tok} {k1 k2:Nat} {p1 p2 p3 p4 p5 p6 p7 p8:Pos} {A:Around} {outer:List Env} {s:Shared} {H:Hp}
  (F:Fun K "_law_refuses" "_law_refuses" st f fd) (S:FnScope ["_law_deed","_law_word_here"] ["_law_deed","_law_word_here"] (Aq st)) (hbd:Binds K fd ["_law_deed","_law_word_here"] [])
  (hbody:BU st = [.Return (some (.Compare (.Call (.Name "_law_answer" p1) [.Name "_law_deed" p2] [] p3) [.Eq] [.Tuple [.Constant (.str "refused") k1 p4,.Name "_law_word_here" p5] k2 p6] p7)) p8])
  (hs1:(Aq st).names.lookup ("_law_deed" : Str) = some .local) (hs2:(Aq st).names.lookup ("_law_word_here" : Str) = some .local) (hs3:(Aq st).names.lookup ("_law_answer" : Str) = some .globalImplicit)
  (An:Ans P w K mg base ka kc C wd) (hwd:wd.length≤sizeLine) (hka:ka≤k) (hr:Room (k + 1) A) (e0:Env0 P w K mg base A outer s H) (clo:Clo P w K mg base kc (fun c _ H'=>c = .ref C∧B8 H H') fv s H) :
  codeAny (model P w) A (.call (.ref f) ⟨[.ref fv,.str wd t],[]⟩) (CR CX0 outer P w H s (fun v H'=>v = .bl true∧B8 H H') E0) s:=by
 obtain ⟨oc,od,kV,doc,pm,an,cdv,ct,osl,rfl,lk,hcd⟩:=F.ex
 obtain ⟨fa,am,ak,arun⟩:=An.ex
 have KX:K.In s.heap:=e0.mod.kin.keeps fun b o e=>(e0.bs b o e).1
 have hb:=hbd s [.ref fv,.str wd t] KX rfl
 refine Mp (E:=E0) lk hcd S hr e0 (us:=[.ref fv,.str wd t]) hb (vs:=[.ref fv,.str wd]) (.cons rfl (.cons ⟨t,rfl⟩ .nil)) rfl fun s1 hr1 I kp=>?_
 rw [hbody]
 have I:Inv (A5 CX0 P w K mg base ["_law_deed","_law_word_here"] "_law_refuses" (Aq st) f cdv A outer s H E0) [] [some (.ref fv),some (.str wd)] H s1:=I
 refine FC (wpAny_Return_some (wpAny_Compare1 ?_ rfl))
 obtain ⟨m,hn,hl⟩:=I.loc
 obtain ⟨u,ru,lku⟩:=hl 0 "_law_deed" (.ref fv) rfl rfl (.inl hs1)
 obtain rfl:u = .ref fv:=ru
 have hm:m "_law_deed" = some (.ref fv):=by
  rcases lku with ⟨_,z⟩ | ⟨z,_⟩
  ·exact z
  ·rcases z with z | z <;> (rw [show Env.kindOf (A5 CX0 P w K mg base ["_law_deed","_law_word_here"] "_law_refuses" (Aq st) f cdv A outer s H E0).env ("_law_deed" : Str) = some .local from hs1] at z; cases z)
 refine wpAny_Call_Name_kw (ED (X:=A5 CX0 P w K mg base ["_law_deed","_law_word_here"] "_law_refuses" (Aq st) f cdv A outer s H E0) I hs3 am ?_ (by decide))
 refine callWith_K (h₀:=base) I.ok.mod.kin ak ?_ rfl rfl
 refine Calls.spliced_cons (wpAny_Name (wpAny_loadName_local (v:=.ref fv) S.kind hs1 hn hm ?_) (by decide))
 refine Calls.spliced_nil ⟨I.kIn,?_⟩
 refine wpAny_call (codeAny_mono (arun _ _ _ _ fv (hr1.mono hka) I.env0 (clo.keeps kp)) fun r s2 hq=>?_)
 cases r with
 | error ex=>exact False.elim hq
 | ok fl =>
  cases fl with
  | next=>exact False.elim hq
  | brk=>exact False.elim hq
  | cont=>exact False.elim hq
  | ret u =>
   obtain ⟨v,H2,I2,r2,sm,rep⟩:=I.after hq
   have je:JE (A5 CX0 P w K mg base ["_law_deed","_law_word_here"] "_law_refuses" (Aq st) f cdv A outer s H E0) (.Tuple [.Constant (.str "refused") k1 p4,.Name "_law_word_here" p5] k2 p6) (II (Aa (Ae (.str "refused")) (Aa (Ab 1) Af))):=
    MC (Ac rfl (Bo (by decide)) (Ac rfl (J1 1 rfl (.inl hs2) (by decide) (by decide)) Ai))
   have em:II (Aa (Ae (.str "refused")) (Aa (Ab 1) Af)) [none,some (.own,.fz (.str wd))] = some (.val (.fz (.tup [.str "refused",.str wd])),[none,some (.own,.fz (.str wd))]):=by
    have h2:2≤LIM:=by decide
    simp [II,Aa,Ae,Ab,Af,vals,mkT,fzs,h2]
   refine thn (je [] s2 _ H2 (fun v H'=>B8 H2 H'∧Rep H' v (.tup [.str "refused",.str wd])) I2 ?_) fun u3 s3 q3=>?_
   ·refine ⟨[none,some (.own,.fz (.str wd))],fun _=>False,fun _=>[],⟨rfl,fun i st' a' e=>?_,fun _ _=>rfl,fun _=>List.nodup_nil,fun i j p z=>by simp at z,fun i p z=>by simp at z,fun p z=>?_⟩,_,_,em,fun v H' q=>?_⟩
    ·match i,e with
     | 1,e =>
      cases e
      refine ⟨.str wd,rfl,?_⟩
      rw [AE]
      exact ⟨rfl,.str wd hwd⟩
    ·rcases z with ⟨i,z⟩ | z
     ·simp at z
     ·exact z.elim
    ·obtain ⟨L,fp',p,rr⟩:=q
     simp only [RR] at rr
     rw [AE] at rr
     exact ⟨fun b o e=>p.kept b o e (.inl fun ⟨i,z⟩=>by simp at z),Dw (fun _ z=>z.elim) rr.2⟩
   ·obtain ⟨v3,H3,I3,r3,sm3,rep3⟩:=q3
    refine thn (BD hr1 [] s3 _ H3 v v3 _ _ (fun v H'=>v = .bl true∧B8 H H') I3 r2 r3 ⟨_,_,rep.same (fun b o _ e=>sm3 b o e) (fun b xs e=>sm3 b _ e),rep3,.tup fun d hd=>?_,?_,sm.trans sm3⟩) fun u4 s4 q4=>?_
    ·rcases List.mem_cons.mp hd with rfl | hd
     ·exact .str _
     ·rcases List.mem_cons.mp hd with rfl | hd
      ·exact .str _
      ·simp at hd
    ·have:eqD (.tup [.str "refused",.str wd]) (.tup [.str "refused",.str wd]) = (("refused" : Str) == "refused" && ((wd == wd) && true)):=rfl
     rw [this,beq_self_eq_true,beq_self_eq_true]; rfl
    ·obtain ⟨v4,H4,I4,r4,q4⟩:=q4
     exact ⟨v4,_,H4,I4,r4,q4⟩
structure Rfs (P:Program) (w:World) (K:Frag) (mg:Str→Option Value) (base:Heap) (k kc:Nat) (C:Addr) (wd:Str):Prop where
 ex:∃ fa,mg "_law_refuses" = some (.ref fa)∧keepIn K (.ref fa) = true∧∀ (A:Around) (outer:List Env) (s:Shared) (H:Hp) (fv:Addr) (t:Tok),Room k A→Env0 P w K mg base A outer s H→Clo P w K mg base kc (fun c _ H'=>c = .ref C∧B8 H H') fv s H →
  codeAny (model P w) A (.call (.ref fa) ⟨[.ref fv,.str wd t],[]⟩) (CR CX0 outer P w H s (fun v H'=>v = .bl true∧B8 H H') E0) s
end
inductive LA where
 | nm (i:Nat) | tx (z:Str)
noncomputable def laE (X:Cx) (scope:Scope):List LA→List Expr→Prop
 | [],[]=>True
 | .nm i :: ls,.Name x _ :: es=>(X.N[i]? = some x∧scope.names.lookup x = some .free∧X.env.scope.names.lookup x = some .cell∧(x == ("__debug__" : Str)) = false∧(x == ("__classdict__" : Str)) = false)∧laE X scope ls es
 | .tx z :: ls,.Constant (.str z') _ _ :: es=>(z = z'∧z.length≤sizeLine)∧laE X scope ls es
 | _,_=>False
noncomputable def laD (ρ:Ro):LA→Option (Own × A)
 | .nm i=>match ρ[i]? with
  | some (some (_,.fz d))=>some (.own,.fz d)
  | _=>none
 | .tx z=>some (.own,.fz (.str z))
noncomputable def MJ (ρ:Ro):List LA→Option (List (Own × A))
 | []=>some []
 | l :: ls=>(laD ρ l).bind fun a=>(MJ ρ ls).map (a :: ·)
noncomputable def Ju (Ψ:FnR) (ls:List LA) (wd:Str):ME:=fun ρ=>(MJ ρ ls).bind fun as=>(Ψ as).bind fun y=>if y = wd then some (.val (.fz (.bl true)),ρ) else none
theorem KN {cells:List (Str × Addr)} {x:Str} {c:Addr} (hc:cells.lookup x = some c):∀ {names:List (Str × NameKind)} {cs:List (Str × Addr)},(cs.lookup x = some c∨(cs.lookup x = none∧(x,NameKind.free)∈names))→(clo cells names cs).lookup x = some c
 | [],cs,h=>by
  rcases h with h | ⟨_,h⟩
  ·exact h
  ·simp at h
 | (n,k) :: r,cs,h=>by
  simp only [clo]
  apply KN hc
  cases hk:(k == NameKind.free) with
  | true =>
   simp only [if_true,List.lookup_cons]
   cases hx:(x == n) with
   | true =>
    have:x = n:=beq_iff_eq.mp hx
    subst this
    simp only [hc,Option.getD_some]
    exact .inl trivial
   | false =>
    simp only
    rcases h with h | ⟨h1,h2⟩
    ·exact .inl h
    ·refine .inr ⟨h1,?_⟩
     rcases List.mem_cons.mp h2 with z | z
     ·cases z; simp at hx
     ·exact z
  | false =>
   simp only [Bool.false_eq_true,if_false]
   rcases h with h | ⟨h1,h2⟩
   ·exact .inl h
   ·refine .inr ⟨h1,?_⟩
    rcases List.mem_cons.mp h2 with z | z
    ·cases z; simp at hk
    ·exact z
section
variable {X:Cx} {scope:Scope} {pins:List (Addr × Obj)} {σ:L2.St} {H H2:Hp} {s:Shared} {ρ:Ro} {O:Addr→Prop} {fp:Nat→List Addr}
theorem N4 {env:Env} (I:Inv X pins σ H2 s) (sm:B8 H H2) (rl:Rel X.K ρ σ H O fp) (hes:env.scope = scope) (hcl:env.cells = clo X.env.cells scope.names []) :
  ∀ {ls:List LA} {es:List Expr} {as:List (Own × A)},laE X scope ls es→MJ ρ ls = some as→∃ vs,vs.length = as.length∧B6 env s.heap es vs∧∀ (j:Nat) st a,as[j]? = some (st,a)→∃ v d,vs[j]? = some v∧a = .fz d∧Rep H2 v d:=by
 intro ls
 induction ls with
 | nil =>
  intro es as h e
  cases es with
  | nil=>cases e; exact ⟨[],rfl,trivial,fun j st a z=>by simp at z⟩
  | cons _ _=>exact h.elim
 | cons l ls ih =>
  intro es as h e
  simp only [MJ,bind_eq_some_iff,map_eq_some_iff] at e
  obtain ⟨a1,e1,as',e2,rfl⟩:=e
  cases l with
  | nm i =>
   cases es with
   | nil=>exact h.elim
   | cons ex es =>
    cases ex with
    | Name x p =>
     obtain ⟨⟨h1,h2,h3,h4,h5⟩,h⟩:=h
     obtain ⟨vs,l1,l2,l3⟩:=ih h e2
     simp only [laD] at e1
     split at e1
     ·rename_i st d hi
      cases e1
      obtain ⟨v,hv,rep⟩:=rl.slot i st _ hi
      rw [AE] at rep
      obtain ⟨m,hn,hl⟩:=I.loc
      obtain ⟨u,ru,lk⟩:=hl i x v h1 hv (.inr (.inl h3))
      have hce:∃ c,X.env.cells.lookup x = some c∧s.heap.IsCell c (some u):=by
       rcases lk with ⟨z,_⟩ | ⟨_,z⟩
       ·rw [show X.env.kindOf x = some .cell from h3] at z; cases z
       ·exact z
      obtain ⟨c,c1,c2⟩:=hce
      refine ⟨v :: vs,by simp [l1],⟨⟨by show env.scope.names.lookup x = _; rw [hes]; exact h2,h4,h5,c,u,by rw [hcl]; exact KN c1 (.inr ⟨rfl,mem_of_lookup h2⟩),c2,ru⟩,l2⟩,fun j st' a' z=>?_⟩
      cases j with
      | zero=>cases z; exact ⟨v,d,rfl,rfl,(Dw (fun _ z=>z.elim) rep.2).same (fun b o _ e=>sm b o e) (fun b xs e=>sm b _ e)⟩
      | succ j=>exact l3 j st' a' (by simpa using z)
     ·cases e1
    | _=>exact h.elim
  | tx z =>
   cases es with
   | nil=>exact h.elim
   | cons ex es =>
    cases ex with
    | Constant c k p =>
     cases c with
     | str z' =>
      obtain ⟨⟨rfl,hz⟩,h⟩:=h
      obtain ⟨vs,l1,l2,l3⟩:=ih h e2
      cases e1
      refine ⟨.str z :: vs,by simp [l1],⟨rfl,l2⟩,fun j st' a' q=>?_⟩
      cases j with
      | zero=>cases q; exact ⟨_,_,rfl,rfl,.str z hz⟩
      | succ j=>exact l3 j st' a' (by simpa using q)
     | _=>exact h.elim
    | _=>exact h.elim
theorem Lv {P:Program} {w:World} {K:Frag} {mg:Str→Option Value} {base:Heap} {XC:Str→Addr} {kr kg j np:Nat} {g wd:Str} {ps:List Str} {Ψ:FnR} {ls:List LA} {params:Arguments} {e:Expr} {es:List Expr} {c b:Addr} {gp cp lp p kp pos:Pos} {kk:Nat}
  (hP:X.prog = P) (hw:X.w = w) (hK:X.K = K) (hm:X.mg = mg) (hb:X.base = base) (R:Rfs P w K mg base kr (kg + 1) (XC wd) wd) (Dg:Def P w K mg base (Fly P w) kg g ps (spR K XC Ψ np)) (hnp:∀ args y,Ψ args = some y→args.length = np)
  (hr:Room j X.A) (hj:kr≤j) (ht:tabIn K Bp = some (c,b)) (hh:codeHdIn K c b = true) (hcode:X.env.code = .ref c) (hg:Gl X "_law_refuses") (hq:X.env.qual ++ "<lambda>" = Bv) (hdef:defaultsOf params X.env = ([],[]))
  (hfree:(scope.names.all fun x=>!(x.2 == .free) || X.env.scope.names.lookup x.1 == some .cell) = true)
  (hbind:∀ pm c' cl ctv,bindArgs (kla_fn "<lambda>" Bv params (.Call (.Name g gp) (e :: es) [] cp) scope cl pm (.ref c') ctv) ⟨[],[]⟩ = pure []) (hk:scope.kind = .function) (hco:scope.isCoroutine = false) (hgen:scope.isGenerator = false)
  (hnc:∀ n∈scope.names,n.2 ≠ .cell) (hgg:scope.names.lookup g = some .globalImplicit) (hdb:(g == ("__debug__" : Str)) = false) (hst:∀ env,starEach (e :: es) env = (false,eval e env) :: starEach es env) (hla:laE X scope ls (e :: es)) :
  JE X (.Call (.Name "_law_refuses" p) [.Lambda params (.Call (.Name g gp) (e :: es) [] cp) scope lp,.Constant (.str wd) kk kp] [] pos) (Ju Ψ ls wd):=by
 subst hP hw hK hm hb
 intro pins s σ H Q I h
 obtain ⟨ρ,O,fp,rl,r,ρ',em,kont⟩:=h
 simp only [Ju,bind_eq_some_iff] at em
 obtain ⟨as,e1,y,e2,e3⟩:=em
 split at e3
 ·rename_i hy
  subst hy
  cases e3
  obtain ⟨fa,rm,rk,run⟩:=R.ex
  have hfr:∀ x∈scope.names,(x.2 == .free) = true→(X.env.cells.lookup x.1).isSome = true:=fun x hx hf=>by
   have:=List.all_eq_true.mp hfree x hx
   rw [hf] at this
   obtain ⟨c,hc⟩:=I.ok.has x.1 (.inl (by
    have q:(X.env.scope.names.lookup x.1 == some .cell) = true:=by simpa using this
    exact beq_iff_eq.mp q))
   rw [hc]; rfl
  refine wpAny_Call_Name_kw (ED I hg rm ?_ (by decide))
  refine callWith_K (h₀:=X.base) I.ok.mod.kin rk ?_ rfl rfl
  refine Calls.spliced_cons (MK I hcode ht hh hq hdef (HY hfr) fun f c' pm ctv h' tk H2 I2 sm ho hcd=>?_)
  refine Calls.spliced_cons (wpAny_Constant_str (k:=kk) (pos:=kp) ?_)
  refine Calls.spliced_nil ⟨I2.kIn,?_⟩
  have I3:=I2.tok (tk + 1)
  have clo:Clo X.prog X.w X.K X.mg X.base (kg + 1) (fun c _ H'=>c = .ref (XC y)∧B8 H2 H') f { s with heap:=h',toks:=tk + 1 } H2:=by
   obtain ⟨vs,l1,l2,l3⟩:=N4 (env:=newEnv scope 0 mainGlobals (clo X.env.cells scope.names []) (Bv ++ ".<locals>.") (some f) (.ref c') none builtinsNs) I3 sm rl rfl rfl hla e1
   refine N6 (s:={ s with heap:=h',toks:=tk + 1 }) Dg ho hcd (hbind _ _ _ _) hk hco hgen hnc hgg hdb hst (vs:=vs) (fun L=>?_) ?_
   ·refine B6.ind (env:=newEnv scope 0 mainGlobals (clo X.env.cells scope.names []) (Bv ++ ".<locals>.") (some f) (.ref c') none builtinsNs) (h:=h') (M:=fun es vs=>B6 (newEnv scope L mainGlobals (clo X.env.cells scope.names []) (Bv ++ ".<locals>.") (some f) (.ref c') none builtinsNs) h' es vs) trivial (fun x p es v vs a _ ih=>⟨a,ih⟩) (fun z k p es vs _ ih=>⟨rfl,ih⟩) l2
   ·refine ⟨as,fun _=>False,fun _=>[],by rw [l1]; exact hnp _ _ e2,⟨by simp [l1],fun i st a ea=>?_,fun _ _=>rfl,fun _=>List.nodup_nil,fun i j b h=>by simp at h,fun i b h=>by simp at h,fun b z=>?_⟩,y,e2,fun H' kk=>⟨rfl,fun b o e=>kk b o e (.inl fun ⟨i,z⟩=>by simp at z)⟩⟩
    ·obtain ⟨v,d,hv,rfl,rd⟩:=l3 i st a (by simpa using ea)
     refine ⟨v,by simp [hv],?_⟩
     rw [AE]
     refine ⟨rfl,Dw (fun b z=>?_) rd⟩
     rcases z with ⟨i,z⟩ | z
     ·simp at z
     ·exact z
    ·rcases z with ⟨i,z⟩ | z
     ·simp at z
     ·exact z.elim
  refine wpAny_call (codeAny_mono (run _ _ _ _ f tk (hr.mono hj) I3.env0 clo) fun r s2 hq=>?_)
  cases r with
  | error ex=>exact False.elim hq
  | ok fl =>
   cases fl with
   | next=>exact False.elim hq
   | brk=>exact False.elim hq
   | cont=>exact False.elim hq
   | ret u =>
    obtain ⟨v,H3,I4,r4,rfl,sm4⟩:=I3.after hq
    exact ⟨_,H3,I4,r4,kont _ _ (rl.post.out ⟨sm.trans sm4,[],by rw [AE]; exact ⟨rfl,.bl _⟩,List.nodup_nil,fun _ h=>by simp at h⟩)⟩
 ·cases e3
end
end J
end
section
namespace L2
open PySem PySem.Spec PyProof.Rows
section
variable {X:Cx}
theorem LO {i:Nat} {y:Str} {py spos:Pos} {own:List Str} {scope:Scope} {target iter elt:Expr} {ifs:List Expr} {pos:Pos} {wi:TI} {un:TU} {tc:TT} {te:TE} (nd:X.N.Nodup) (hiN:X.N[i]? = some y) (hy:X.env.scope.names.lookup y = some .local)
  (hc:Mkd X) (hok:BX own X.N scope X.env.scope = true) (hi:PIM X target iter wi)
  (hg:∀ C s H fp pins,PGo (cxC X own scope C s H fp pins) target own.length un) (ht:∀ C s H fp pins,PTs (cxC X own scope C s H fp pins) ifs tc) (he:∀ C s H fp pins,PE (cxC X own scope C s H fp pins) elt te)
  (hs:∀ x,foldedSetIterable iter X.env x = pure x:=by intro _; rfl)
  (hsw:swapsWith (.ListComp elt [⟨target,iter,ifs,0⟩] scope pos) (some (.Name y py)) spos.line X.env = pure true:=by rfl) :
  PS X (.Assign [.Name y py] (.ListComp elt [⟨target,iter,ifs,0⟩] scope pos) spos) (LX (tLc wi un tc te) (GC i)):=by
 intro pins s σ H D I h
 rw [exec_Assign_Name_used _ _ _ _ hsw]
 refine wpAny_bind (wpAny_standAt (wpAny_bind ?_))
 show wpAny _ X.A (do let _ ← comprehension (.ListComp elt [⟨target,iter,ifs,0⟩] scope pos) scope X.env _ (newList []) false (eval iter X.env) (some (assign (.Name y py) X.env))) _ _ s
 refine wpAny_bind (wpAny_mono (wpAny_comprehension_free (use:=some (assign (.Name y py) X.env)) (Q:=fun _ s'=>SP X pins D .next s') rfl hs (HY (BX.free hok I)) (BX.kind hok) (BX.names hok) ?_) (fun _ s' hq=>wpAny_pure (wpAny_pure hq)) fun _ _ e=>e)
 refine thn (hi pins s σ H _ I h) fun v s1 h1=>thn h1 fun itv s2 h2=>?_
 obtain ⟨it,fp,tn,J,H2,e,I2,T,st2,f2,q⟩:=h2
 subst e
 obtain ⟨W,w0,turn⟩:=q s2.heap.objs.size I2.fresh
 refine wpAny_newObj_type (hd:=by size_fits) ?_
 have I3:Inv X pins σ (upd H2 s2.heap.objs.size (.lst [])) { s2 with heap:=s2.heap.push { cls:=.type "list",data:=.seq ([]:List Value).toArray } }:=I2.lnew (its:=[]) (t':=s2.toks) .nil (Nat.zero_le _)
 have st3:tn 0 (s2.heap.push { cls:=.type "list",data:=.seq ([]:List Value).toArray }):=T.keep _ _ _ st2 fun b _ o e=>Heap.get?_push_of_some _ e
 have f3:∀ b∈fp,DN X pins (upd H2 s2.heap.objs.size (.lst [])) b:=fun b hb=>by
  obtain ⟨o,e,_⟩:=T.obj _ _ st2 b hb
  exact ⟨by rw [Ax (Nat.ne_of_lt (Heap.lt_size e))]; exact (f2 b hb).1,(f2 b hb).2⟩
 generalize hS:({ s2 with heap:=s2.heap.push { cls:=.type "list",data:=.seq ([]:List Value).toArray } }:Shared) = s3 at I3 st3
 have st3':tn 0 s3.heap:=by rw [← hS]; exact st3
 refine thn (Kn (iter:=iter) (pos:=pos) (acc:=s2.heap.objs.size) (Q:=fun x H1=>GC i x σ H1 D.nx) (R:=compPost (model X.prog X.w) X.A X.xe (some (assign (.Name y py) X.env)) (fun _ s'=>SP X pins D .next s') (.ref s2.heap.objs.size) s3.heap.objs.size) hc hok hg ht he I3 T st3' f3 W w0 turn fun s' σ' H' J' q'=>?_) fun cenv s4 ⟨el,h4⟩=>?_
 ·have I4:Inv X pins σ H' s':=El I3 f3 J' (h':=s'.heap) (.refl ..)
  obtain ⟨m,⟨oC,es,ep,hoC,hdC,hrC⟩,_⟩:=J'.loc
  have hCL:s3.heap.objs.size≠X.env.locals:=Nat.ne_of_gt I3.lt
  have hfs:s3.heap.objs.size ∉ X.fs:=I3.nofs (Nat.le_refl _)
  have hCc:∀ x c,X.env.cells.lookup x = some c→c≠s3.heap.objs.size:=fun x c e=>by
   obtain ⟨v,z⟩:=I3.cell x c e
   exact Nat.ne_of_lt z.lt
  have hCp:∀ p∈X.pn ++ pins,p.1≠s3.heap.objs.size:=fun p hp=>Nat.ne_of_lt (Heap.lt_size (I3.pin p hp).1)
  have I5:Inv X (pins ++ [(s3.heap.objs.size,oC)]) σ H' s':=I4.pins_of fun p hp=>(List.mem_append.mp hp).elim (fun z=>I4.pin p (List.mem_append_right _ z)) fun z=>by
   have z':p = (s3.heap.objs.size,oC):=by simpa using z
   subst z'
   exact ⟨hoC,J'.free,hCL,hfs,fun v=>by rw [hdC]; intro z; cases z⟩
  show wpAny _ X.A (assign (.Name y py) X.env (.ref s2.heap.objs.size)) _ _ s'
  refine wpAny_assign_Name (Ez I5 nd hiN (.inl hy) (v:=.ref s2.heap.objs.size) rfl (fun s6 I6=>?_) (.inr hy))
  have hp:=I6.pin (s3.heap.objs.size,oC) (List.mem_append_right _ (List.mem_append_right _ (by simp)))
  refine ⟨m,⟨oC,es,ep,hp.1,hdC,hrC⟩,fun h' hs'=>?_⟩
  exact ⟨_,H',I6.unpinned.turned (h':=h') (t':=s6.toks) (it:=s3.heap.objs.size) (fun b o hb e=>(hs'.2 b hb).trans e) hp.2.1 hCL (.inr I3.sz) hCc hCp,q'⟩
 ·rw [← el] at h4
  exact h4
theorem Of {k:Nat} (hr:RoomM k X.A):OpR X (compareOp .NotEq) QB:=by
 intro pins s σ H x y v u Q I rx ry h
 obtain ⟨d,e,r1,r2,hs,q⟩:=h
 exact EqBoolInt.of_rcne (Jt I.hok r1 r2 rx ry hs (by have:=hr.units; lia)) ⟨.bl _,H,I,rfl,q⟩
end
end L2
namespace J
open PySem PySem.Spec PyProof.Rows L2
section
variable {X:Cx} {a b c e:Expr} {m:ME} {mt:MT} {mi:MI} {p pos apos cpos q:Pos} {x:Str} {K:Frag}
theorem Lw (i:Nat) {y:Str} {py spos:Pos} {scope:Scope} {iter elt:Expr} {ifs:List Expr} {px:Pos} (nd:X.N.Nodup) (hiN:X.N[i]? = some y) (hy:X.env.scope.names.lookup y = some .local) (hok:BX [x] X.N scope X.env.scope = true) (hc:Mkd X) (hx:scope.names.lookup x = some .local)
  (hs:∀ z,foldedSetIterable iter X.env z = pure z) (hsw:swapsWith (.ListComp elt [⟨.Name x px,iter,ifs,0⟩] scope pos) (some (.Name y py)) spos.line X.env = pure true) (hi:JIM X (.Name x px) iter mi) (ht:JTc X [x] scope ifs mt) (he:JEc X [x] scope elt m) :
  JS X (.Assign [.Name y py] (.ListComp elt [⟨.Name x px,iter,ifs,0⟩] scope pos) spos) (AK i (BH mi 0 mt m)):=by
 have hnx:x ∉ X.N:=fun hy=>by
  simp only [BX,Bool.and_eq_true,List.all_eq_true] at hok
  have:=hok.2 x (by simp)
  simp [hy] at this
 exact Cf (LO (un:=OV) (te:=tE X.K m) nd hiN hy hc hok hi (fun C s H fp pins=>GX rfl (List.nodup_cons.mpr ⟨hnx,nd⟩) (lookup_relabel_local hx)) ht (fun C s H fp pins=>he C s H fp pins) hs hsw) fun _ _ _ h=>IG (NC h)
noncomputable def IM:List Str:=["NoHouse","NoRow","NoMachine","NoRoom","NoHand","Unlike","NoPast","TooMany","Torn","NoTable","NoSet","Falls","Whole","NoText","NoWord"]
structure XW (K:Frag) (mg:Str→Option Value) (C:Addr) (wd:Str):Prop where
 cls:ExcCls K C
 cd:(PySem.W.clsIn K C).isSome = true
 own:∀ y∈IM,∃ a,mg y = some (.ref a)∧PySem.W.kitOne K (.ref C) (.ref a) = some (y == wd)
 ve:mg "ValueError" = none∧PySem.W.kitOne K (.ref C) (.type "ValueError") = some true
theorem Cw {y wd:Str} {C:Addr} (bb:Bool) (W:XW X.K X.mg C wd) (hy:y∈IM) (hb:(y == wd) = bb) (hdb:(y == ("__debug__" : Str)) = false) (hgy:Gl X y) (hg:Gl X "isinstance") (B:Blt X.mg X.K) (he:starEach [a,.Name y q] X.env = [(false,eval a X.env),(false,eval (.Name y q) X.env)]) (he2:starEach [.Name y q] X.env = [(false,eval (.Name y q) X.env)]) (ha:JE X a m) :
  JE X (.Call (.Name "isinstance" p) [a,.Name y q] [] pos) (opM (BB C bb) (m1L m)):=by
 obtain ⟨cd,hcd⟩:=Option.isSome_iff_exists.mp W.cd
 obtain ⟨ay,h1,h2⟩:=W.own y hy
 rw [hb] at h2
 exact MB (c:=.ref ay) W.cls hcd h2 (fun u r=>r) (K4 hgy h1 rfl hdb) hg B he he2 ha
theorem PH {wd:Str} {C:Addr} (W:XW X.K X.mg C wd) (hgy:Gl X "ValueError") (hg:Gl X "isinstance") (B:Blt X.mg X.K) (he:starEach [a,.Name "ValueError" q] X.env = [(false,eval a X.env),(false,eval (.Name "ValueError" q) X.env)]) (he2:starEach [.Name "ValueError" q] X.env = [(false,eval (.Name "ValueError" q) X.env)]) (ha:JE X a m) :
  JE X (.Call (.Name "isinstance" p) [a,.Name "ValueError" q] [] pos) (opM (BB C true) (m1L m)):=by
 obtain ⟨cd,hcd⟩:=Option.isSome_iff_exists.mp W.cd
 exact MB (c:=.ty "ValueError") W.cls hcd W.ve.2 (fun u r=>r) (EF hgy W.ve.1 dK rfl dK dK) hg B he he2 ha
noncomputable def IQ (r s:MR):MR:=fun ρ=>(r ρ).or (s ρ)
theorem Gk {XC:Str→Addr} {E:XK} {ss:List Stmt} {r r2:MR} (h:JRs X XC E ss r) (h2:JRs X XC E ss r2):JRs X XC E ss (IQ r r2):=by
 intro pins s σ H D I q
 obtain ⟨ρ,O,fp,rl,x,e,k⟩:=q
 simp only [IQ] at e
 rcases Option.or_eq_some_iff.mp e with e | ⟨_,e⟩
 ·exact h pins s σ H D I ⟨ρ,O,fp,rl,x,e,k⟩
 ·exact h2 pins s σ H D I ⟨ρ,O,fp,rl,x,e,k⟩
end
end J
end
section
namespace J
open PySem PySem.Spec PyProof.Rows L2 PySem.W
section
variable {P:Program} {w:World} {K:Frag} {mg:Str→Option Value} {base:Heap}
end
section
variable {K:Frag}
end
section
variable {X:Cx} {K:Frag} {a b:Expr} {m1 m2:ME} {p2 pos:Pos} {N:Addr→Prop} {H:Hp}
noncomputable def DD:List A→Option A:=on2 fun x q2=>(Bs q2).bind fun j=>(BY x).map fun ds=>.lst ((cutD ds (some j) none).map A.fz)
theorem Jc (ha:JE X a m1) (hb:JE X b m2):JE X (.Subscript a (.Slice (some b) none none p2) pos) (opM DD (m2L m1 m2)):=by
 refine AW (Jp Lc ha (K7 hb) K6) fun σ H Q h=>?_
 have ok:OpN X.K DD (r2L fun x y H Q=>∃ j,y = .int j∧QC X.K x (some j) none H Q):=by
  intro N H xs as b Q hs e k
  replace e:=CO e
  obtain ⟨x,q2,rfl,e⟩:=e
  replace e:=bind_eq_some_iff.mp e
  obtain ⟨j,eq2,e⟩:=e
  cases Bl eq2
  clear eq2
  simp only [map_eq_some_iff] at e
  obtain ⟨ds,e1,rfl⟩:=e
  obtain ⟨x,y,L1,L2,rfl,h1,h2⟩:=BM hs
  cases Bt h2
  obtain ⟨p,vs,rfl,hp,hz,q⟩:=B3 h1 e1
  refine ⟨_,_,rfl,j,rfl,p,vs,rfl,.inl (.inl hp),fun l hl=>k _ _ (Gn hl ?_ (K9 q))⟩
  exact Nat.le_trans (Eg _ _ _) hz
 exact tE.mono (two ok h) fun x H1 h1=>tE.mono h1 fun y H2 ⟨j,e,q⟩=>⟨j,e,q⟩
end
end J
end
section
namespace J
open PySem PySem.Spec PyProof.Rows L2
section
variable {X:Cx}
end
section
variable {K:Frag} {σ:L2.St} {H:Hp}
end
section
variable {X:Cx} {p pos apos cpos npos npos2:Pos} {x y:Str}
end
end J
end
section
namespace L2
open PySem PySem.Spec PyProof.Rows
section
variable {X:Cx}
end
end L2
namespace J
open PySem PySem.Spec PyProof.Rows L2
section
variable {X:Cx} {x:Str} {pos:Pos} {m:ME}
end
end J
end
section
namespace L2
open PySem PySem.Spec PyProof.Rows
section
variable {X:Cx}
noncomputable def Ng (K:Frag):List V→Hp→VK→Prop:=fun xs H Q=>∃ p ys,xs = [.ref p]∧SqL K H p ys∧∀ l,H l = none→Q (.ref l) (upd H l (.tup ys))
theorem EO:Cg X (.type "tuple") (Ng X.K):=by
 intro pins s σ H xs us Q I r h
 obtain ⟨p,ys,rfl,hq,q⟩:=h
 obtain ⟨u,rfl,ru⟩:=r.one
 cases ru
 obtain ⟨its,rv,pl,hz⟩:=I.list hq
 have hlen:=rv.length
 refine call_tuple_list pl.isList (fun h' kk=>?_) (by simp; lia)
 have I1:Inv X pins σ H { s with heap:=h',toks:=s.toks }:=I.kept kk
 exact ⟨.ref h'.objs.size,_,I1.laid (t':=s.toks) (o:=.tup ys) (fun b o e=>Heap.get?_push_of_some _ e) (Nat.le_refl _) ⟨hz,its,rv,⟨_,Heap.get?_push_size _ rfl,rfl,_,rfl⟩⟩,rfl,q _ (I1.hok.fresh (Nat.le_refl _))⟩
end
end L2
namespace J
open PySem PySem.Spec PyProof.Rows L2
section
variable {X:Cx} {e:Expr} {es:List Expr} {m:ME} {ms:MA} {p pos:Pos} {K:Frag}
noncomputable def EK:List A→Option A:=on1 fun a=>(BY a).bind fun ds=>if ds.length≤LIM then some (.fz (.tup ds)) else none
theorem Im:OpN K EK (Ng K):=by
 intro N H xs as b Q hs e k
 replace e:=Et e
 obtain ⟨a,rfl,e⟩:=e
 simp only [bind_eq_some_iff] at e
 obtain ⟨ds,e1,e2⟩:=e
 split at e2
 ·rename_i hz
  cases e2
  obtain ⟨x,L1,rfl,h1⟩:=DL hs
  obtain ⟨p,vs,rfl,hp,hz',q⟩:=B3 h1 e1
  exact ⟨p,vs,rfl,.inl (.inl hp),fun l hl=>k _ _ (Og hl hz' q)⟩
 ·cases e2
end
end J
end
section
namespace J
open PySem PySem.Spec PyProof.Rows L2
section
variable {P:Program} {w:World} {K:Frag} {mg:Str→Option Value} {base:Heap} {XC:Str→Addr}
variable {N:List Str} {qual:Str} {scope:Scope} {f:Addr} {cd:Value} {A:Around} {outer:List Env} {s:Shared} {H:Hp} {E:XK}
theorem GI {g:Str} {k j np:Nat} {ps:List Str} {Ψ:FnR} {ms:MA} {p cpos pos:Pos} {e:Expr} {es:List Expr} (D:Def P w K mg base (Fly P w) k g ps (spR K XC Ψ np)) (hnp:∀ args y,Ψ args = some y→args.length = np) (hr:Room j (A.deeper (envOfC qual scope s.heap.objs.size f cd))) (hkj:k≤j)
  (hdb:(g == ("__debug__" : Str)) = false) (hg:Gl (A5 (Fly P w) P w K mg base N qual scope f cd A outer s H E) g)
  (he:starEach (e :: es) (A5 (Fly P w) P w K mg base N qual scope f cd A outer s H E).env = (false,eval e (A5 (Fly P w) P w K mg base N qual scope f cd A outer s H E).env) :: starEach es (A5 (Fly P w) P w K mg base N qual scope f cd A outer s H E).env)
  (hpl:(backTo cpos (starEach es (A5 (Fly P w) P w K mg base N qual scope f cd A outer s H E).env)).any (·.1) = false)
  (ha:JA (A5 (Fly P w) P w K mg base N qual scope f cd A outer s H E) (e :: es) ms) :
  JR (A5 (Fly P w) P w K mg base N qual scope f cd A outer s H E) XC E (.Return (some (.Call (.Name g p) (e :: es) [] cpos)) pos) (Cp Ψ ms):=
 Cf (Nd (Ki (X:=A5 (Fly P w) P w K mg base N qual scope f cd A outer s H E) (E:=E) D hr hkj (Jo fun _ _ _ h=>h) ha hg hdb he hpl)) fun D _ _ h=>Lh (D:=D) rfl hnp h
end
end J
namespace L2
open PySem PySem.Spec PyProof.Rows
section
variable {X:Cx}
end
end L2
namespace J
open PySem PySem.Spec PyProof.Rows L2
section
variable {K:Frag} {H:Hp} {N:Addr→Prop}
end
section
variable {X:Cx} {a b:Expr} {m m1 m2:ME} {p2 pos:Pos}
end
end J
end
section
namespace St
noncomputable def hit (f:Nat→List Int) (bs:List Int) (c:Nat):Bool:=(f c).any fun x=>decide (x∈bs)
noncomputable def fs (f:Nat→List Int):List Int→List Nat→List Nat
 | _,[]=>[]
 | bs,c :: w=>if hit f bs c then fs f (bs ++ f c) w else c :: fs f (bs ++ f c) w
noncomputable def rs (f:Nat→List Int):List Int→List Nat→List Nat
 | _,[]=>[]
 | bs,c :: w=>if hit f bs c then c :: rs f (bs ++ f c) w else rs f (bs ++ f c) w
noncomputable def srt (cs:List Nat):List Nat:=cs.mergeSort fun a b=>decide (a≤b)
variable {f:Nat→List Int}
noncomputable def pl (f:Nat→List Int):List Int→Nat→List Nat→List Nat
 | _,_,[]=>[]
 | bs,k,c :: w=>if hit f bs c then pl f (bs ++ f c) (k + 1) w else k :: pl f (bs ++ f c) (k + 1) w
end St
end
section
namespace St
variable {f:Nat→List Int}
noncomputable def lst (cs:List Nat):Nat:=(srt cs).headD 0
end St
end
section
namespace J
open PySem L2
theorem BP (ds:List D):fzs (ds.map A.fz) = some ds:=by
 induction ds with
 | nil=>rfl
 | cons d ds ih=>simp [fzs,ih]
theorem D1 (ds:List D):ers (ds.map A.fz) = some ds:=by
 induction ds with
 | nil=>simp [ers]
 | cons d ds ih=>simp [ers,er,ih]
theorem HJ (ρ:Ro):lock ρ none = ρ:=rfl
theorem JG (ρ:Ro) (n:Option Nat):unlock ρ (lock ρ n) n = ρ:=by
 cases n with
 | none=>rfl
 | some i =>
  simp only [unlock,lock]
  split
  ·rename_i s e
   apply List.ext_getElem?
   intro j
   by_cases h:j = i
   ·subst h
    have hj:j < ρ.length:=AF e
    split
    ·rw [List.getElem?_set_self (by simpa using hj),e]
    ·rw [List.getElem?_set_self hj,e]
   ·split
    ·rw [List.getElem?_set_ne (Ne.symm h),List.getElem?_set_ne (Ne.symm h)]
    ·rw [List.getElem?_set_ne (Ne.symm h)]
  ·rename_i e
   split
   ·rename_i st a e'
    rw [e] at e'; cases e'
   ·rfl
theorem Mi {c:MT} {e:ME} {f:D→D} {g:D→Bool} {ρ:Ro}:∀ {ds:List D},(∀ d∈ds,c (own d :: ρ) = some (g d,own d :: ρ))→(∀ d∈ds,g d = true→∃ r,e (own d :: ρ) = some (r,own d :: ρ)∧share (own d :: ρ) r = some (f d,own d :: ρ))→F2 0 c e ds ρ = some ((ds.filter g).map f,ρ):=by
 intro _l
 induction _l with
 | nil =>
  intro _ _
  exact rfl
 | cons d ds ih =>
  intro hc he
  have ih:=ih (fun x hx=>hc x (List.mem_cons_of_mem _ hx)) fun x hx=>he x (List.mem_cons_of_mem _ hx)
  simp only [F2,M5,Option.bind_some,List.map_cons,List.map_nil,List.cons_append,List.nil_append,hc d List.mem_cons_self]
  cases h:g d with
  | true =>
   obtain ⟨r,h1,h2⟩:=he d List.mem_cons_self h
   simp [h1,h2,ih,h]
  | false=>simp [ih,h]
theorem Gv {it:MI} {c:MT} {e:ME} {f:D→D} {g:D→Bool} {ρ ρ1:Ro} {ds:List D} {n:Option Nat} (hi:it ρ = some (ds,n,ρ1)) (hl:ds.length≤LIM) (hc:∀ d∈ds,c (own d :: lock ρ1 n) = some (g d,own d :: lock ρ1 n))
  (he:∀ d∈ds,g d = true→∃ r,e (own d :: lock ρ1 n) = some (r,own d :: lock ρ1 n)∧share (own d :: lock ρ1 n) r = some (f d,own d :: lock ρ1 n)):BH it 0 c e ρ = some (.val (.lst (((ds.filter g).map f).map A.fz)),ρ1):=by
 simp only [BH,hi,Option.bind_some,hl,if_true,Mi hc he,Option.map_some,JG]
theorem CA {it:MI} {e:ME} {f:D→D} {ρ ρ1:Ro} {ds:List D} {n:Option Nat} (hi:it ρ = some (ds,n,ρ1)) (hl:ds.length≤LIM)
  (he:∀ d∈ds,∃ r,e (own d :: lock ρ1 n) = some (r,own d :: lock ρ1 n)∧share (own d :: lock ρ1 n) r = some (f d,own d :: lock ρ1 n)):BH it 0 D9 e ρ = some (.val (.lst ((ds.map f).map A.fz)),ρ1):=by
 have:=Gv (g:=fun _=>true) (c:=D9) hi hl (fun d _=>rfl) fun d hd _=>he d hd
 rw [List.filter_eq_self.mpr (fun _ _=>rfl)] at this
 exact this
theorem IZ {is:List Nat} {one:Bool} {b:MS} (Inv:Nat→Ro→Prop):∀ {ds:List D} {i:Nat} {ρ:Ro},Inv i ρ → (∀ (j:Nat) d ρ,ds[j]? = some d→Inv (i + j) ρ → ∃ ρ1 ρ2,Hx is one d ρ = some ρ1∧(b ρ1 = some (.next ρ2)∨b ρ1 = some (.cnt ρ2))∧Inv (i + j + 1) ρ2)→∃ ρ',forL is one b ds ρ = some (.next ρ')∧Inv (i + ds.length) ρ'
 | [],i,ρ,h0,_=>⟨ρ,rfl,h0⟩
 | d :: ds,i,ρ,h0,hs=>by
  obtain ⟨ρ1,ρ2,h1,h2,h3⟩:=hs 0 d ρ rfl h0
  obtain ⟨ρ',h4,h5⟩:=IZ (ds:=ds) (i:=i + 1) (b:=b) (is:=is) (one:=one) Inv h3 fun j d ρ e hI=>by
   have:=hs (j + 1) d ρ (by simpa using e) (by rw [show i + (j + 1) = i + 1 + j by lia]; exact hI)
   rw [show i + (j + 1) + 1 = i + 1 + j + 1 by lia] at this
   exact this
  refine ⟨ρ',?_,by rw [List.length_cons,show i + (ds.length + 1) = i + 1 + ds.length by lia]; exact h5⟩
  rcases h2 with h2 | h2 <;> simp [forL,h1,h2,h4]
theorem E9 {is:List Nat} {one:Bool} {it:MI} {b:MS} {ρ ρ1:Ro} {ds:List D} {n:Option Nat} (Inv:Nat→Ro→Prop) (hi:it ρ = some (ds,n,ρ1)) (h0:Inv 0 (lock ρ1 n))
  (hs:∀ (j:Nat) d ρ,ds[j]? = some d→Inv j ρ → ∃ ρ1 ρ2,Hx is one d ρ = some ρ1∧(b ρ1 = some (.next ρ2)∨b ρ1 = some (.cnt ρ2))∧Inv (j + 1) ρ2):∃ ρ',GB is one it b ρ = some (.next (unlock ρ1 ρ' n))∧Inv ds.length ρ':=by
 obtain ⟨ρ',h1,h2⟩:=IZ (is:=is) (one:=one) (b:=b) Inv (ds:=ds) (i:=0) h0 fun j d ρ e hI=>by
  rw [Nat.zero_add] at hI ⊢
  exact hs j d ρ e hI
 refine ⟨ρ',?_,by simpa using h2⟩
 simp [GB,hi,h1,IK]
theorem D8 (lo:Int) (n:Nat):(C5 lo n).length = n:=by simp [C5]
theorem EA {lo:Int} {n j:Nat} {d:D} (h:(C5 lo n)[j]? = some d):d = .int (lo + j)∧j < n:=by
 have hj:j < n:=by have:=AF h; simpa [C5] using this
 simp only [C5,List.getElem?_map,List.getElem?_range hj,Option.map_some,Option.some.injEq] at h
 exact ⟨h.symm,hj⟩
noncomputable def iL (xs:List Int):List D:=xs.map D.int
theorem KS (xs:List Int):(iL xs).all HD = true:=by simp [iL,HD,List.all_eq_true]
theorem Mu (x:Int) (xs:List Int):inD (.int x) (iL xs) = decide (x∈xs):=by
 induction xs with
 | nil=>rfl
 | cons y ys ih =>
  have:inD (.int x) (iL (y :: ys)) = (eqD (.int y) (.int x) || inD (.int x) (iL ys)):=rfl
  rw [this,ih]
  simp only [Ea,List.mem_cons]
  by_cases h:y = x
  ·subst h; simp
  ·have h':¬ x = y:=fun z=>h z.symm
   simp [h,h']
theorem DS {α:Type} (xs:List α) (f:α → Bool):Dl (xs.map fun x=>D.bl (f x)) = some (xs.map f):=by
 induction xs with
 | nil=>rfl
 | cons x xs ih=>simp [Dl,ih]
theorem Jb (xs:List Int):Mv (iL xs) = some xs:=by
 induction xs with
 | nil=>rfl
 | cons x xs ih =>
  simp only [iL,List.map_cons,Mv] at ih ⊢
  rw [ih]; rfl
end J
namespace J
open PySem L2
@[simp] theorem A9 (xs:List Int):(iL xs).length = xs.length:=by simp [iL]
theorem PZ {d:D} {xs:List Int}:d∈iL xs↔∃ i∈xs,d = .int i:=by
 simp only [iL,List.mem_map]
 constructor
 ·rintro ⟨i,h,rfl⟩; exact ⟨i,h,rfl⟩
 ·rintro ⟨i,h,rfl⟩; exact ⟨i,h,rfl⟩
noncomputable def nD:D→Int
 | .int i=>i
 | _=>0
@[simp] theorem Sl (i:Int):nD (.int i) = i:=rfl
theorem PY {β:Type} (f:Int → β) (xs:List Int):(iL xs).map (fun d=>f (nD d)) = xs.map f:=by simp [iL]
end J
namespace J
open PySem L2
theorem Am {a b:MS} {ρ ρ1:Ro} (h:a ρ = some (.next ρ1)):AL a b ρ = b ρ1:=by simp [AL,h]
theorem Dh {a b:MS} {ρ ρ1:Ro} {v:A} (h:a ρ = some (.ret v ρ1)):AL a b ρ = some (.ret v ρ1):=by simp [AL,h]
theorem GF {c:MT} {a b:MS} {ρ ρ1:Ro} (h:c ρ = some (true,ρ1)):ifS c a b ρ = a ρ1:=by simp [ifS,h]
theorem Ek {c:MT} {a b:MS} {ρ ρ1:Ro} (h:c ρ = some (false,ρ1)):ifS c a b ρ = b ρ1:=by simp [ifS,h]
theorem BG {m:ME} {ρ ρ1:Ro} {b:Bool} (h:m ρ = some (.val (.fz (.bl b)),ρ1)):AG m ρ = some (b,ρ1):=by simp [AG,h,peek,Ee]
theorem not_of {m:MT} {ρ ρ1:Ro} {b:Bool} (h:m ρ = some (b,ρ1)):C4 m ρ = some (!b,ρ1):=by simp [C4,h]
theorem Bh {m:ME} {ρ ρ1:Ro} {a:A} (h:m ρ = some (.val a,ρ1)):retS m ρ = some (.ret a ρ1):=by simp [retS,h,move]
theorem Bn {m:ME} {ρ ρ1:Ro} {a:A} {i:Nat} (h:m ρ = some (.val a,ρ1)) (hf:free ρ1 i = true):AK i m ρ = some (.next (ρ1.set i (some (.own,a)))):=by simp [AK,h,keep,hf]
theorem Ml {m:ME} {ρ ρ1:Ro} {r:R} (h:m ρ = some (r,ρ1)):Hf m ρ = some (.next ρ1):=by simp [Hf,h]
theorem Bb {np nn:Nat} {b:MS} {args:List (Own × A)} {a:A} {ρ:Ro} (hl:args.length = np) (h:b (args.map some ++ List.replicate (nn - np) none) = some (.ret a ρ)):fnM np nn b args = some (a,(ρ.take np).map Hm):=by simp [fnM,hl,h]
end J
end
section
namespace Gk03
open PySem PySem.Spec PyProof.Rows L2 J
noncomputable def top (i:Nat):Stmt:=PySem.Challenge.pw_handsapart_k03_machines_known.main.body.getD i (.Pass ⟨0,0,0,0⟩)
noncomputable def DB:MS:=retS (andM (opM (Dz isTup) (m1L (Ab 0))) (opM eqA (m2L (opM Bq (Aa (Ab 0) Af)) (Ae (.int 2)))))
noncomputable def BC:Fn:=fnM 1 1 DB
noncomputable def E7:MS:=retS (andM (opM (Dz isInt) (m1L (Ab 0))) (notM (opM (Dz isBool) (m1L (Ab 0)))))
noncomputable def B9:Fn:=fnM 1 1 E7
noncomputable def CQ:MS:=retS (andM (Ak B9 (Aa (Ab 0) Af)) (ER leA leA (Ae (.int 2)) (Ab 0) (Ae (.int 4))))
noncomputable def Bz:Fn:=fnM 1 1 CQ
noncomputable def C7:MS:=retS (andM (Ak B9 (Aa (Ab 0) Af)) (ER leA ltA (Ae (.int 0)) (Ab 0) (Ab 1)))
noncomputable def A6:Fn:=fnM 2 2 C7
noncomputable def Br:MS:=retS (opM E2 (Aa (BH (CZ (Ab 0)) 0 D9 (Ak A6 (Aa (Ab 0) (Aa (Ab 2) Af)))) Af))
noncomputable def By:Fn:=fnM 2 2 Br
noncomputable def Az:MS:=retS (andM (opM (Dz Dt) (m1L (Ab 0))) (Ak By (Aa (Ab 0) (Aa (Ab 1) Af))))
noncomputable def Ar:Fn:=fnM 2 2 Az
noncomputable def A0:MS:=AL (ifS (C4 (AG (Ak Ar (Aa (Ab 0) (Aa (Ab 1) Af))))) (retS (Ae (.bl false))) AY) (retS (opM E2 (Aa (BH (BL (opM C0 (m2L (opM Bq (Aa (Ab 0) Af)) (Ae (.int 1))))) 0 D9 (opM ltA (m2L (opM ixA (m2L (Ab 1) (Ab 0))) (opM ixA (m2L (Ab 1) (opM AH (m2L (Ab 0) (Ae (.int 1))))))))) Af)))
noncomputable def AJ:Fn:=fnM 2 2 A0
noncomputable def C8:MS:=retS (andM (opM (Dz isStr) (m1L (Ab 0))) (andM (opM eqA (m2L (opM Bq (Aa (Ab 0) Af)) (Ae (.int 1)))) (ER leA leA (Ae (.str (Str.ofString "a"))) (Ab 0) (Ae (.str (Str.ofString "z"))))))
noncomputable def BJ:Fn:=fnM 1 1 C8
noncomputable def E5:MS:=AL (ifS (orT (C4 (AG (Ak BC (Aa (Ab 1) Af)))) (C4 (AG (Ak BJ (Aa (opM ixA (m2L (Ab 1) (Ae (.int 0)))) Af))))) (retS (Ae (.bl false))) AY) (retS (andM (Ak AJ (Aa (opM ixA (m2L (Ab 1) (Ae (.int 1)))) (Aa (Ab 0) Af))) (opM gtA (m2L (opM Bq (Aa (opM ixA (m2L (Ab 1) (Ae (.int 1)))) Af)) (Ae (.int 0))))))
noncomputable def CB:Fn:=fnM 2 2 E5
noncomputable def C6:MS:=AL (ifS (orT (C4 (AG (opM (Dz Dt) (m1L (Ab 1))))) (C4 (AG (ER leA leA (Ae (.int 1)) (opM Bq (Aa (Ab 1) Af)) (Ae (.int 6)))))) (retS (Ae (.bl false))) AY) (AL (ifS (C4 (AG (opM E2 (Aa (BH (CZ (Ab 1)) 0 D9 (Ak CB (Aa (Ab 1) (Aa (Ab 0) Af)))) Af)))) (retS (Ae (.bl false))) AY) (retS (opM E2 (Aa (BH (BL (opM C0 (m2L (opM Bq (Aa (Ab 1) Af)) (Ae (.int 1))))) 0 D9 (opM ltA (m2L (opM ixA (m2L (opM ixA (m2L (Ab 2) (Ab 0))) (Ae (.int 0)))) (opM ixA (m2L (opM ixA (m2L (Ab 2) (opM AH (m2L (Ab 0) (Ae (.int 1)))))) (Ae (.int 0))))))) Af))))
noncomputable def CM:Fn:=fnM 2 2 C6
noncomputable def E6:MS:=AL (ifS (C4 (AG (Ak BC (Aa (Ab 0) Af)))) (retS (Ae (.bl false))) AY) (retS (andM (Ak Bz (Aa (opM ixA (m2L (Ab 0) (Ae (.int 0)))) Af)) (Ak CM (Aa (opM ixA (m2L (Ab 0) (Ae (.int 0)))) (Aa (opM ixA (m2L (Ab 0) (Ae (.int 1)))) Af)))))
noncomputable def C3:Fn:=fnM 1 1 E6
noncomputable def Eh:MS:=ifS (C4 (AG (Ak C3 (Aa (Ab 0) Af)))) (Cz) AY
noncomputable def BR:Fn:=fnM 1 1 Eh
noncomputable def A1:MS:=retS (andM (Ak Ar (Aa (Ab 2) (Aa (Ab 1) Af))) (opM eqA (m2L (opM Bq (Aa (Ab 2) Af)) (Ab 0))))
noncomputable def AU:Fn:=fnM 3 3 A1
noncomputable def Bu:MS:=AL (ifS (orT (C4 (AG (opM (Dz Dt) (m1L (Ab 1))))) (C4 (AG (ER leA leA (Ae (.int 1)) (opM Bq (Aa (Ab 1) Af)) (Ae (.int 30)))))) (retS (Ae (.bl false))) AY) (retS (opM E2 (Aa (BH (CZ (Ab 1)) 0 D9 (Ak AU (Aa (Ab 1) (Aa (opM Bq (Aa (Ab 2) Af)) (Aa (Ab 0) Af))))) Af)))
noncomputable def BV:Fn:=fnM 2 2 Bu
noncomputable def Bk:MS:=AL (Hf (Ak BR (Aa (Ab 0) Af))) (AL (ifS (orT (C4 (AG (Ak BC (Aa (Ab 1) Af)))) (C4 (AG (Ak BV (Aa (opM Bq (Aa (opM ixA (m2L (Ab 0) (Ae (.int 1)))) Af)) (Aa (opM ixA (m2L (Ab 1) (Ae (.int 0)))) Af)))))) (retS (Ae (.bl false))) AY) (retS (Ak AJ (Aa (opM ixA (m2L (Ab 1) (Ae (.int 1)))) (Aa (opM Bq (Aa (opM ixA (m2L (Ab 1) (Ae (.int 0)))) Af)) Af)))))
noncomputable def AS:Fn:=fnM 2 2 Bk
noncomputable def CK:MS:=AL (ifS (AG (opM geA (m2L (opM L8 (Aa (Ab 0) Af)) (opM FW (m2L (Ae (.int 10)) (Ae (.int 18))))))) (retS (lstM (Aa (Ad (opM L8 (Aa (Ab 0) Af))) (Aa (Ad (Ae (.int 0))) Af)))) AY) (retS (lstM (Aa (Ad (opM Gd (m2L (Ab 0) (Ae (.int 2147483647))))) (Aa (Ad (Ae (.int 1))) Af))))
noncomputable def Bx:Fn:=fnM 1 1 CK
noncomputable def Cs:MS:=AL (ifS (AG (opM eqA (m2L (opM ixA (m2L (Ab 0) (Ae (.int 1)))) (Ae (.int 0))))) (AL (AK 2 (opM Gd (m2L (opM ixA (m2L (Ab 0) (Ae (.int 0)))) (Ab 1)))) (AL (Jr 0 (Ae (.int 0)) (opM IY (m2L (opM ixA (m2L (Ab 0) (Ae (.int 0)))) (Ab 1)))) (retS (Ab 2)))) AY) (AL (Jr 0 (Ae (.int 0)) (opM Gd (m2L (opM AH (m2L (opM AH (m2L (opM J9 (m2L (opM ixA (m2L (Ab 0) (Ae (.int 0)))) (Ae (.int 48271)))) (opM J9 (m2L (opM J9 (m2L (Ae (.int 7919)) (opM ixA (m2L (Ab 0) (Ae (.int 1)))))) (opM ixA (m2L (Ab 0) (Ae (.int 1)))))))) (Ae (.int 17)))) (Ae (.int 2147483647))))) (AL (Jr 0 (Ae (.int 1)) (opM AH (m2L (opM ixA (m2L (Ab 0) (Ae (.int 1)))) (Ae (.int 1))))) (retS (opM Gd (m2L (opM IY (m2L (opM Gd (m2L (opM J9 (m2L (opM ixA (m2L (Ab 0) (Ae (.int 0)))) (Ae (.int 69621)))) (Ae (.int 2147483629)))) (Ae (.int 5)))) (Ab 1))))))
noncomputable def Ag:Fn:=fnM 2 3 Cs
noncomputable def Dm:MS:=AL (AK 1 (opM AH (m2L (Ae (.int 2)) (Ak Ag (Aa (Ab 0) (Aa (Ae (.int 3)) Af)))))) (AL (AK 2 (opM AH (m2L (Ae (.int 1)) (Ak Ag (Aa (Ab 0) (Aa (Ae (.int 6)) Af)))))) (AL (AK 3 (Ak Ag (Aa (Ab 0) (Aa (Ae (.int 2)) Af)))) (AL (AK 4 (lstM Af)) (AL (AK 5 (Ae (.int 0))) (AL (GB [6] true (BL (Ab 2)) (AL (AK 5 (opM AH (m2L (Ab 5) (Ak Ag (Aa (Ab 0) (Aa (opM C0 (m2L (opM AH (m2L (opM C0 (m2L (Ae (.int 27)) (Ab 2))) (Ab 6))) (Ab 5))) Af)))))) (AL (AK 7 (opM AH (m2L (Ae (.int 1)) (Ak Ag (Aa (Ab 0) (Aa (opM C0 (m2L (opM Dv (m2L (Ae (.int 1)) (Ab 1))) (Ae (.int 1)))) Af)))))) (AL (ifS (AG (opM eqA (m2L (Ab 3) (Ae (.int 1))))) (AK 7 (opM JN (m2L (opM Dv (m2L (Ae (.int 1)) (Ak Ag (Aa (Ab 0) (Aa (Ab 1) Af))))) (opM Dv (m2L (Ae (.int 1)) (Ak Ag (Aa (Ab 0) (Aa (Ab 1) Af)))))))) AY) (AL (Dx 4 (BZ (Aa (Ad (opM ixA (m2L (Ae (.str (Str.ofString "abcdefghijklmnopqrstuvwxyz"))) (Ab 5)))) (Aa (Ad (BH (BL (Ab 1)) 0 (AG (opM eqA (m2L (opM DQ (m2L (opM EJ (m2L (Ab 8) (Ab 0))) (Ae (.int 1)))) (Ae (.int 1))))) (Ab 0))) Af)))) (AK 5 (opM AH (m2L (Ab 5) (Ae (.int 1)))))))))) (retS (BZ (Aa (Ad (Ab 1)) (Aa (Ad (Ab 4)) Af)))))))))
noncomputable def Ct:Fn:=fnM 1 8 Dm
noncomputable def CT:MS:=AL (AK 3 (opM AH (m2L (Ae (.int 1)) (Ak Ag (Aa (Ab 0) (Aa (Ab 2) Af)))))) (AL (AK 4 (lstM Af)) (AL (GB [5] true (BL (Ab 3)) (AL (AK 6 (lstM Af)) (AL (GB [7] true (CZ (opM ixA (m2L (Ab 1) (Ae (.int 1))))) (Dx 6 (Ak Ag (Aa (Ab 0) (Aa (Ab 3) Af))))) (Dx 4 (Ab 6))))) (AL (AK 8 (Ak Ag (Aa (Ab 0) (Aa (opM Dv (m2L (Ae (.int 1)) (Ab 3))) Af)))) (retS (BZ (Aa (Ad (Ab 4)) (Aa (Ad (BH (BL (Ab 3)) 0 (AG (opM eqA (m2L (opM DQ (m2L (opM EJ (m2L (Ab 9) (Ab 0))) (Ae (.int 1)))) (Ae (.int 1))))) (Ab 0))) Af)))))))
noncomputable def BW:Fn:=fnM 3 9 CT
noncomputable def B1:MS:=retS (BZ (Aa (Ad (BH (CZ (opM ixA (m2L (Ab 0) (Ae (.int 0))))) 0 D9 (opM GJ (Aa (Ab 0) Af)))) (Aa (Ad (opM GJ (Aa (opM ixA (m2L (Ab 0) (Ae (.int 1)))) Af))) Af)))
noncomputable def AA:Fn:=fnM 1 1 B1
noncomputable def Cr:MS:=AL (ifS (AG (opM ltA (m2L (Ab 1) (opM Bq (Aa (Ab 0) Af))))) (retS (opM ixA (m2L (Ab 0) (Ab 1)))) AY) (retS (Ae (.int 0)))
noncomputable def A2:Fn:=fnM 2 2 Cr
noncomputable def Co:MS:=AL (KC [2,3] (Ab 1)) (AL (AK 4 (opM ixA (m2L (lstM (Aa (Ad (Ae .non)) (Aa (Ad (Ae (.bl true))) (Aa (Ad (Ae (.int 0))) (Aa (Ad (Ae (.str (Str.ofString "")))) (Aa (Ad (lstM Af)) (Aa (Ad (BZ Af)) (Aa (Ad (opM FW (m2L (Ae (.int 10)) (Ae (.int 39))))) (Aa (Ad (opM Du (m1L (Ae (.int 1))))) (Aa (Ad (Ae (.str (Str.ofString "a")))) (Aa (Ad (lstM (Aa (Ad (Ae (.int 0))) Af))) (Aa (Ad (BZ (Aa (Ad (Ae (.int 0))) Af))) Af)))))))))))) (Ak Ag (Aa (Ab 0) (Aa (Ae (.int 11)) Af)))))) (AL (AK 5 (Ak Ag (Aa (Ab 0) (Aa (Ae (.int 10)) Af)))) (AL (AK 6 (Ak Ag (Aa (Ab 0) (Aa (opM Bq (Aa (Ab 2) Af)) Af)))) (AL (AK 7 (Ak Ag (Aa (Ab 0) (Aa (opM Bq (Aa (opM ixA (m2L (Ab 2) (Ab 6))) Af)) Af)))) (AL (AK 8 (Ak Ag (Aa (Ab 0) (Aa (Ae (.int 7)) Af)))) (AL (AK 9 (opM ixA (m2L (Ab 2) (Ab 6)))) (AL (ifS (AG (opM ltA (m2L (Ab 5) (Ae (.int 3))))) (retS (opM ixA (m2L (lstM (Aa (Ad (Ab 4)) (Aa (Ad (lstM (Aa (Ad (Ab 2)) (Aa (Ad (Ab 3)) Af)))) (Aa (Ad (BZ (Aa (Ad (Ab 2)) (Aa (Ad (Ab 3)) (Aa (Ad (Ab 4)) Af))))) Af)))) (Ab 5)))) AY) (AL (ifS (AG (opM ltA (m2L (Ab 5) (Ae (.int 6))))) (retS (opM ixA (m2L (lstM (Aa (Ad (BZ (Aa (Ad (opM EK (Aa (Ab 2) Af))) (Aa (Ad (Ab 3)) Af)))) (Aa (Ad (BZ (Aa (Ad (lstM Af)) (Aa (Ad (lstM Af)) Af)))) (Aa (Ad (BZ (Aa (Ad (BH (BL (Ae (.int 31))) 0 D9 (BH (CZ (Ab 10)) 0 D9 (Ae (.int 0))))) (Aa (Ad (lstM Af)) Af)))) Af)))) (opM C0 (m2L (Ab 5) (Ae (.int 3))))))) AY) (AL (ifS (AG (opM eqA (m2L (Ab 5) (Ae (.int 8))))) (retS (BZ (Aa (Ad (Ab 2)) (Aa (Ad (opM ixA (m2L (lstM (Aa (Ad (opM EK (Aa (Ab 3) Af))) (Aa (Ad (opM AH (m2L (Ab 3) (lstM (Aa (Ad (opM Bq (Aa (Ab 2) Af))) Af))))) (Aa (Ad (opM AH (m2L (lstM (Aa (Ad (opM Du (m1L (Ae (.int 1))))) Af)) (Ab 3)))) (Aa (Ad (lstM (Aa (Ad (Ae (.int 0))) (Aa (Ad (Ae (.int 0))) Af)))) (Aa (Ad (lstM (Aa (Ad (Ae (.bl true))) Af))) (Aa (Ad (Ae .non)) (Aa (Ad (Ae (.str (Str.ofString "0")))) Af)))))))) (Ab 8)))) Af)))) AY) (AL (ifS (AG (opM eqA (m2L (Ab 5) (Ae (.int 9))))) (retS (BZ (Aa (Ad (Ab 2)) Af))) AY) (AL (ifS (AG (opM eqA (m2L (Ab 5) (Ae (.int 6))))) (AK 9 (opM ixA (m2L (lstM (Aa (Ad (opM AH (m2L (Ab 9) (lstM (Aa (Ad (Ae (.int 0))) Af))))) (Aa (Ad (opM Cj (m2L (Ab 9) (opM Du (m1L (Ae (.int 1))))))) (Aa (Ad (opM EK (Aa (Ab 9) Af))) Af)))) (opM Gd (m2L (Ab 8) (Ae (.int 3))))))) (AK 9 (opM AH (m2L (opM AH (m2L (opM Cj (m2L (Ab 9) (Ab 7))) (lstM (Aa (Ad (opM ixA (m2L (lstM (Aa (Ad (opM Bq (Aa (Ab 2) Af))) (Aa (Ad (opM Du (m1L (Ae (.int 1))))) (Aa (Ad (Ae (.bl true))) (Aa (Ad (Ae .non)) (Aa (Ad (Ae (.str (Str.ofString "0")))) (Aa (Ad (opM FW (m2L (Ae (.int 10)) (Ae (.int 39))))) (Aa (Ad (lstM (Aa (Ad (Ae (.int 0))) Af))) Af)))))))) (Ab 8)))) Af)))) (opM DD (m2L (Ab 9) (opM AH (m2L (Ab 7) (Ae (.int 1)))))))))) (retS (BZ (Aa (Ad (opM AH (m2L (opM AH (m2L (opM Cj (m2L (Ab 2) (Ab 6))) (lstM (Aa (Ad (Ab 9)) Af)))) (opM DD (m2L (Ab 2) (opM AH (m2L (Ab 6) (Ae (.int 1))))))))) (Aa (Ad (Ab 3)) Af)))))))))))))))
noncomputable def Bg:Fn:=fnM 2 10 Co
noncomputable def AM:FnR:=fnR 2 2 (ifR (C4 (AG (Ak AS (Aa (Ab 0) (Aa (Ab 1) Af))))) (GZ "NoMachine"))
noncomputable def DX:FnR:=fnR 2 2 (Cp AM (Aa (Ab 0) (Aa (Ab 1) Af)))
noncomputable def FZ:FnR:=fnR 4 4 (Cp AM (Aa (Ab 0) (Aa (Ab 1) Af)))
noncomputable def EH:FnR:=fnR 3 3 (Cp AM (Aa (Ab 0) (Aa (Ab 1) Af)))
noncomputable def B0:FnR:=fnR 4 4 (Cp AM (Aa (Ab 0) (Aa (Ab 1) Af)))
noncomputable def Di:FnR:=fnR 2 4 (Cp AM (Aa (Ab 0) (Aa (Ab 1) Af)))
noncomputable def BI:FnR:=fnR 3 3 (IQ (ifR (AG (opM eqA (m2L (Ab 2) (Ae (.int 0))))) (Cp DX (Aa (Ab 0) (Aa (Ab 1) Af)))) (IQ (E1 (ifS (AG (opM eqA (m2L (Ab 2) (Ae (.int 0))))) (Cz) AY) (ifR (AG (opM eqA (m2L (Ab 2) (Ae (.int 1))))) (Cp FZ (Aa (Ab 0) (Aa (Ab 1) (Aa (Ae .non) (Aa (Ae (.str (Str.ofString "?"))) Af))))))) (IQ (E1 (ifS (AG (opM eqA (m2L (Ab 2) (Ae (.int 0))))) (Cz) AY) (E1 (ifS (AG (opM eqA (m2L (Ab 2) (Ae (.int 1))))) (Cz) AY) (ifR (AG (opM eqA (m2L (Ab 2) (Ae (.int 2))))) (Cp EH (Aa (Ab 0) (Aa (Ab 1) (Aa (Ae (.str (Str.ofString "?"))) Af))))))) (IQ (E1 (ifS (AG (opM eqA (m2L (Ab 2) (Ae (.int 0))))) (Cz) AY) (E1 (ifS (AG (opM eqA (m2L (Ab 2) (Ae (.int 1))))) (Cz) AY) (E1 (ifS (AG (opM eqA (m2L (Ab 2) (Ae (.int 2))))) (Cz) AY) (ifR (AG (opM eqA (m2L (Ab 2) (Ae (.int 3))))) (Cp B0 (Aa (Ab 0) (Aa (Ab 1) (Aa (Ae .non) (Aa (opM Du (m1L (Ae (.int 1)))) Af))))))))) (E1 (ifS (AG (opM eqA (m2L (Ab 2) (Ae (.int 0))))) (Cz) AY) (E1 (ifS (AG (opM eqA (m2L (Ab 2) (Ae (.int 1))))) (Cz) AY) (E1 (ifS (AG (opM eqA (m2L (Ab 2) (Ae (.int 2))))) (Cz) AY) (E1 (ifS (AG (opM eqA (m2L (Ab 2) (Ae (.int 3))))) (Cz) AY) (Cp Di (Aa (Ab 0) (Aa (Ab 1) Af)))))))))))
noncomputable def Gw (C:Addr) (j:Nat):MS:=AL (AK 1 (lstM (Aa (Ad (opM (BB C (0 == j)) (m1L (Ab 0)))) (Aa (Ad (opM (BB C (1 == j)) (m1L (Ab 0)))) (Aa (Ad (opM (BB C (2 == j)) (m1L (Ab 0)))) (Aa (Ad (opM (BB C (3 == j)) (m1L (Ab 0)))) Af)))))) (AL (AK 1 (opM AH (m2L (Ab 1) (lstM (Aa (Ad (opM (BB C (4 == j)) (m1L (Ab 0)))) (Aa (Ad (opM (BB C (5 == j)) (m1L (Ab 0)))) (Aa (Ad (opM (BB C (6 == j)) (m1L (Ab 0)))) (Aa (Ad (opM (BB C (7 == j)) (m1L (Ab 0)))) Af)))))))) (AL (AK 1 (opM AH (m2L (Ab 1) (lstM (Aa (Ad (opM (BB C (8 == j)) (m1L (Ab 0)))) (Aa (Ad (opM (BB C (9 == j)) (m1L (Ab 0)))) (Aa (Ad (opM (BB C (10 == j)) (m1L (Ab 0)))) (Aa (Ad (opM (BB C (11 == j)) (m1L (Ab 0)))) Af)))))))) (AL (AK 1 (opM AH (m2L (Ab 1) (lstM (Aa (Ad (opM (BB C (12 == j)) (m1L (Ab 0)))) (Aa (Ad (opM (BB C (13 == j)) (m1L (Ab 0)))) (Aa (Ad (opM (BB C (14 == j)) (m1L (Ab 0)))) Af))))))) (AL (AK 2 (lstM (Aa (Ad (Ae (.str (Str.ofString "NoHouse")))) (Aa (Ad (Ae (.str (Str.ofString "NoRow")))) (Aa (Ad (Ae (.str (Str.ofString "NoMachine")))) (Aa (Ad (Ae (.str (Str.ofString "NoRoom")))) (Aa (Ad (Ae (.str (Str.ofString "NoHand")))) (Aa (Ad (Ae (.str (Str.ofString "Unlike")))) (Aa (Ad (Ae (.str (Str.ofString "NoPast")))) (Aa (Ad (Ae (.str (Str.ofString "TooMany")))) (Aa (Ad (Ae (.str (Str.ofString "Torn")))) (Aa (Ad (Ae (.str (Str.ofString "NoTable")))) Af)))))))))))) (AL (AK 2 (opM AH (m2L (Ab 2) (lstM (Aa (Ad (Ae (.str (Str.ofString "NoSet")))) (Aa (Ad (Ae (.str (Str.ofString "Falls")))) (Aa (Ad (Ae (.str (Str.ofString "Whole")))) (Aa (Ad (Ae (.str (Str.ofString "NoText")))) (Aa (Ad (Ae (.str (Str.ofString "NoWord")))) Af))))))))) (AL (AK 3 (BH (BL (Ae (.int 15))) 0 (AG (opM ixA (m2L (Ab 2) (Ab 0)))) (opM ixA (m2L (Ab 3) (Ab 0))))) (AL (ifS (orT (AG (opM neA (m2L (opM Bq (Aa (Ab 3) Af)) (Ae (.int 1))))) (C4 (AG (opM (BB C true) (m1L (Ab 0)))))) (retS (Ae (.str (Str.ofString "else")))) AY) (retS (opM ixA (m2L (Ab 3) (Ae (.int 0))))))))))))
noncomputable def E8 (C:Addr) (j:Nat):Fn:=fnM 1 4 (Gw C j)
noncomputable def H0:MS:=AL (AK 1 (Ak Bx (Aa (Ak A2 (Aa (Ab 0) (Aa (Ae (.int 0)) Af))) Af))) (AL (AK 2 (Ak Ct (Aa (Ab 1) Af))) (AL (AK 1 (Ak Bx (Aa (Ak A2 (Aa (Ab 0) (Aa (Ae (.int 1)) Af))) Af))) (AL (AK 3 (Ak BW (Aa (Ab 1) (Aa (Ab 2) (Aa (opM ixA (m2L (lstM (Aa (Ad (Ae (.int 30))) (Aa (Ad (Ae (.int 8))) Af))) (opM Hh (Aa (Ae (.int 1)) (Aa (Ak Ag (Aa (Ab 1) (Aa (Ae (.int 8)) Af))) Af))))) Af))))) (AL (AK 4 (Ak AA (Aa (Ab 3) Af))) (AL (ifS (orT (AG (opM JY (m2L (Ak AS (Aa (Ab 2) (Aa (Ab 4) Af))) (Ae (.bl true))))) (AG (opM neA (m2L (Ab 4) (Ab 3))))) (retS (Ae (.bl false))) AY) (AL (GB [5] true (G3 (Ae (.int 2)) (opM N7 (Aa (Ae (.int 5)) (Aa (opM Hh (Aa (opM Bq (Aa (Ab 0) Af)) (Aa (Ae (.int 12)) Af))) Af)))) (AL (AK 1 (Ak Bx (Aa (opM AH (m2L (Ak A2 (Aa (Ab 0) (Aa (Ab 5) Af))) (Ab 5))) Af))) (AL (AK 6 (Ak Bg (Aa (Ab 1) (Aa (Ak AA (Aa (Ab 3) Af)) Af)))) (AL (AK 7 (Ak Ag (Aa (Ab 1) (Aa (Ae (.int 5)) Af)))) (AL (ifS (AG (opM JY (m2L (Ak AS (Aa (Ab 2) (Aa (Ab 6) Af))) (Ae (.bl false))))) (retS (Ae (.bl false))) AY) (ifS (C4 (AG (Ju BI [.nm 2,.nm 6,.nm 7] "NoMachine"))) (retS (Ae (.bl false))) AY)))))) (retS (opM isA (m2L (Ak AS (Aa (Ab 2) (Aa (Ak AA (Aa (Ab 3) Af)) Af))) (Ae (.bl true)))))))))))
noncomputable def GA:Fn:=fnM 1 8 H0
local macro_rules | `(tactic| walk_at $s:str)=>do
 let n:=s.getString
 if n.startsWith "v" && n.length < 4 && n != "vis" then `(tactic| exact J1 $(Lean.quote (n.drop 1).toNat!) rfl (by walk_at "vis") dK dK) else Lean.Macro.throwUnsupported
local macro_rules | `(tactic| walk_at "vis")=>`(tactic| first | exact .inl rfl | exact .inr (.inl rfl) | exact .inr (.inr rfl))
local macro_rules | `(tactic| walk_at "loc")=>`(tactic| first | exact .inl rfl | exact .inr rfl)
structure Blt2 (mg:Str→Option Value):Prop where
 sorted:mg "sorted" = none
 set:mg "set" = none
 enumerate:mg "enumerate" = none
 zip:mg "zip" = none
section
variable {P:Program} {w:World} {K:Frag} {mg:Str→Option Value} {base:Heap} {XC:Str→Addr}
theorem Kd {f:Addr} {fd:FuncData} (F:Fun K "is_pair" "is_pair" (top 3) f fd) (B:Blt mg K) (B2:Blt2 mg) :
  FnOk P w K mg base CX0 1 f fd ["thing"] (spJ K BC 1):=by
 refine Ci (N:=["thing"]) F ⟨rfl,rfl,rfl,dK,rfl,dK,dK⟩ fun cdv A outer s H E hr=>?_
 refine Ao ?_
 refine AR ?_
 refine DK ?_ ?_
 refine PD rfl rfl B rfl rfl ?_
 walk_at "v0"
 refine D5 ?_
 refine EV B5 (BD hr) (A4 _) ?_ ?_
 refine AN B4 Bd B.len Boot.«len» dK dK rfl rfl rfl ?_
 refine Ac rfl ?_ ?_
 walk_at "v0"
 exact Ai
 exact Aj
theorem Jn {f:Addr} {fd:FuncData} (F:Fun K "is_whole" "is_whole" (top 1) f fd) (B:Blt mg K) (B2:Blt2 mg) :
  FnOk P w K mg base CX0 1 f fd ["thing"] (spJ K B9 1):=by
 refine Ci (N:=["thing"]) F ⟨rfl,rfl,rfl,dK,rfl,dK,dK⟩ fun cdv A outer s H E hr=>?_
 refine Ao ?_
 refine AR ?_
 refine DK ?_ ?_
 refine PC rfl rfl B rfl rfl ?_
 walk_at "v0"
 refine D5 ?_
 refine PK ?_
 refine PB rfl rfl B rfl rfl ?_
 walk_at "v0"
theorem Es {f:Addr} {fd:FuncData} (F:Fun K "is_count_of_hands" "is_count_of_hands" (top 29) f fd) (B:Blt mg K) (B2:Blt2 mg) (CS:Def P w K mg base CX0 1 "is_whole" ["thing"] (spJ K B9 1)) (Dq:GInt mg "FEWEST_HANDS" 2) (D2:GInt mg "MOST_HANDS" 4) :
  FnOk P w K mg base CX0 2 f fd ["thing"] (spJ K Bz 1):=by
 refine Ci (N:=["thing"]) F ⟨rfl,rfl,rfl,dK,rfl,dK,dK⟩ fun cdv A outer s H E hr=>?_
 refine Ao ?_
 refine AR ?_
 refine DK ?_ ?_
 refine Av CS Au rfl rfl rfl rfl rfl hr (by decide) AX dK rfl rfl rfl ?_
 refine Ac rfl ?_ ?_
 walk_at "v0"
 exact Ai
 refine D5 ?_
 refine JZ Fo Fo De De (by with_unfolding_all rfl) ?_ ?_ ?_
 exact Gj Dq rfl dK
 walk_at "v0"
 exact Gj D2 rfl dK
theorem EY {f:Addr} {fd:FuncData} (F:Fun K "is_number_below" "is_number_below" (top 2) f fd) (B:Blt mg K) (B2:Blt2 mg) (CS:Def P w K mg base CX0 1 "is_whole" ["thing"] (spJ K B9 1)) :
  FnOk P w K mg base CX0 2 f fd ["thing","bound"] (spJ K A6 2):=by
 refine Ci (N:=["thing","bound"]) F ⟨rfl,rfl,rfl,dK,rfl,dK,dK⟩ fun cdv A outer s H E hr=>?_
 refine Ao ?_
 refine AR ?_
 refine DK ?_ ?_
 refine Av CS Au rfl rfl rfl rfl rfl hr (by decide) AX dK rfl rfl rfl ?_
 refine Ac rfl ?_ ?_
 walk_at "v0"
 exact Ai
 refine D5 ?_
 refine JZ Fo HK De EE (by with_unfolding_all rfl) ?_ ?_ ?_
 exact Aj
 walk_at "v0"
 walk_at "v1"
theorem Er {f:Addr} {fd:FuncData} (F:Fun K "are_numbers_below" "are_numbers_below" (top 5) f fd) (B:Blt mg K) (B2:Blt2 mg) (CG:Def P w K mg base CX0 2 "is_number_below" ["thing","bound"] (spJ K A6 2)) :
  FnOk P w K mg base CX0 3 f fd ["things","bound"] (spJ K By 2):=by
 refine Ci (N:=["things","bound"]) F ⟨rfl,rfl,rfl,dK,rfl,dK,dK⟩ fun cdv A outer s H E hr=>?_
 have nd2:List.Nodup (["things","bound"]:List Str):=by decide +kernel
 refine Ao ?_
 refine AR ?_
 refine AN GN (Ef rfl) B.all Boot.«all» dK dK rfl rfl rfl ?_
 refine Ac rfl ?_ ?_
 refine D4 (by rfl) rfl nd2 (by rfl) (fun _=>rfl) ?_ ?_ ?_
 refine FE ?_
 walk_at "v0"
 exact DC
 intro _ _ _ _ _
 refine Av CG Au rfl rfl rfl rfl rfl hr (by decide) AX dK rfl rfl rfl ?_
 refine Ac rfl ?_ ?_
 walk_at "v0"
 refine Ac rfl ?_ ?_
 walk_at "v2"
 exact Ai
 exact Ai
theorem Dd {f:Addr} {fd:FuncData} (F:Fun K "is_list_of_numbers_below" "is_list_of_numbers_below" (top 4) f fd) (B:Blt mg K) (B2:Blt2 mg) (Cm:Def P w K mg base CX0 3 "are_numbers_below" ["things","bound"] (spJ K By 2)) :
  FnOk P w K mg base CX0 4 f fd ["thing","bound"] (spJ K Ar 2):=by
 refine Ci (N:=["thing","bound"]) F ⟨rfl,rfl,rfl,dK,rfl,dK,dK⟩ fun cdv A outer s H E hr=>?_
 refine Ao ?_
 refine AR ?_
 refine DK ?_ ?_
 refine J0 rfl rfl B rfl rfl ?_
 walk_at "v0"
 refine D5 ?_
 refine Av Cm Au rfl rfl rfl rfl rfl hr (by decide) AX dK rfl rfl rfl ?_
 refine Ac rfl ?_ ?_
 walk_at "v0"
 refine Ac rfl ?_ ?_
 walk_at "v1"
 exact Ai
theorem DW {f:Addr} {fd:FuncData} (F:Fun K "is_rising_list_below" "is_rising_list_below" (top 6) f fd) (B:Blt mg K) (B2:Blt2 mg) (AO:Def P w K mg base CX0 4 "is_list_of_numbers_below" ["thing","bound"] (spJ K Ar 2)) :
  FnOk P w K mg base CX0 5 f fd ["thing","bound"] (spJ K AJ 2):=by
 refine Ci (N:=["thing","bound"]) F ⟨rfl,rfl,rfl,dK,rfl,dK,dK⟩ fun cdv A outer s H E hr=>?_
 have nd2:List.Nodup (["thing","bound"]:List Str):=by decide +kernel
 refine Al ?_ ?_
 refine BK ?_ ?_ ?_
 refine Cy ?_
 refine CN (fun _=>rfl) ?_
 refine Av AO Au rfl rfl rfl rfl rfl hr (by decide) AX dK rfl rfl rfl ?_
 refine Ac rfl ?_ ?_
 walk_at "v0"
 refine Ac rfl ?_ ?_
 walk_at "v1"
 exact Ai
 refine Ao ?_
 refine AR ?_
 exact C9
 exact AZ
 refine Ao ?_
 refine AR ?_
 refine AN GN (Ef rfl) B.all Boot.«all» dK dK rfl rfl rfl ?_
 refine Ac rfl ?_ ?_
 refine D4 (by rfl) rfl nd2 (by rfl) (fun _=>rfl) ?_ ?_ ?_
 refine D6 rfl B.range rfl ?_
 refine AB FP FT ?_ ?_
 refine AN B4 Bd B.len Boot.«len» dK dK rfl rfl rfl ?_
 refine Ac rfl ?_ ?_
 walk_at "v0"
 exact Ai
 exact Aj
 exact DC
 intro _ _ _ _ _
 refine EV HK EE (A4 _) ?_ ?_
 refine Bi Bj AQ (fun _ _=>rfl) ?_ ?_
 walk_at "v1"
 walk_at "v0"
 refine Bi Bj AQ (fun _ _=>rfl) ?_ ?_
 walk_at "v1"
 refine AB BA Bc ?_ ?_
 walk_at "v0"
 exact Aj
 exact Ai
theorem EZ {f:Addr} {fd:FuncData} (F:Fun K "is_small_letter" "is_small_letter" (top 32) f fd) (B:Blt mg K) (B2:Blt2 mg) :
  FnOk P w K mg base CX0 1 f fd ["thing"] (spJ K BJ 1):=by
 refine Ci (N:=["thing"]) F ⟨rfl,rfl,rfl,dK,rfl,dK,dK⟩ fun cdv A outer s H E hr=>?_
 refine Ao ?_
 refine AR ?_
 refine DK ?_ ?_
 refine PF rfl rfl B rfl rfl ?_
 walk_at "v0"
 refine DK ?_ ?_
 refine EV B5 (BD hr) (A4 _) ?_ ?_
 refine AN B4 Bd B.len Boot.«len» dK dK rfl rfl rfl ?_
 refine Ac rfl ?_ ?_
 walk_at "v0"
 exact Ai
 exact Aj
 refine D5 ?_
 refine JZ Fo Fo De De (by with_unfolding_all rfl) ?_ ?_ ?_
 exact Bo dK
 walk_at "v0"
 exact Bo dK
theorem Jl {f:Addr} {fd:FuncData} (F:Fun K "is_entry" "is_entry" (top 31) f fd) (B:Blt mg K) (B2:Blt2 mg) (A7:Def P w K mg base CX0 5 "is_rising_list_below" ["thing","bound"] (spJ K AJ 2)) (Cd:Def P w K mg base CX0 1 "is_pair" ["thing"] (spJ K BC 1)) (CH:Def P w K mg base CX0 1 "is_small_letter" ["thing"] (spJ K BJ 1)) :
  FnOk P w K mg base CX0 6 f fd ["hands","thing"] (spJ K CB 2):=by
 refine Ci (N:=["hands","thing"]) F ⟨rfl,rfl,rfl,dK,rfl,dK,dK⟩ fun cdv A outer s H E hr=>?_
 refine Al ?_ ?_
 refine BK ?_ ?_ ?_
 refine EC ?_
 refine HH ?_ ?_
 refine Cy ?_
 refine CN (fun _=>rfl) ?_
 refine Av Cd Au rfl rfl rfl rfl rfl hr (by decide) AX dK rfl rfl rfl ?_
 refine Ac rfl ?_ ?_
 walk_at "v1"
 exact Ai
 refine FF ?_
 refine Cy ?_
 refine CN (fun _=>rfl) ?_
 refine Av CH Au rfl rfl rfl rfl rfl hr (by decide) AX dK rfl rfl rfl ?_
 refine Ac rfl ?_ ?_
 refine Bi Bj AQ (fun _ _=>rfl) ?_ ?_
 walk_at "v1"
 exact Aj
 exact Ai
 refine Ao ?_
 refine AR ?_
 exact C9
 exact AZ
 refine Ao ?_
 refine AR ?_
 refine DK ?_ ?_
 refine Av A7 Au rfl rfl rfl rfl rfl hr (by decide) AX dK rfl rfl rfl ?_
 refine Ac rfl ?_ ?_
 refine Bi Bj AQ (fun _ _=>rfl) ?_ ?_
 walk_at "v1"
 exact Aj
 refine Ac rfl ?_ ?_
 walk_at "v0"
 exact Ai
 refine D5 ?_
 refine EV Rv Ry (A4 _) ?_ ?_
 refine AN B4 Bd B.len Boot.«len» dK dK rfl rfl rfl ?_
 refine Ac rfl ?_ ?_
 refine Bi Bj AQ (fun _ _=>rfl) ?_ ?_
 walk_at "v1"
 exact Aj
 exact Ai
 exact Aj
theorem GO {f:Addr} {fd:FuncData} (F:Fun K "are_entries" "are_entries" (top 30) f fd) (B:Blt mg K) (B2:Blt2 mg) (EM:Def P w K mg base CX0 6 "is_entry" ["hands","thing"] (spJ K CB 2)) (Dr:GInt mg "MOST_LETTERS" 6) :
  FnOk P w K mg base CX0 7 f fd ["hands","thing"] (spJ K CM 2):=by
 refine Ci (N:=["hands","thing"]) F ⟨rfl,rfl,rfl,dK,rfl,dK,dK⟩ fun cdv A outer s H E hr=>?_
 have nd2:List.Nodup (["hands","thing"]:List Str):=by decide +kernel
 refine Al ?_ ?_
 refine BK ?_ ?_ ?_
 refine EC ?_
 refine HH ?_ ?_
 refine Cy ?_
 refine CN (fun _=>rfl) ?_
 refine J0 rfl rfl B rfl rfl ?_
 walk_at "v1"
 refine FF ?_
 refine Cy ?_
 refine MG Fo Fo De De (by with_unfolding_all rfl) ?_ ?_ ?_
 exact Aj
 refine AN B4 Bd B.len Boot.«len» dK dK rfl rfl rfl ?_
 refine Ac rfl ?_ ?_
 walk_at "v1"
 exact Ai
 exact Gj Dr rfl dK
 refine Ao ?_
 refine AR ?_
 exact C9
 exact AZ
 refine Al ?_ ?_
 refine BK ?_ ?_ ?_
 refine Cy ?_
 refine CN (fun _=>rfl) ?_
 refine AN GN (Ef rfl) B.all Boot.«all» dK dK rfl rfl rfl ?_
 refine Ac rfl ?_ ?_
 refine D4 (by rfl) rfl nd2 (by rfl) (fun _=>rfl) ?_ ?_ ?_
 refine FE ?_
 walk_at "v1"
 exact DC
 intro _ _ _ _ _
 refine Av EM Au rfl rfl rfl rfl rfl hr (by decide) AX dK rfl rfl rfl ?_
 refine Ac rfl ?_ ?_
 walk_at "v1"
 refine Ac rfl ?_ ?_
 walk_at "v0"
 exact Ai
 exact Ai
 refine Ao ?_
 refine AR ?_
 exact C9
 exact AZ
 refine Ao ?_
 refine AR ?_
 refine AN GN (Ef rfl) B.all Boot.«all» dK dK rfl rfl rfl ?_
 refine Ac rfl ?_ ?_
 refine D4 (by rfl) rfl nd2 (by rfl) (fun _=>rfl) ?_ ?_ ?_
 refine D6 rfl B.range rfl ?_
 refine AB FP FT ?_ ?_
 refine AN B4 Bd B.len Boot.«len» dK dK rfl rfl rfl ?_
 refine Ac rfl ?_ ?_
 walk_at "v1"
 exact Ai
 exact Aj
 exact DC
 intro _ _ _ _ _
 refine EV HK EE (A4 _) ?_ ?_
 refine Bi Bj AQ (fun _ _=>rfl) ?_ ?_
 refine Bi Bj AQ (fun _ _=>rfl) ?_ ?_
 walk_at "v2"
 walk_at "v0"
 exact Aj
 refine Bi Bj AQ (fun _ _=>rfl) ?_ ?_
 refine Bi Bj AQ (fun _ _=>rfl) ?_ ?_
 walk_at "v2"
 refine AB BA Bc ?_ ?_
 walk_at "v0"
 exact Aj
 exact Aj
 exact Ai
theorem Jm {f:Addr} {fd:FuncData} (F:Fun K "is_house" "is_house" (top 28) f fd) (B:Blt mg K) (B2:Blt2 mg) (Cd:Def P w K mg base CX0 1 "is_pair" ["thing"] (spJ K BC 1)) (Cn:Def P w K mg base CX0 2 "is_count_of_hands" ["thing"] (spJ K Bz 1)) (DJ:Def P w K mg base CX0 7 "are_entries" ["hands","thing"] (spJ K CM 2)) :
  FnOk P w K mg base CX0 8 f fd ["thing"] (spJ K C3 1):=by
 refine Ci (N:=["thing"]) F ⟨rfl,rfl,rfl,dK,rfl,dK,dK⟩ fun cdv A outer s H E hr=>?_
 refine Al ?_ ?_
 refine BK ?_ ?_ ?_
 refine Cy ?_
 refine CN (fun _=>rfl) ?_
 refine Av Cd Au rfl rfl rfl rfl rfl hr (by decide) AX dK rfl rfl rfl ?_
 refine Ac rfl ?_ ?_
 walk_at "v0"
 exact Ai
 refine Ao ?_
 refine AR ?_
 exact C9
 exact AZ
 refine Ao ?_
 refine AR ?_
 refine DK ?_ ?_
 refine Av Cn Au rfl rfl rfl rfl rfl hr (by decide) AX dK rfl rfl rfl ?_
 refine Ac rfl ?_ ?_
 refine Bi Bj AQ (fun _ _=>rfl) ?_ ?_
 walk_at "v0"
 exact Aj
 exact Ai
 refine D5 ?_
 refine Av DJ Au rfl rfl rfl rfl rfl hr (by decide) AX dK rfl rfl rfl ?_
 refine Ac rfl ?_ ?_
 refine Bi Bj AQ (fun _ _=>rfl) ?_ ?_
 walk_at "v0"
 exact Aj
 refine Ac rfl ?_ ?_
 refine Bi Bj AQ (fun _ _=>rfl) ?_ ?_
 walk_at "v0"
 exact Aj
 exact Ai
theorem Hl {f:Addr} {fd:FuncData} (F:Fun K "need_house" "need_house" (top 33) f fd) (B:Blt mg K) (B2:Blt2 mg) (EN:Def P w K mg base CX0 8 "is_house" ["thing"] (spJ K C3 1)) :
  FnOk P w K mg base CX0 9 f fd ["house"] (spJ K BR 1):=by
 refine Ci (N:=["house"]) F ⟨rfl,rfl,rfl,dK,rfl,dK,dK⟩ fun cdv A outer s H E hr=>?_
 refine Ao ?_
 refine BK ?_ ?_ ?_
 refine Cy ?_
 refine CN (fun _=>rfl) ?_
 refine Av EN Au rfl rfl rfl rfl rfl hr (by decide) AX dK rfl rfl rfl ?_
 refine Ac rfl ?_ ?_
 walk_at "v0"
 exact Ai
 refine Ao ?_
 exact Ca
 exact AZ
theorem Ep {f:Addr} {fd:FuncData} (F:Fun K "are_moves_of_room" "are_moves_of_room" (top 42) f fd) (B:Blt mg K) (B2:Blt2 mg) (AO:Def P w K mg base CX0 4 "is_list_of_numbers_below" ["thing","bound"] (spJ K Ar 2)) :
  FnOk P w K mg base CX0 5 f fd ["letter_count","room_count","thing"] (spJ K AU 3):=by
 refine Ci (N:=["letter_count","room_count","thing"]) F ⟨rfl,rfl,rfl,dK,rfl,dK,dK⟩ fun cdv A outer s H E hr=>?_
 refine Ao ?_
 refine AR ?_
 refine DK ?_ ?_
 refine Av AO Au rfl rfl rfl rfl rfl hr (by decide) AX dK rfl rfl rfl ?_
 refine Ac rfl ?_ ?_
 walk_at "v2"
 refine Ac rfl ?_ ?_
 walk_at "v1"
 exact Ai
 refine D5 ?_
 refine EV B5 (BD hr) (A4 _) ?_ ?_
 refine AN B4 Bd B.len Boot.«len» dK dK rfl rfl rfl ?_
 refine Ac rfl ?_ ?_
 walk_at "v2"
 exact Ai
 walk_at "v0"
theorem Ij {f:Addr} {fd:FuncData} (F:Fun K "are_moves" "are_moves" (top 41) f fd) (B:Blt mg K) (B2:Blt2 mg) (Ck:Def P w K mg base CX0 5 "are_moves_of_room" ["letter_count","room_count","thing"] (spJ K AU 3)) (D3:GInt mg "MOST_ROOMS" 30) :
  FnOk P w K mg base CX0 6 f fd ["letter_count","thing"] (spJ K BV 2):=by
 refine Ci (N:=["letter_count","thing"]) F ⟨rfl,rfl,rfl,dK,rfl,dK,dK⟩ fun cdv A outer s H E hr=>?_
 have nd2:List.Nodup (["letter_count","thing"]:List Str):=by decide +kernel
 refine Al ?_ ?_
 refine BK ?_ ?_ ?_
 refine EC ?_
 refine HH ?_ ?_
 refine Cy ?_
 refine CN (fun _=>rfl) ?_
 refine J0 rfl rfl B rfl rfl ?_
 walk_at "v1"
 refine FF ?_
 refine Cy ?_
 refine MG Fo Fo De De (by with_unfolding_all rfl) ?_ ?_ ?_
 exact Aj
 refine AN B4 Bd B.len Boot.«len» dK dK rfl rfl rfl ?_
 refine Ac rfl ?_ ?_
 walk_at "v1"
 exact Ai
 exact Gj D3 rfl dK
 refine Ao ?_
 refine AR ?_
 exact C9
 exact AZ
 refine Ao ?_
 refine AR ?_
 refine AN GN (Ef rfl) B.all Boot.«all» dK dK rfl rfl rfl ?_
 refine Ac rfl ?_ ?_
 refine D4 (by rfl) rfl nd2 (by rfl) (fun _=>rfl) ?_ ?_ ?_
 refine FE ?_
 walk_at "v1"
 exact DC
 intro _ _ _ _ _
 refine Av Ck Au rfl rfl rfl rfl rfl hr (by decide) AX dK rfl rfl rfl ?_
 refine Ac rfl ?_ ?_
 walk_at "v1"
 refine Ac rfl ?_ ?_
 refine AN B4 Bd B.len Boot.«len» dK dK rfl rfl rfl ?_
 refine Ac rfl ?_ ?_
 walk_at "v2"
 exact Ai
 refine Ac rfl ?_ ?_
 walk_at "v0"
 exact Ai
 exact Ai
theorem Hk {f:Addr} {fd:FuncData} (F:Fun K "is_machine" "is_machine" (top 40) f fd) (B:Blt mg K) (B2:Blt2 mg) (DZ:Def P w K mg base CX0 9 "need_house" ["house"] (spJ K BR 1)) (A7:Def P w K mg base CX0 5 "is_rising_list_below" ["thing","bound"] (spJ K AJ 2)) (Cd:Def P w K mg base CX0 1 "is_pair" ["thing"] (spJ K BC 1)) (Ec:Def P w K mg base CX0 6 "are_moves" ["letter_count","thing"] (spJ K BV 2)) :
  FnOk P w K mg base CX0 10 f fd ["house","thing"] (spJ K AS 2):=by
 refine Ci (N:=["house","thing"]) F ⟨rfl,rfl,rfl,dK,rfl,dK,dK⟩ fun cdv A outer s H E hr=>?_
 refine Al ?_ ?_
 refine PL rfl ?_
 refine Av DZ Au rfl rfl rfl rfl rfl hr (by decide) AX dK rfl rfl rfl ?_
 refine Ac rfl ?_ ?_
 walk_at "v0"
 exact Ai
 refine Al ?_ ?_
 refine BK ?_ ?_ ?_
 refine EC ?_
 refine HH ?_ ?_
 refine Cy ?_
 refine CN (fun _=>rfl) ?_
 refine Av Cd Au rfl rfl rfl rfl rfl hr (by decide) AX dK rfl rfl rfl ?_
 refine Ac rfl ?_ ?_
 walk_at "v1"
 exact Ai
 refine FF ?_
 refine Cy ?_
 refine CN (fun _=>rfl) ?_
 refine Av Ec Au rfl rfl rfl rfl rfl hr (by decide) AX dK rfl rfl rfl ?_
 refine Ac rfl ?_ ?_
 refine AN B4 Bd B.len Boot.«len» dK dK rfl rfl rfl ?_
 refine Ac rfl ?_ ?_
 refine Bi Bj AQ (fun _ _=>rfl) ?_ ?_
 walk_at "v0"
 exact Aj
 exact Ai
 refine Ac rfl ?_ ?_
 refine Bi Bj AQ (fun _ _=>rfl) ?_ ?_
 walk_at "v1"
 exact Aj
 exact Ai
 refine Ao ?_
 refine AR ?_
 exact C9
 exact AZ
 refine Ao ?_
 refine AR ?_
 refine Av A7 Au rfl rfl rfl rfl rfl hr (by decide) AX dK rfl rfl rfl ?_
 refine Ac rfl ?_ ?_
 refine Bi Bj AQ (fun _ _=>rfl) ?_ ?_
 walk_at "v1"
 exact Aj
 refine Ac rfl ?_ ?_
 refine AN B4 Bd B.len Boot.«len» dK dK rfl rfl rfl ?_
 refine Ac rfl ?_ ?_
 refine Bi Bj AQ (fun _ _=>rfl) ?_ ?_
 walk_at "v1"
 exact Aj
 exact Ai
 exact Ai
theorem Jj {f:Addr} {fd:FuncData} (F:Fun K "_law_bag" "_law_bag" (top 62) f fd) (B:Blt mg K) (B2:Blt2 mg) :
  FnOk P w K mg base CX0 1 f fd ["_law_cell_here"] (spJ K Bx 1):=by
 refine Ci (N:=["_law_cell_here"]) F ⟨rfl,rfl,rfl,dK,rfl,dK,dK⟩ fun cdv A outer s H E hr=>?_
 refine Al ?_ ?_
 refine BK ?_ ?_ ?_
 refine Bm Ru Rx (A4 _) ?_ ?_
 refine AN MW IU B.abs Boot.«abs» dK dK rfl rfl rfl ?_
 refine Ac rfl ?_ ?_
 walk_at "v0"
 exact Ai
 refine AB Ke Kh ?_ ?_
 exact Aj
 exact Aj
 refine Ao ?_
 refine AR ?_
 refine Be ?_
 refine Ac rfl ?_ ?_
 refine Ah ?_
 refine AN MW IU B.abs Boot.«abs» dK dK rfl rfl rfl ?_
 refine Ac rfl ?_ ?_
 walk_at "v0"
 exact Ai
 refine Ac rfl ?_ ?_
 refine Ah ?_
 exact Aj
 exact Ai
 exact AZ
 refine Ao ?_
 refine AR ?_
 refine Be ?_
 refine Ac rfl ?_ ?_
 refine Ah ?_
 refine AB FO FQ ?_ ?_
 walk_at "v0"
 exact Aj
 refine Ac rfl ?_ ?_
 refine Ah ?_
 exact Aj
 exact Ai
theorem Ii {f:Addr} {fd:FuncData} (F:Fun K "_law_take" "_law_take" (top 63) f fd) (B:Blt mg K) (B2:Blt2 mg) :
  FnOk P w K mg base CX0 1 f fd ["_law_bag_here","_law_many"] (spJ K Ag 2):=by
 refine Ci (N:=["_law_bag_here","_law_many","_law_digit"]) F ⟨rfl,rfl,rfl,dK,rfl,dK,dK⟩ fun cdv A outer s H E hr=>?_
 have nd3:List.Nodup (["_law_bag_here","_law_many","_law_digit"]:List Str):=by decide +kernel
 refine Al ?_ ?_
 refine BK ?_ ?_ ?_
 refine Bm B5 (BD hr) (A4 _) ?_ ?_
 refine Bi Bj AQ (fun _ _=>rfl) ?_ ?_
 walk_at "v0"
 exact Aj
 exact Aj
 refine Al ?_ ?_
 refine A3 2 nd3 rfl (by walk_at "loc") rfl rfl ?_
 refine AB FO FQ ?_ ?_
 refine Bi Bj AQ (fun _ _=>rfl) ?_ ?_
 walk_at "v0"
 exact Aj
 walk_at "v1"
 refine Al ?_ ?_
 refine J4 0 rfl (by walk_at "vis") dK dK (fun _=>rfl) rfl rfl rfl ?_ ?_
 exact Aj
 refine AB KZ K1 ?_ ?_
 refine Bi Bj AQ (fun _ _=>rfl) ?_ ?_
 walk_at "v0"
 exact Aj
 walk_at "v1"
 refine Ao ?_
 refine AR ?_
 walk_at "v2"
 exact AZ
 refine Al ?_ ?_
 refine J4 0 rfl (by walk_at "vis") dK dK (fun _=>rfl) rfl rfl rfl ?_ ?_
 exact Aj
 refine AB FO FQ ?_ ?_
 refine AB BA Bc ?_ ?_
 refine AB BA Bc ?_ ?_
 refine AB Ik Io ?_ ?_
 refine Bi Bj AQ (fun _ _=>rfl) ?_ ?_
 walk_at "v0"
 exact Aj
 exact Aj
 refine AB Ik Io ?_ ?_
 refine AB Ik Io ?_ ?_
 exact Aj
 refine Bi Bj AQ (fun _ _=>rfl) ?_ ?_
 walk_at "v0"
 exact Aj
 refine Bi Bj AQ (fun _ _=>rfl) ?_ ?_
 walk_at "v0"
 exact Aj
 exact Aj
 exact Aj
 refine Al ?_ ?_
 refine J4 0 rfl (by walk_at "vis") dK dK (fun _=>rfl) rfl rfl rfl ?_ ?_
 exact Aj
 refine AB BA Bc ?_ ?_
 refine Bi Bj AQ (fun _ _=>rfl) ?_ ?_
 walk_at "v0"
 exact Aj
 exact Aj
 refine Ao ?_
 refine AR ?_
 refine AB FO FQ ?_ ?_
 refine AB KZ K1 ?_ ?_
 refine AB FO FQ ?_ ?_
 refine AB Ik Io ?_ ?_
 refine Bi Bj AQ (fun _ _=>rfl) ?_ ?_
 walk_at "v0"
 exact Aj
 exact Aj
 exact Aj
 exact Aj
 walk_at "v1"
theorem Hj {f:Addr} {fd:FuncData} (F:Fun K "_law_house" "_law_house" (top 64) f fd) (B:Blt mg K) (B2:Blt2 mg) (Ay:Def P w K mg base CX0 1 "_law_take" ["_law_bag_here","_law_many"] (spJ K Ag 2)) :
  FnOk P w K mg base CX0 2 f fd ["_law_bag_here"] (spJ K Ct 1):=by
 refine Ci (N:=["_law_bag_here","_law_hands","_law_many","_law_few","_law_letters","_law_at","_law_k","_law_bits"]) F ⟨rfl,rfl,rfl,dK,rfl,dK,dK⟩ fun cdv A outer s H E hr=>?_
 have nd8:List.Nodup (["_law_bag_here","_law_hands","_law_many","_law_few","_law_letters","_law_at","_law_k","_law_bits"]:List Str):=by decide +kernel
 refine Al ?_ ?_
 refine A3 1 nd8 rfl (by walk_at "loc") rfl rfl ?_
 refine AB BA Bc ?_ ?_
 exact Aj
 refine Av Ay Au rfl rfl rfl rfl rfl hr (by decide) AX dK rfl rfl rfl ?_
 refine Ac rfl ?_ ?_
 walk_at "v0"
 refine Ac rfl ?_ ?_
 exact Aj
 exact Ai
 refine Al ?_ ?_
 refine A3 2 nd8 rfl (by walk_at "loc") rfl rfl ?_
 refine AB BA Bc ?_ ?_
 exact Aj
 refine Av Ay Au rfl rfl rfl rfl rfl hr (by decide) AX dK rfl rfl rfl ?_
 refine Ac rfl ?_ ?_
 walk_at "v0"
 refine Ac rfl ?_ ?_
 exact Aj
 exact Ai
 refine Al ?_ ?_
 refine A3 3 nd8 rfl (by walk_at "loc") rfl rfl ?_
 refine Av Ay Au rfl rfl rfl rfl rfl hr (by decide) AX dK rfl rfl rfl ?_
 refine Ac rfl ?_ ?_
 walk_at "v0"
 refine Ac rfl ?_ ?_
 exact Aj
 exact Ai
 refine Al ?_ ?_
 refine A3 4 nd8 rfl (by walk_at "loc") rfl rfl ?_
 refine Be ?_
 exact Ai
 refine Al ?_ ?_
 refine A3 5 nd8 rfl (by walk_at "loc") rfl rfl ?_
 exact Aj
 refine Al ?_ ?_
 refine Ie PassesOwn.never rfl ?_ ?_ ?_ (fun _=>rfl)
 refine D6 rfl B.range rfl ?_
 walk_at "v2"
 exact Iq 6 nd8 rfl (by walk_at "loc") rfl
 refine Al ?_ ?_
 refine A3 5 nd8 rfl (by walk_at "loc") rfl rfl ?_
 refine AB BA Bc ?_ ?_
 walk_at "v5"
 refine Av Ay Au rfl rfl rfl rfl rfl hr (by decide) AX dK rfl rfl rfl ?_
 refine Ac rfl ?_ ?_
 walk_at "v0"
 refine Ac rfl ?_ ?_
 refine AB FP FT ?_ ?_
 refine AB BA Bc ?_ ?_
 refine AB FP FT ?_ ?_
 exact Aj
 walk_at "v2"
 walk_at "v6"
 walk_at "v5"
 exact Ai
 refine Al ?_ ?_
 refine A3 7 nd8 rfl (by walk_at "loc") rfl rfl ?_
 refine AB BA Bc ?_ ?_
 exact Aj
 refine Av Ay Au rfl rfl rfl rfl rfl hr (by decide) AX dK rfl rfl rfl ?_
 refine Ac rfl ?_ ?_
 walk_at "v0"
 refine Ac rfl ?_ ?_
 refine AB FP FT ?_ ?_
 refine AB Il Ip ?_ ?_
 exact Aj
 walk_at "v1"
 exact Aj
 exact Ai
 refine Al ?_ ?_
 refine BK ?_ ?_ ?_
 refine Bm B5 (BD hr) (A4 _) ?_ ?_
 walk_at "v3"
 exact Aj
 refine Ao ?_
 refine A3 7 nd8 rfl (by walk_at "loc") rfl rfl ?_
 refine AB P5 RC ?_ ?_
 refine AB Il Ip ?_ ?_
 exact Aj
 refine Av Ay Au rfl rfl rfl rfl rfl hr (by decide) AX dK rfl rfl rfl ?_
 refine Ac rfl ?_ ?_
 walk_at "v0"
 refine Ac rfl ?_ ?_
 walk_at "v1"
 exact Ai
 refine AB Il Ip ?_ ?_
 exact Aj
 refine Av Ay Au rfl rfl rfl rfl rfl hr (by decide) AX dK rfl rfl rfl ?_
 refine Ac rfl ?_ ?_
 walk_at "v0"
 refine Ac rfl ?_ ?_
 walk_at "v1"
 exact Ai
 exact AZ
 refine Al ?_ ?_
 refine J3 4 rfl (by walk_at "vis") dK dK rfl rfl rfl rfl ?_
 refine Ce ?_
 refine Ac rfl ?_ ?_
 refine Ah ?_
 refine Bi Bj AQ (fun _ _=>rfl) ?_ ?_
 exact Bo dK
 walk_at "v5"
 refine Ac rfl ?_ ?_
 refine Ah ?_
 refine D4 (by rfl) rfl nd8 (by rfl) (fun _=>rfl) ?_ ?_ ?_
 refine D6 rfl B.range rfl ?_
 walk_at "v1"
 refine Ig fun _ _ _ _ _=>?_
 refine Bm B5 (BD hr) (A4 _) ?_ ?_
 refine AB KY M0 ?_ ?_
 refine AB MZ M4 ?_ ?_
 walk_at "v8"
 walk_at "v0"
 exact Aj
 exact Aj
 intro _ _ _ _ _
 walk_at "v0"
 exact Ai
 refine Ao ?_
 refine A3 5 nd8 rfl (by walk_at "loc") rfl rfl ?_
 refine AB BA Bc ?_ ?_
 walk_at "v5"
 exact Aj
 refine Ao ?_
 refine AR ?_
 refine Ce ?_
 refine Ac rfl ?_ ?_
 refine Ah ?_
 walk_at "v1"
 refine Ac rfl ?_ ?_
 refine Ah ?_
 walk_at "v4"
 exact Ai
theorem Ge {f:Addr} {fd:FuncData} (F:Fun K "_law_machine" "_law_machine" (top 65) f fd) (B:Blt mg K) (B2:Blt2 mg) (Ay:Def P w K mg base CX0 1 "_law_take" ["_law_bag_here","_law_many"] (spJ K Ag 2)) :
  FnOk P w K mg base CX0 2 f fd ["_law_bag_here","_law_house_here","_law_most"] (spJ K BW 3):=by
 refine Ci (N:=["_law_bag_here","_law_house_here","_law_most","_law_rooms","_law_moves","_law_room","_law_line","_law_letter","_law_bits"]) F ⟨rfl,rfl,rfl,dK,rfl,dK,dK⟩ fun cdv A outer s H E hr=>?_
 have nd9:List.Nodup (["_law_bag_here","_law_house_here","_law_most","_law_rooms","_law_moves","_law_room","_law_line","_law_letter","_law_bits"]:List Str):=by decide +kernel
 refine Al ?_ ?_
 refine A3 3 nd9 rfl (by walk_at "loc") rfl rfl ?_
 refine AB BA Bc ?_ ?_
 exact Aj
 refine Av Ay Au rfl rfl rfl rfl rfl hr (by decide) AX dK rfl rfl rfl ?_
 refine Ac rfl ?_ ?_
 walk_at "v0"
 refine Ac rfl ?_ ?_
 walk_at "v2"
 exact Ai
 refine Al ?_ ?_
 refine A3 4 nd9 rfl (by walk_at "loc") rfl rfl ?_
 refine Be ?_
 exact Ai
 refine Al ?_ ?_
 refine Ie PassesOwn.never rfl ?_ ?_ ?_ (fun _=>rfl)
 refine D6 rfl B.range rfl ?_
 walk_at "v3"
 exact Iq 5 nd9 rfl (by walk_at "loc") rfl
 refine Al ?_ ?_
 refine A3 6 nd9 rfl (by walk_at "loc") rfl rfl ?_
 refine Be ?_
 exact Ai
 refine Al ?_ ?_
 refine Ie PassesOwn.never rfl ?_ ?_ ?_ (fun _=>rfl)
 refine FE ?_
 refine Bi Bj AQ (fun _ _=>rfl) ?_ ?_
 walk_at "v1"
 exact Aj
 exact Iq 7 nd9 rfl (by walk_at "loc") rfl
 refine Ao ?_
 refine J3 6 rfl (by walk_at "vis") dK dK rfl rfl rfl rfl ?_
 refine Av Ay Au rfl rfl rfl rfl rfl hr (by decide) AX dK rfl rfl rfl ?_
 refine Ac rfl ?_ ?_
 walk_at "v0"
 refine Ac rfl ?_ ?_
 walk_at "v3"
 exact Ai
 refine Ao ?_
 refine J3 4 rfl (by walk_at "vis") dK dK rfl rfl rfl rfl ?_
 walk_at "v6"
 refine Al ?_ ?_
 refine A3 8 nd9 rfl (by walk_at "loc") rfl rfl ?_
 refine Av Ay Au rfl rfl rfl rfl rfl hr (by decide) AX dK rfl rfl rfl ?_
 refine Ac rfl ?_ ?_
 walk_at "v0"
 refine Ac rfl ?_ ?_
 refine AB Il Ip ?_ ?_
 exact Aj
 walk_at "v3"
 exact Ai
 refine Ao ?_
 refine AR ?_
 refine Ce ?_
 refine Ac rfl ?_ ?_
 refine Ah ?_
 walk_at "v4"
 refine Ac rfl ?_ ?_
 refine Ah ?_
 refine PJ ["_law_bag_here","_law_house_here","_law_most","_law_rooms","_law_moves","?","_law_line","_law_letter","_law_bits"] rfl rfl rfl dK rfl (fun _=>rfl) ?_ ?_ ?_
 refine D6 rfl B.range rfl ?_
 walk_at "v3"
 refine Ig fun _ _ _ _ _=>?_
 refine Bm B5 (BD hr) (A4 _) ?_ ?_
 refine AB KY M0 ?_ ?_
 refine AB MZ M4 ?_ ?_
 walk_at "v9"
 walk_at "v0"
 exact Aj
 exact Aj
 intro _ _ _ _ _
 walk_at "v0"
 exact Ai
theorem Eo {f:Addr} {fd:FuncData} (F:Fun K "_law_machine_copy" "_law_machine_copy" (top 67) f fd) (B:Blt mg K) (B2:Blt2 mg) :
  FnOk P w K mg base CX0 1 f fd ["_law_machine_here"] (spJ K AA 1):=by
 refine Ci (N:=["_law_machine_here"]) F ⟨rfl,rfl,rfl,dK,rfl,dK,dK⟩ fun cdv A outer s H E hr=>?_
 have nd1:List.Nodup (["_law_machine_here"]:List Str):=by decide +kernel
 refine Ao ?_
 refine AR ?_
 refine Ce ?_
 refine Ac rfl ?_ ?_
 refine Ah ?_
 refine D4 (by rfl) rfl nd1 (by rfl) (fun _=>rfl) ?_ ?_ ?_
 refine FE ?_
 refine Bi Bj AQ (fun _ _=>rfl) ?_ ?_
 walk_at "v0"
 exact Aj
 exact DC
 intro _ _ _ _ _
 refine Em K0 E4 B.list Boot.«list» dK dK rfl rfl rfl ?_
 refine Ac rfl ?_ ?_
 walk_at "v0"
 exact Ai
 refine Ac rfl ?_ ?_
 refine Ah ?_
 refine Em K0 E4 B.list Boot.«list» dK dK rfl rfl rfl ?_
 refine Ac rfl ?_ ?_
 refine Bi Bj AQ (fun _ _=>rfl) ?_ ?_
 walk_at "v0"
 exact Aj
 exact Ai
 exact Ai
theorem Ih {f:Addr} {fd:FuncData} (F:Fun K "_law_cell" "_law_cell" (top 61) f fd) (B:Blt mg K) (B2:Blt2 mg) :
  FnOk P w K mg base CX0 1 f fd ["_law_script","_law_k"] (spJ K A2 2):=by
 refine Ci (N:=["_law_script","_law_k"]) F ⟨rfl,rfl,rfl,dK,rfl,dK,dK⟩ fun cdv A outer s H E hr=>?_
 refine Al ?_ ?_
 refine BK ?_ ?_ ?_
 refine Bm HK EE (A4 _) ?_ ?_
 walk_at "v1"
 refine AN B4 Bd B.len Boot.«len» dK dK rfl rfl rfl ?_
 refine Ac rfl ?_ ?_
 walk_at "v0"
 exact Ai
 refine Ao ?_
 refine AR ?_
 refine Bi Bj AQ (fun _ _=>rfl) ?_ ?_
 walk_at "v0"
 walk_at "v1"
 exact AZ
 refine Ao ?_
 refine AR ?_
 exact Aj
theorem EX {f:Addr} {fd:FuncData} (F:Fun K "_law_no_machine" "_law_no_machine" (top 70) f fd) (B:Blt mg K) (B2:Blt2 mg) (Ay:Def P w K mg base CX0 1 "_law_take" ["_law_bag_here","_law_many"] (spJ K Ag 2)) :
  FnOk P w K mg base CX0 2 f fd ["_law_bag_here","_law_machine_here"] (spJ K Bg 2):=by
 refine Ci (N:=["_law_bag_here","_law_machine_here","_law_moves","_law_good","_law_odd","_law_kind","_law_at","_law_spot","_law_which","_law_line"]) F ⟨rfl,rfl,rfl,dK,rfl,dK,dK⟩ fun cdv A outer s H E hr=>?_
 have nd10:List.Nodup (["_law_bag_here","_law_machine_here","_law_moves","_law_good","_law_odd","_law_kind","_law_at","_law_spot","_law_which","_law_line"]:List Str):=by decide +kernel
 have nd11:List.Nodup (["_law_k","_law_bag_here","_law_machine_here","_law_moves","_law_good","_law_odd","_law_kind","_law_at","_law_spot","_law_which","_law_line"]:List Str):=by decide +kernel
 refine (fun h1 h2=>Al h1 h2:_→_→_) ?_ ?_
 refine (fun h1 h2=>PM h1 rfl rfl rfl h2:_→_→_) ?_ ?_
 refine (fun h1=>Om rfl h1 rfl rfl:_→_) ?_
 refine (fun h1=>Jq 2 nd10 rfl (by walk_at "loc") rfl h1 rfl:_→_) ?_
 refine (fun h1=>Jq 3 nd10 rfl (by walk_at "loc") rfl h1 rfl:_→_) ?_
 exact Oo
 walk_at "v1"
 refine (fun h1 h2=>Al h1 h2:_→_→_) ?_ ?_
 refine (fun h1=>A3 4 nd10 rfl (by walk_at "loc") rfl rfl h1:_→_) ?_
 refine (fun h1 h2=>Bi Bj AQ (fun _ _=>rfl) h1 h2:_→_→_) ?_ ?_
 refine (fun h1=>Be h1:_→_) ?_
 refine (fun h1 h2=>Ac rfl h1 h2:_→_→_) ?_ ?_
 refine (fun h1=>Ah h1:_→_) ?_
 exact GH
 refine (fun h1 h2=>Ac rfl h1 h2:_→_→_) ?_ ?_
 refine (fun h1=>Ah h1:_→_) ?_
 exact C9
 refine (fun h1 h2=>Ac rfl h1 h2:_→_→_) ?_ ?_
 refine (fun h1=>Ah h1:_→_) ?_
 exact Aj
 refine (fun h1 h2=>Ac rfl h1 h2:_→_→_) ?_ ?_
 refine (fun h1=>Ah h1:_→_) ?_
 exact Bo dK
 refine (fun h1 h2=>Ac rfl h1 h2:_→_→_) ?_ ?_
 refine (fun h1=>Ah h1:_→_) ?_
 refine (fun h1=>Be h1:_→_) ?_
 exact Ai
 refine (fun h1 h2=>Ac rfl h1 h2:_→_→_) ?_ ?_
 refine (fun h1=>Ah h1:_→_) ?_
 refine (fun h1=>Ce h1:_→_) ?_
 exact Ai
 refine (fun h1 h2=>Ac rfl h1 h2:_→_→_) ?_ ?_
 refine (fun h1=>Ah h1:_→_) ?_
 refine (fun h1 h2=>AB Ke Kh h1 h2:_→_→_) ?_ ?_
 exact Aj
 exact Aj
 refine (fun h1 h2=>Ac rfl h1 h2:_→_→_) ?_ ?_
 refine (fun h1=>Ah h1:_→_) ?_
 refine (fun h1=>Jd GQ Ha h1:_→_) ?_
 exact Aj
 refine (fun h1 h2=>Ac rfl h1 h2:_→_→_) ?_ ?_
 refine (fun h1=>Ah h1:_→_) ?_
 exact Bo dK
 refine (fun h1 h2=>Ac rfl h1 h2:_→_→_) ?_ ?_
 refine (fun h1=>Ah h1:_→_) ?_
 refine (fun h1=>Be h1:_→_) ?_
 refine (fun h1 h2=>Ac rfl h1 h2:_→_→_) ?_ ?_
 refine (fun h1=>Ah h1:_→_) ?_
 exact Aj
 exact Ai
 refine (fun h1 h2=>Ac rfl h1 h2:_→_→_) ?_ ?_
 refine (fun h1=>Ah h1:_→_) ?_
 refine (fun h1=>Ce h1:_→_) ?_
 refine (fun h1 h2=>Ac rfl h1 h2:_→_→_) ?_ ?_
 refine (fun h1=>Ah h1:_→_) ?_
 exact Aj
 exact Ai
 exact Ai
 refine Av Ay Au rfl rfl rfl rfl rfl hr (by decide) AX dK rfl rfl rfl ?_
 refine (fun h1 h2=>Ac rfl h1 h2:_→_→_) ?_ ?_
 walk_at "v0"
 refine (fun h1 h2=>Ac rfl h1 h2:_→_→_) ?_ ?_
 exact Aj
 exact Ai
 refine (fun h1 h2=>Al h1 h2:_→_→_) ?_ ?_
 refine (fun h1=>A3 5 nd10 rfl (by walk_at "loc") rfl rfl h1:_→_) ?_
 refine Av Ay Au rfl rfl rfl rfl rfl hr (by decide) AX dK rfl rfl rfl ?_
 refine (fun h1 h2=>Ac rfl h1 h2:_→_→_) ?_ ?_
 walk_at "v0"
 refine (fun h1 h2=>Ac rfl h1 h2:_→_→_) ?_ ?_
 exact Aj
 exact Ai
 refine (fun h1 h2=>Al h1 h2:_→_→_) ?_ ?_
 refine (fun h1=>A3 6 nd10 rfl (by walk_at "loc") rfl rfl h1:_→_) ?_
 refine Av Ay Au rfl rfl rfl rfl rfl hr (by decide) AX dK rfl rfl rfl ?_
 refine (fun h1 h2=>Ac rfl h1 h2:_→_→_) ?_ ?_
 walk_at "v0"
 refine (fun h1 h2=>Ac rfl h1 h2:_→_→_) ?_ ?_
 refine AN B4 Bd B.len Boot.«len» dK dK rfl rfl rfl ?_
 refine (fun h1 h2=>Ac rfl h1 h2:_→_→_) ?_ ?_
 walk_at "v2"
 exact Ai
 exact Ai
 refine (fun h1 h2=>Al h1 h2:_→_→_) ?_ ?_
 refine (fun h1=>A3 7 nd10 rfl (by walk_at "loc") rfl rfl h1:_→_) ?_
 refine Av Ay Au rfl rfl rfl rfl rfl hr (by decide) AX dK rfl rfl rfl ?_
 refine (fun h1 h2=>Ac rfl h1 h2:_→_→_) ?_ ?_
 walk_at "v0"
 refine (fun h1 h2=>Ac rfl h1 h2:_→_→_) ?_ ?_
 refine AN B4 Bd B.len Boot.«len» dK dK rfl rfl rfl ?_
 refine (fun h1 h2=>Ac rfl h1 h2:_→_→_) ?_ ?_
 refine (fun h1 h2=>Bi Bj AQ (fun _ _=>rfl) h1 h2:_→_→_) ?_ ?_
 walk_at "v2"
 walk_at "v6"
 exact Ai
 exact Ai
 refine (fun h1 h2=>Al h1 h2:_→_→_) ?_ ?_
 refine (fun h1=>A3 8 nd10 rfl (by walk_at "loc") rfl rfl h1:_→_) ?_
 refine Av Ay Au rfl rfl rfl rfl rfl hr (by decide) AX dK rfl rfl rfl ?_
 refine (fun h1 h2=>Ac rfl h1 h2:_→_→_) ?_ ?_
 walk_at "v0"
 refine (fun h1 h2=>Ac rfl h1 h2:_→_→_) ?_ ?_
 exact Aj
 exact Ai
 refine (fun h1 h2=>Al h1 h2:_→_→_) ?_ ?_
 refine (fun h1=>A3 9 nd10 rfl (by walk_at "loc") rfl rfl h1:_→_) ?_
 refine (fun h1 h2=>Bi Bj AQ (fun _ _=>rfl) h1 h2:_→_→_) ?_ ?_
 walk_at "v2"
 walk_at "v6"
 refine (fun h1 h2=>Al h1 h2:_→_→_) ?_ ?_
 refine (fun h1 h2 h3=>BK h1 h2 h3:_→_→_→_) ?_ ?_ ?_
 refine (fun h1 h2=>Bm HK EE (A4 _) h1 h2:_→_→_) ?_ ?_
 walk_at "v5"
 exact Aj
 refine (fun h1=>Ao h1:_→_) ?_
 refine (fun h1=>AR h1:_→_) ?_
 refine (fun h1 h2=>Bi Bj AQ (fun _ _=>rfl) h1 h2:_→_→_) ?_ ?_
 refine (fun h1=>Be h1:_→_) ?_
 refine (fun h1 h2=>Ac rfl h1 h2:_→_→_) ?_ ?_
 refine (fun h1=>Ah h1:_→_) ?_
 walk_at "v4"
 refine (fun h1 h2=>Ac rfl h1 h2:_→_→_) ?_ ?_
 refine (fun h1=>Ah h1:_→_) ?_
 refine (fun h1=>Be h1:_→_) ?_
 refine (fun h1 h2=>Ac rfl h1 h2:_→_→_) ?_ ?_
 refine (fun h1=>Ah h1:_→_) ?_
 walk_at "v2"
 refine (fun h1 h2=>Ac rfl h1 h2:_→_→_) ?_ ?_
 refine (fun h1=>Ah h1:_→_) ?_
 walk_at "v3"
 exact Ai
 refine (fun h1 h2=>Ac rfl h1 h2:_→_→_) ?_ ?_
 refine (fun h1=>Ah h1:_→_) ?_
 refine (fun h1=>Ce h1:_→_) ?_
 refine (fun h1 h2=>Ac rfl h1 h2:_→_→_) ?_ ?_
 refine (fun h1=>Ah h1:_→_) ?_
 walk_at "v2"
 refine (fun h1 h2=>Ac rfl h1 h2:_→_→_) ?_ ?_
 refine (fun h1=>Ah h1:_→_) ?_
 walk_at "v3"
 refine (fun h1 h2=>Ac rfl h1 h2:_→_→_) ?_ ?_
 refine (fun h1=>Ah h1:_→_) ?_
 walk_at "v4"
 exact Ai
 exact Ai
 walk_at "v5"
 exact AZ
 refine (fun h1 h2=>Al h1 h2:_→_→_) ?_ ?_
 refine (fun h1 h2 h3=>BK h1 h2 h3:_→_→_→_) ?_ ?_ ?_
 refine (fun h1 h2=>Bm HK EE (A4 _) h1 h2:_→_→_) ?_ ?_
 walk_at "v5"
 exact Aj
 refine (fun h1=>Ao h1:_→_) ?_
 refine (fun h1=>AR h1:_→_) ?_
 refine (fun h1 h2=>Bi Bj AQ (fun _ _=>rfl) h1 h2:_→_→_) ?_ ?_
 refine (fun h1=>Be h1:_→_) ?_
 refine (fun h1 h2=>Ac rfl h1 h2:_→_→_) ?_ ?_
 refine (fun h1=>Ah h1:_→_) ?_
 refine (fun h1=>Ce h1:_→_) ?_
 refine (fun h1 h2=>Ac rfl h1 h2:_→_→_) ?_ ?_
 refine (fun h1=>Ah h1:_→_) ?_
 refine Em Im EO B.tuple Boot.«tuple» dK dK rfl rfl rfl ?_
 refine (fun h1 h2=>Ac rfl h1 h2:_→_→_) ?_ ?_
 walk_at "v2"
 exact Ai
 refine (fun h1 h2=>Ac rfl h1 h2:_→_→_) ?_ ?_
 refine (fun h1=>Ah h1:_→_) ?_
 walk_at "v3"
 exact Ai
 refine (fun h1 h2=>Ac rfl h1 h2:_→_→_) ?_ ?_
 refine (fun h1=>Ah h1:_→_) ?_
 refine (fun h1=>Ce h1:_→_) ?_
 refine (fun h1 h2=>Ac rfl h1 h2:_→_→_) ?_ ?_
 refine (fun h1=>Ah h1:_→_) ?_
 refine (fun h1=>Be h1:_→_) ?_
 exact Ai
 refine (fun h1 h2=>Ac rfl h1 h2:_→_→_) ?_ ?_
 refine (fun h1=>Ah h1:_→_) ?_
 refine (fun h1=>Be h1:_→_) ?_
 exact Ai
 exact Ai
 refine (fun h1 h2=>Ac rfl h1 h2:_→_→_) ?_ ?_
 refine (fun h1=>Ah h1:_→_) ?_
 refine (fun h1=>Ce h1:_→_) ?_
 refine (fun h1 h2=>Ac rfl h1 h2:_→_→_) ?_ ?_
 refine (fun h1=>Ah h1:_→_) ?_
 refine (fun h1 h2 h3=>D4 (by rfl) rfl nd10 (by rfl) (fun _=>rfl) h1 h2 h3:_→_→_→_) ?_ ?_ ?_
 refine D6 rfl B.range rfl ?_
 exact Aj
 exact DC
 intro _ _ _ _ _
 refine (fun h1 h2 h3=>D4 (by rfl) rfl nd11 (by rfl) (fun _=>rfl) h1 h2 h3:_→_→_→_) ?_ ?_ ?_
 refine (fun h1=>FE h1:_→_) ?_
 walk_at "v10"
 exact DC
 intro _ _ _ _ _
 exact Aj
 refine (fun h1 h2=>Ac rfl h1 h2:_→_→_) ?_ ?_
 refine (fun h1=>Ah h1:_→_) ?_
 refine (fun h1=>Be h1:_→_) ?_
 exact Ai
 exact Ai
 exact Ai
 refine (fun h1 h2=>AB FP FT h1 h2:_→_→_) ?_ ?_
 walk_at "v5"
 exact Aj
 exact AZ
 refine (fun h1 h2=>Al h1 h2:_→_→_) ?_ ?_
 refine (fun h1 h2 h3=>BK h1 h2 h3:_→_→_→_) ?_ ?_ ?_
 refine (fun h1 h2=>Bm B5 (BD hr) (A4 _) h1 h2:_→_→_) ?_ ?_
 walk_at "v5"
 exact Aj
 refine (fun h1=>Ao h1:_→_) ?_
 refine (fun h1=>AR h1:_→_) ?_
 refine (fun h1=>Ce h1:_→_) ?_
 refine (fun h1 h2=>Ac rfl h1 h2:_→_→_) ?_ ?_
 refine (fun h1=>Ah h1:_→_) ?_
 walk_at "v2"
 refine (fun h1 h2=>Ac rfl h1 h2:_→_→_) ?_ ?_
 refine (fun h1=>Ah h1:_→_) ?_
 refine (fun h1 h2=>Bi Bj AQ (fun _ _=>rfl) h1 h2:_→_→_) ?_ ?_
 refine (fun h1=>Be h1:_→_) ?_
 refine (fun h1 h2=>Ac rfl h1 h2:_→_→_) ?_ ?_
 refine (fun h1=>Ah h1:_→_) ?_
 refine Em Im EO B.tuple Boot.«tuple» dK dK rfl rfl rfl ?_
 refine (fun h1 h2=>Ac rfl h1 h2:_→_→_) ?_ ?_
 walk_at "v3"
 exact Ai
 refine (fun h1 h2=>Ac rfl h1 h2:_→_→_) ?_ ?_
 refine (fun h1=>Ah h1:_→_) ?_
 refine (fun h1 h2=>AB BA Bc h1 h2:_→_→_) ?_ ?_
 walk_at "v3"
 refine (fun h1=>Be h1:_→_) ?_
 refine (fun h1 h2=>Ac rfl h1 h2:_→_→_) ?_ ?_
 refine (fun h1=>Ah h1:_→_) ?_
 refine AN B4 Bd B.len Boot.«len» dK dK rfl rfl rfl ?_
 refine (fun h1 h2=>Ac rfl h1 h2:_→_→_) ?_ ?_
 walk_at "v2"
 exact Ai
 exact Ai
 refine (fun h1 h2=>Ac rfl h1 h2:_→_→_) ?_ ?_
 refine (fun h1=>Ah h1:_→_) ?_
 refine (fun h1 h2=>AB BA Bc h1 h2:_→_→_) ?_ ?_
 refine (fun h1=>Be h1:_→_) ?_
 refine (fun h1 h2=>Ac rfl h1 h2:_→_→_) ?_ ?_
 refine (fun h1=>Ah h1:_→_) ?_
 refine (fun h1=>Jd GQ Ha h1:_→_) ?_
 exact Aj
 exact Ai
 walk_at "v3"
 refine (fun h1 h2=>Ac rfl h1 h2:_→_→_) ?_ ?_
 refine (fun h1=>Ah h1:_→_) ?_
 refine (fun h1=>Be h1:_→_) ?_
 refine (fun h1 h2=>Ac rfl h1 h2:_→_→_) ?_ ?_
 refine (fun h1=>Ah h1:_→_) ?_
 exact Aj
 refine (fun h1 h2=>Ac rfl h1 h2:_→_→_) ?_ ?_
 refine (fun h1=>Ah h1:_→_) ?_
 exact Aj
 exact Ai
 refine (fun h1 h2=>Ac rfl h1 h2:_→_→_) ?_ ?_
 refine (fun h1=>Ah h1:_→_) ?_
 refine (fun h1=>Be h1:_→_) ?_
 refine (fun h1 h2=>Ac rfl h1 h2:_→_→_) ?_ ?_
 refine (fun h1=>Ah h1:_→_) ?_
 exact C9
 exact Ai
 refine (fun h1 h2=>Ac rfl h1 h2:_→_→_) ?_ ?_
 refine (fun h1=>Ah h1:_→_) ?_
 exact GH
 refine (fun h1 h2=>Ac rfl h1 h2:_→_→_) ?_ ?_
 refine (fun h1=>Ah h1:_→_) ?_
 exact Bo dK
 exact Ai
 walk_at "v8"
 exact Ai
 exact AZ
 refine (fun h1 h2=>Al h1 h2:_→_→_) ?_ ?_
 refine (fun h1 h2 h3=>BK h1 h2 h3:_→_→_→_) ?_ ?_ ?_
 refine (fun h1 h2=>Bm B5 (BD hr) (A4 _) h1 h2:_→_→_) ?_ ?_
 walk_at "v5"
 exact Aj
 refine (fun h1=>Ao h1:_→_) ?_
 refine (fun h1=>AR h1:_→_) ?_
 refine (fun h1=>Ce h1:_→_) ?_
 refine (fun h1 h2=>Ac rfl h1 h2:_→_→_) ?_ ?_
 refine (fun h1=>Ah h1:_→_) ?_
 walk_at "v2"
 exact Ai
 exact AZ
 refine (fun h1 h2=>Al h1 h2:_→_→_) ?_ ?_
 refine (fun h1 h2 h3=>BK h1 h2 h3:_→_→_→_) ?_ ?_ ?_
 refine (fun h1 h2=>Bm B5 (BD hr) (A4 _) h1 h2:_→_→_) ?_ ?_
 walk_at "v5"
 exact Aj
 refine (fun h1=>Ao h1:_→_) ?_
 refine (fun h1=>A3 9 nd10 rfl (by walk_at "loc") rfl rfl h1:_→_) ?_
 refine (fun h1 h2=>Bi Bj AQ (fun _ _=>rfl) h1 h2:_→_→_) ?_ ?_
 refine (fun h1=>Be h1:_→_) ?_
 refine (fun h1 h2=>Ac rfl h1 h2:_→_→_) ?_ ?_
 refine (fun h1=>Ah h1:_→_) ?_
 refine (fun h1 h2=>AB BA Bc h1 h2:_→_→_) ?_ ?_
 walk_at "v9"
 refine (fun h1=>Be h1:_→_) ?_
 refine (fun h1 h2=>Ac rfl h1 h2:_→_→_) ?_ ?_
 refine (fun h1=>Ah h1:_→_) ?_
 exact Aj
 exact Ai
 refine (fun h1 h2=>Ac rfl h1 h2:_→_→_) ?_ ?_
 refine (fun h1=>Ah h1:_→_) ?_
 refine (fun h1 h2=>GG h1 h2:_→_→_) ?_ ?_
 walk_at "v9"
 refine (fun h1=>Jd GQ Ha h1:_→_) ?_
 exact Aj
 refine (fun h1 h2=>Ac rfl h1 h2:_→_→_) ?_ ?_
 refine (fun h1=>Ah h1:_→_) ?_
 refine Em Im EO B.tuple Boot.«tuple» dK dK rfl rfl rfl ?_
 refine (fun h1 h2=>Ac rfl h1 h2:_→_→_) ?_ ?_
 walk_at "v9"
 exact Ai
 exact Ai
 refine (fun h1 h2=>AB FO FQ h1 h2:_→_→_) ?_ ?_
 walk_at "v8"
 exact Aj
 refine (fun h1=>Ao h1:_→_) ?_
 refine (fun h1=>A3 9 nd10 rfl (by walk_at "loc") rfl rfl h1:_→_) ?_
 refine (fun h1 h2=>AB BA Bc h1 h2:_→_→_) ?_ ?_
 refine (fun h1 h2=>AB BA Bc h1 h2:_→_→_) ?_ ?_
 refine (fun h1 h2=>GG h1 h2:_→_→_) ?_ ?_
 walk_at "v9"
 walk_at "v7"
 refine (fun h1=>Be h1:_→_) ?_
 refine (fun h1 h2=>Ac rfl h1 h2:_→_→_) ?_ ?_
 refine (fun h1=>Ah h1:_→_) ?_
 refine (fun h1 h2=>Bi Bj AQ (fun _ _=>rfl) h1 h2:_→_→_) ?_ ?_
 refine (fun h1=>Be h1:_→_) ?_
 refine (fun h1 h2=>Ac rfl h1 h2:_→_→_) ?_ ?_
 refine (fun h1=>Ah h1:_→_) ?_
 refine AN B4 Bd B.len Boot.«len» dK dK rfl rfl rfl ?_
 refine (fun h1 h2=>Ac rfl h1 h2:_→_→_) ?_ ?_
 walk_at "v2"
 exact Ai
 refine (fun h1 h2=>Ac rfl h1 h2:_→_→_) ?_ ?_
 refine (fun h1=>Ah h1:_→_) ?_
 refine (fun h1=>Jd GQ Ha h1:_→_) ?_
 exact Aj
 refine (fun h1 h2=>Ac rfl h1 h2:_→_→_) ?_ ?_
 refine (fun h1=>Ah h1:_→_) ?_
 exact C9
 refine (fun h1 h2=>Ac rfl h1 h2:_→_→_) ?_ ?_
 refine (fun h1=>Ah h1:_→_) ?_
 exact GH
 refine (fun h1 h2=>Ac rfl h1 h2:_→_→_) ?_ ?_
 refine (fun h1=>Ah h1:_→_) ?_
 exact Bo dK
 refine (fun h1 h2=>Ac rfl h1 h2:_→_→_) ?_ ?_
 refine (fun h1=>Ah h1:_→_) ?_
 refine (fun h1 h2=>AB Ke Kh h1 h2:_→_→_) ?_ ?_
 exact Aj
 exact Aj
 refine (fun h1 h2=>Ac rfl h1 h2:_→_→_) ?_ ?_
 refine (fun h1=>Ah h1:_→_) ?_
 refine (fun h1=>Be h1:_→_) ?_
 refine (fun h1 h2=>Ac rfl h1 h2:_→_→_) ?_ ?_
 refine (fun h1=>Ah h1:_→_) ?_
 exact Aj
 exact Ai
 exact Ai
 walk_at "v8"
 exact Ai
 refine (fun h1 h2=>Jc h1 h2:_→_→_) ?_ ?_
 walk_at "v9"
 refine (fun h1 h2=>AB BA Bc h1 h2:_→_→_) ?_ ?_
 walk_at "v7"
 exact Aj
 refine (fun h1=>Ao h1:_→_) ?_
 refine (fun h1=>AR h1:_→_) ?_
 refine (fun h1=>Ce h1:_→_) ?_
 refine (fun h1 h2=>Ac rfl h1 h2:_→_→_) ?_ ?_
 refine (fun h1=>Ah h1:_→_) ?_
 refine (fun h1 h2=>AB BA Bc h1 h2:_→_→_) ?_ ?_
 refine (fun h1 h2=>AB BA Bc h1 h2:_→_→_) ?_ ?_
 refine (fun h1 h2=>GG h1 h2:_→_→_) ?_ ?_
 walk_at "v2"
 walk_at "v6"
 refine (fun h1=>Be h1:_→_) ?_
 refine (fun h1 h2=>Ac rfl h1 h2:_→_→_) ?_ ?_
 refine (fun h1=>Ah h1:_→_) ?_
 walk_at "v9"
 exact Ai
 refine (fun h1 h2=>Jc h1 h2:_→_→_) ?_ ?_
 walk_at "v2"
 refine (fun h1 h2=>AB BA Bc h1 h2:_→_→_) ?_ ?_
 walk_at "v6"
 exact Aj
 refine (fun h1 h2=>Ac rfl h1 h2:_→_→_) ?_ ?_
 refine (fun h1=>Ah h1:_→_) ?_
 walk_at "v3"
 exact Ai
theorem FN {f:Addr} {fd:FuncData} (F:Fun K "need_machine" "need_machine" (top 43) f fd) (B:Blt mg K) (B2:Blt2 mg) (BO:Def P w K mg base CX0 10 "is_machine" ["house","thing"] (spJ K AS 2)) (X_NoMachine:Exc K mg "NoMachine" (XC "NoMachine")) :
  FnOk P w K mg base (Fly P w) 11 f fd ["house","machine"] (spR K XC AM 2):=by
 refine ES (N:=["house","machine"]) F ⟨rfl,rfl,rfl,dK,rfl,dK,dK⟩ fun cdv A outer s H E hr=>?_
 refine BF ?_
 refine Je ?_ ?_
 refine Cy ?_
 refine CN (fun _=>rfl) ?_
 refine Av BO Au rfl rfl rfl rfl rfl hr (by decide) AX dK rfl rfl rfl ?_
 refine Ac rfl ?_ ?_
 walk_at "v0"
 refine Ac rfl ?_ ?_
 walk_at "v1"
 exact Ai
 refine BF ?_
 exact MF X_NoMachine rfl hr rfl dK rfl rfl (Bo dK)
theorem LD {f:Addr} {fd:FuncData} (F:Fun K "least" "least" (top 48) f fd) (B:Blt mg K) (B2:Blt2 mg) (DR_need_machine:Def P w K mg base (Fly P w) 11 "need_machine" ["house","machine"] (spR K XC AM 2)) :
  FnOk P w K mg base (Fly P w) 12 f fd ["house","machine"] (spR K XC DX 2):=by
 refine ES (N:=["house","machine"]) F ⟨rfl,rfl,rfl,dK,rfl,dK,dK⟩ fun cdv A outer s H E hr=>?_
 refine BF ?_
 refine Fh DR_need_machine CL hr (by decide) rfl dK rfl rfl rfl ?_
 refine Ac rfl ?_ ?_
 walk_at "v0"
 refine Ac rfl ?_ ?_
 walk_at "v1"
 exact Ai
theorem Ob {f:Addr} {fd:FuncData} (F:Fun K "led" "led" (top 45) f fd) (B:Blt mg K) (B2:Blt2 mg) (DR_need_machine:Def P w K mg base (Fly P w) 11 "need_machine" ["house","machine"] (spR K XC AM 2)) :
  FnOk P w K mg base (Fly P w) 12 f fd ["house","machine","room","row"] (spR K XC FZ 4):=by
 refine ES (N:=["house","machine","room","row"]) F ⟨rfl,rfl,rfl,dK,rfl,dK,dK⟩ fun cdv A outer s H E hr=>?_
 refine BF ?_
 refine Fh DR_need_machine CL hr (by decide) rfl dK rfl rfl rfl ?_
 refine Ac rfl ?_ ?_
 walk_at "v0"
 refine Ac rfl ?_ ?_
 walk_at "v1"
 exact Ai
theorem MV {f:Addr} {fd:FuncData} (F:Fun K "lets" "lets" (top 47) f fd) (B:Blt mg K) (B2:Blt2 mg) (DR_need_machine:Def P w K mg base (Fly P w) 11 "need_machine" ["house","machine"] (spR K XC AM 2)) :
  FnOk P w K mg base (Fly P w) 12 f fd ["house","machine","row"] (spR K XC EH 3):=by
 refine ES (N:=["house","machine","row"]) F ⟨rfl,rfl,rfl,dK,rfl,dK,dK⟩ fun cdv A outer s H E hr=>?_
 refine BF ?_
 refine Fh DR_need_machine CL hr (by decide) rfl dK rfl rfl rfl ?_
 refine Ac rfl ?_ ?_
 walk_at "v0"
 refine Ac rfl ?_ ?_
 walk_at "v1"
 exact Ai
theorem GL {f:Addr} {fd:FuncData} (F:Fun K "told_apart" "told_apart" (top 53) f fd) (B:Blt mg K) (B2:Blt2 mg) (DR_need_machine:Def P w K mg base (Fly P w) 11 "need_machine" ["house","machine"] (spR K XC AM 2)) :
  FnOk P w K mg base (Fly P w) 12 f fd ["house","machine","one","other"] (spR K XC B0 4):=by
 refine ES (N:=["house","machine","one","other"]) F ⟨rfl,rfl,rfl,dK,rfl,dK,dK⟩ fun cdv A outer s H E hr=>?_
 refine BF ?_
 refine Fh DR_need_machine CL hr (by decide) rfl dK rfl rfl rfl ?_
 refine Ac rfl ?_ ?_
 walk_at "v0"
 refine Ac rfl ?_ ?_
 walk_at "v1"
 exact Ai
theorem Kc {f:Addr} {fd:FuncData} (F:Fun K "judged" "judged" (top 56) f fd) (B:Blt mg K) (B2:Blt2 mg) (DR_need_machine:Def P w K mg base (Fly P w) 11 "need_machine" ["house","machine"] (spR K XC AM 2)) :
  FnOk P w K mg base (Fly P w) 12 f fd ["house","machine"] (spR K XC Di 2):=by
 refine ES (N:=["house","machine","found","first"]) F ⟨rfl,rfl,rfl,dK,rfl,dK,dK⟩ fun cdv A outer s H E hr=>?_
 refine BF ?_
 refine Fh DR_need_machine CL hr (by decide) rfl dK rfl rfl rfl ?_
 refine Ac rfl ?_ ?_
 walk_at "v0"
 refine Ac rfl ?_ ?_
 walk_at "v1"
 exact Ai
theorem GK {f:Addr} {fd:FuncData} (F:Fun K "_law_asked" "_law_asked" (top 71) f fd) (B:Blt mg K) (B2:Blt2 mg) (DR_least:Def P w K mg base (Fly P w) 12 "least" ["house","machine"] (spR K XC DX 2)) (DR_led:Def P w K mg base (Fly P w) 12 "led" ["house","machine","room","row"] (spR K XC FZ 4)) (DR_lets:Def P w K mg base (Fly P w) 12 "lets" ["house","machine","row"] (spR K XC EH 3)) (DR_told_apart:Def P w K mg base (Fly P w) 12 "told_apart" ["house","machine","one","other"] (spR K XC B0 4)) (DR_judged:Def P w K mg base (Fly P w) 12 "judged" ["house","machine"] (spR K XC Di 2)) :
  FnOk P w K mg base (Fly P w) 13 f fd ["_law_house_here","_law_thing","_law_kind"] (spR K XC BI 3):=by
 refine ES (N:=["_law_house_here","_law_thing","_law_kind"]) F ⟨rfl,rfl,rfl,dK,rfl,dK,dK⟩ fun cdv A outer s H E hr=>?_
 refine Gk ?_ ?_
 refine BF ?_
 refine Je ?_ ?_
 refine Bm B5 (BD hr) (A4 _) ?_ ?_
 walk_at "v2"
 exact Aj
 refine BF ?_
 refine GI DR_least CL hr (by decide) dK rfl rfl rfl ?_
 refine Ac rfl ?_ ?_
 walk_at "v0"
 refine Ac rfl ?_ ?_
 walk_at "v1"
 exact Ai
 refine Gk ?_ ?_
 refine Cv ?_ ?_
 refine BK ?_ ?_ ?_
 refine Bm B5 (BD hr) (A4 _) ?_ ?_
 walk_at "v2"
 exact Aj
 refine Ao ?_
 exact Ca
 exact AZ
 refine BF ?_
 refine Je ?_ ?_
 refine Bm B5 (BD hr) (A4 _) ?_ ?_
 walk_at "v2"
 exact Aj
 refine BF ?_
 refine GI DR_led CL hr (by decide) dK rfl rfl rfl ?_
 refine Ac rfl ?_ ?_
 walk_at "v0"
 refine Ac rfl ?_ ?_
 walk_at "v1"
 refine Ac rfl ?_ ?_
 exact GH
 refine Ac rfl ?_ ?_
 exact Bo dK
 exact Ai
 refine Gk ?_ ?_
 refine Cv ?_ ?_
 refine BK ?_ ?_ ?_
 refine Bm B5 (BD hr) (A4 _) ?_ ?_
 walk_at "v2"
 exact Aj
 refine Ao ?_
 exact Ca
 exact AZ
 refine Cv ?_ ?_
 refine BK ?_ ?_ ?_
 refine Bm B5 (BD hr) (A4 _) ?_ ?_
 walk_at "v2"
 exact Aj
 refine Ao ?_
 exact Ca
 exact AZ
 refine BF ?_
 refine Je ?_ ?_
 refine Bm B5 (BD hr) (A4 _) ?_ ?_
 walk_at "v2"
 exact Aj
 refine BF ?_
 refine GI DR_lets CL hr (by decide) dK rfl rfl rfl ?_
 refine Ac rfl ?_ ?_
 walk_at "v0"
 refine Ac rfl ?_ ?_
 walk_at "v1"
 refine Ac rfl ?_ ?_
 exact Bo dK
 exact Ai
 refine Gk ?_ ?_
 refine Cv ?_ ?_
 refine BK ?_ ?_ ?_
 refine Bm B5 (BD hr) (A4 _) ?_ ?_
 walk_at "v2"
 exact Aj
 refine Ao ?_
 exact Ca
 exact AZ
 refine Cv ?_ ?_
 refine BK ?_ ?_ ?_
 refine Bm B5 (BD hr) (A4 _) ?_ ?_
 walk_at "v2"
 exact Aj
 refine Ao ?_
 exact Ca
 exact AZ
 refine Cv ?_ ?_
 refine BK ?_ ?_ ?_
 refine Bm B5 (BD hr) (A4 _) ?_ ?_
 walk_at "v2"
 exact Aj
 refine Ao ?_
 exact Ca
 exact AZ
 refine BF ?_
 refine Je ?_ ?_
 refine Bm B5 (BD hr) (A4 _) ?_ ?_
 walk_at "v2"
 exact Aj
 refine BF ?_
 refine GI DR_told_apart CL hr (by decide) dK rfl rfl rfl ?_
 refine Ac rfl ?_ ?_
 walk_at "v0"
 refine Ac rfl ?_ ?_
 walk_at "v1"
 refine Ac rfl ?_ ?_
 exact GH
 refine Ac rfl ?_ ?_
 refine Jd GQ Ha ?_
 exact Aj
 exact Ai
 refine Cv ?_ ?_
 refine BK ?_ ?_ ?_
 refine Bm B5 (BD hr) (A4 _) ?_ ?_
 walk_at "v2"
 exact Aj
 refine Ao ?_
 exact Ca
 exact AZ
 refine Cv ?_ ?_
 refine BK ?_ ?_ ?_
 refine Bm B5 (BD hr) (A4 _) ?_ ?_
 walk_at "v2"
 exact Aj
 refine Ao ?_
 exact Ca
 exact AZ
 refine Cv ?_ ?_
 refine BK ?_ ?_ ?_
 refine Bm B5 (BD hr) (A4 _) ?_ ?_
 walk_at "v2"
 exact Aj
 refine Ao ?_
 exact Ca
 exact AZ
 refine Cv ?_ ?_
 refine BK ?_ ?_ ?_
 refine Bm B5 (BD hr) (A4 _) ?_ ?_
 walk_at "v2"
 exact Aj
 refine Ao ?_
 exact Ca
 exact AZ
 refine BF ?_
 refine GI DR_judged CL hr (by decide) dK rfl rfl rfl ?_
 refine Ac rfl ?_ ?_
 walk_at "v0"
 refine Ac rfl ?_ ?_
 walk_at "v1"
 exact Ai
theorem Oc {f C:Addr} {fd:FuncData} {wd:Str} {j:Nat} (F:Fun K "_law_word" "_law_word" (top 66) f fd) (B:Blt mg K) (W:XW K mg C wd) (hj:∀ i,i < 15→(IM.getD i "" == wd) = (i == j)) :
  FnOkM P w K mg base CX0 1 f fd ["_law_e"] (spJ K (E8 C j) 1):=by
 refine Pp (N:=["_law_e","_law_named","_law_words","_law_some"]) F ⟨rfl,rfl,rfl,dK,rfl,dK,dK⟩ fun cdv A outer s H E hr hmk=>?_
 have nd4:List.Nodup (["_law_e","_law_named","_law_words","_law_some"]:List Str):=by decide +kernel
 refine Al ?_ ?_
 refine A3 1 nd4 rfl (by walk_at "loc") rfl rfl ?_
 refine Be ?_
 refine Ac rfl ?_ ?_
 refine Ah ?_
 refine Cw _ W dK (hj 0 (by decide)) dK rfl rfl B rfl rfl ?_
 walk_at "v0"
 refine Ac rfl ?_ ?_
 refine Ah ?_
 refine Cw _ W dK (hj 1 (by decide)) dK rfl rfl B rfl rfl ?_
 walk_at "v0"
 refine Ac rfl ?_ ?_
 refine Ah ?_
 refine Cw _ W dK (hj 2 (by decide)) dK rfl rfl B rfl rfl ?_
 walk_at "v0"
 refine Ac rfl ?_ ?_
 refine Ah ?_
 refine Cw _ W dK (hj 3 (by decide)) dK rfl rfl B rfl rfl ?_
 walk_at "v0"
 exact Ai
 refine Al ?_ ?_
 refine A3 1 nd4 rfl (by walk_at "loc") rfl rfl ?_
 refine AB BA Bc ?_ ?_
 walk_at "v1"
 refine Be ?_
 refine Ac rfl ?_ ?_
 refine Ah ?_
 refine Cw _ W dK (hj 4 (by decide)) dK rfl rfl B rfl rfl ?_
 walk_at "v0"
 refine Ac rfl ?_ ?_
 refine Ah ?_
 refine Cw _ W dK (hj 5 (by decide)) dK rfl rfl B rfl rfl ?_
 walk_at "v0"
 refine Ac rfl ?_ ?_
 refine Ah ?_
 refine Cw _ W dK (hj 6 (by decide)) dK rfl rfl B rfl rfl ?_
 walk_at "v0"
 refine Ac rfl ?_ ?_
 refine Ah ?_
 refine Cw _ W dK (hj 7 (by decide)) dK rfl rfl B rfl rfl ?_
 walk_at "v0"
 exact Ai
 refine Al ?_ ?_
 refine A3 1 nd4 rfl (by walk_at "loc") rfl rfl ?_
 refine AB BA Bc ?_ ?_
 walk_at "v1"
 refine Be ?_
 refine Ac rfl ?_ ?_
 refine Ah ?_
 refine Cw _ W dK (hj 8 (by decide)) dK rfl rfl B rfl rfl ?_
 walk_at "v0"
 refine Ac rfl ?_ ?_
 refine Ah ?_
 refine Cw _ W dK (hj 9 (by decide)) dK rfl rfl B rfl rfl ?_
 walk_at "v0"
 refine Ac rfl ?_ ?_
 refine Ah ?_
 refine Cw _ W dK (hj 10 (by decide)) dK rfl rfl B rfl rfl ?_
 walk_at "v0"
 refine Ac rfl ?_ ?_
 refine Ah ?_
 refine Cw _ W dK (hj 11 (by decide)) dK rfl rfl B rfl rfl ?_
 walk_at "v0"
 exact Ai
 refine Al ?_ ?_
 refine A3 1 nd4 rfl (by walk_at "loc") rfl rfl ?_
 refine AB BA Bc ?_ ?_
 walk_at "v1"
 refine Be ?_
 refine Ac rfl ?_ ?_
 refine Ah ?_
 refine Cw _ W dK (hj 12 (by decide)) dK rfl rfl B rfl rfl ?_
 walk_at "v0"
 refine Ac rfl ?_ ?_
 refine Ah ?_
 refine Cw _ W dK (hj 13 (by decide)) dK rfl rfl B rfl rfl ?_
 walk_at "v0"
 refine Ac rfl ?_ ?_
 refine Ah ?_
 refine Cw _ W dK (hj 14 (by decide)) dK rfl rfl B rfl rfl ?_
 walk_at "v0"
 exact Ai
 refine Al ?_ ?_
 refine A3 2 nd4 rfl (by walk_at "loc") rfl rfl ?_
 refine Be ?_
 refine Ac rfl ?_ ?_
 refine Ah ?_
 exact Bo dK
 refine Ac rfl ?_ ?_
 refine Ah ?_
 exact Bo dK
 refine Ac rfl ?_ ?_
 refine Ah ?_
 exact Bo dK
 refine Ac rfl ?_ ?_
 refine Ah ?_
 exact Bo dK
 refine Ac rfl ?_ ?_
 refine Ah ?_
 exact Bo dK
 refine Ac rfl ?_ ?_
 refine Ah ?_
 exact Bo dK
 refine Ac rfl ?_ ?_
 refine Ah ?_
 exact Bo dK
 refine Ac rfl ?_ ?_
 refine Ah ?_
 exact Bo dK
 refine Ac rfl ?_ ?_
 refine Ah ?_
 exact Bo dK
 refine Ac rfl ?_ ?_
 refine Ah ?_
 exact Bo dK
 exact Ai
 refine Al ?_ ?_
 refine A3 2 nd4 rfl (by walk_at "loc") rfl rfl ?_
 refine AB BA Bc ?_ ?_
 walk_at "v2"
 refine Be ?_
 refine Ac rfl ?_ ?_
 refine Ah ?_
 exact Bo dK
 refine Ac rfl ?_ ?_
 refine Ah ?_
 exact Bo dK
 refine Ac rfl ?_ ?_
 refine Ah ?_
 exact Bo dK
 refine Ac rfl ?_ ?_
 refine Ah ?_
 exact Bo dK
 refine Ac rfl ?_ ?_
 refine Ah ?_
 exact Bo dK
 exact Ai
 refine Al ?_ ?_
 refine Lw 3 nd4 rfl rfl (by rfl) hmk (by rfl) (fun _=>rfl) rfl ?_ ?_ ?_
 refine MD rfl B.range rfl ?_
 exact Aj
 refine Ig fun _ _ _ _ _=>?_
 refine CN (fun _=>rfl) ?_
 refine Bi Bj AQ (fun _ _=>rfl) ?_ ?_
 walk_at "v2"
 walk_at "v0"
 intro _ _ _ _ _
 refine Bi Bj AQ (fun _ _=>rfl) ?_ ?_
 walk_at "v3"
 walk_at "v0"
 refine Al ?_ ?_
 refine BK ?_ ?_ ?_
 refine EC ?_
 refine HH ?_ ?_
 refine Bm O3 (Of hr) (A4 _) ?_ ?_
 refine AN B4 Bd B.len Boot.«len» dK dK rfl rfl rfl ?_
 refine Ac rfl ?_ ?_
 walk_at "v3"
 exact Ai
 exact Aj
 refine FF ?_
 refine Cy ?_
 refine CN (fun _=>rfl) ?_
 refine PH W rfl rfl B rfl rfl ?_
 walk_at "v0"
 refine Ao ?_
 refine AR ?_
 exact Bo dK
 exact AZ
 refine Ao ?_
 refine AR ?_
 refine Bi Bj AQ (fun _ _=>rfl) ?_ ?_
 walk_at "v3"
 exact Aj
theorem Ma {f C HE:Addr} {fd:FuncData} {wd:Str} {j:Nat} (F:Fun K "_law_answer" "_law_answer" (top 68) f fd) (hm:mg "_law_answer" = some (.ref f)) (hHE:mg "HandError" = some (.ref HE)) (hab:Above base C HE) (W:DefM P w K mg base CX0 1 "_law_word" ["_law_e"] (spJ K (E8 C j) 1)) (hΦ:∀ a o,o.cls = .ref C→E8 C j [(.lent,.opq a o)] = some (.fz (.str wd),[.opq a o])) :
  Ans P w K mg base 16 14 C wd:=
 ⟨f,hm,F.kp,fun A outer s H fv hr e0 clo=>Km F ⟨rfl,rfl,rfl,dK,rfl,dK,dK⟩ (F.binds fun _ _ _ _ _ _ us hl=>match us,hl with | [_],_=>rfl) rfl rfl rfl rfl rfl hHE hab W Au hΦ (by decide) (by decide) hr e0 clo⟩
theorem Np {f C:Addr} {fd:FuncData} {wd:Str} (F:Fun K "_law_refuses" "_law_refuses" (top 69) f fd) (hw:wd.length≤sizeLine) (hm:mg "_law_refuses" = some (.ref f)) (An:Ans P w K mg base 16 14 C wd) :
  Rfs P w K mg base 17 14 C wd:=
 ⟨f,hm,F.kp,fun A outer s H fv t hr e0 clo=>Jx F ⟨rfl,rfl,rfl,dK,rfl,dK,dK⟩ (F.binds fun _ _ _ _ _ _ us hl=>match us,hl with | [_,_],_=>rfl) rfl rfl rfl rfl An hw (by decide) hr e0 clo⟩
theorem P8 {f c b:Addr} {fd:FuncData} (F:Fun K "law" "law" (top 72) f fd) (hn:PySem.W.nsIn K mainGlobals Bp = some (some (.ref f))) (ht:PySem.W.tabIn K Bp = some (c,b)) (hh:PySem.W.codeHdIn K c b = true) (B:Blt mg K) (B2:Blt2 mg) (Dj:Def P w K mg base CX0 1 "_law_bag" ["_law_cell_here"] (spJ K Bx 1)) (DY:Def P w K mg base CX0 2 "_law_house" ["_law_bag_here"] (spJ K Ct 1)) (Dk:Def P w K mg base CX0 2 "_law_machine" ["_law_bag_here","_law_house_here","_law_most"] (spJ K BW 3)) (BE:Def P w K mg base CX0 1 "_law_machine_copy" ["_law_machine_here"] (spJ K AA 1)) (C2:Def P w K mg base CX0 1 "_law_cell" ["_law_script","_law_k"] (spJ K A2 2)) (CF:Def P w K mg base CX0 2 "_law_no_machine" ["_law_bag_here","_law_machine_here"] (spJ K Bg 2)) (Ay:Def P w K mg base CX0 1 "_law_take" ["_law_bag_here","_law_many"] (spJ K Ag 2)) (BO:Def P w K mg base CX0 10 "is_machine" ["house","thing"] (spJ K AS 2)) (DR__law_asked:Def P w K mg base (Fly P w) 13 "_law_asked" ["_law_house_here","_law_thing","_law_kind"] (spR K XC BI 3)) (R_NoMachine:Rfs P w K mg base 17 14 (XC "NoMachine") "NoMachine") :
  FnOk P w K mg base CX0 18 f fd ["_law_script"] (spJ K GA 1):=by
 refine Po (N:=["_law_script","_law_bag_here","_law_house_here","_law_machine_here","_law_handed","_law_k","_law_thing","_law_kind"]) F hn ht ⟨rfl,rfl,rfl,dK,rfl,dK,dK⟩ fun A outer s H E hr=>?_
 have nd8:List.Nodup (["_law_script","_law_bag_here","_law_house_here","_law_machine_here","_law_handed","_law_k","_law_thing","_law_kind"]:List Str):=by decide +kernel
 refine Al ?_ ?_
 refine A3 1 nd8 rfl (by walk_at "loc") rfl rfl ?_
 refine Av Dj Au rfl rfl rfl rfl rfl hr (by decide) AX dK rfl rfl rfl ?_
 refine Ac rfl ?_ ?_
 refine Av C2 Au rfl rfl rfl rfl rfl hr (by decide) AX dK rfl rfl rfl ?_
 refine Ac rfl ?_ ?_
 walk_at "v0"
 refine Ac rfl ?_ ?_
 exact Aj
 exact Ai
 exact Ai
 refine Al ?_ ?_
 refine A3 2 nd8 rfl (by walk_at "loc") rfl rfl ?_
 refine Av DY Au rfl rfl rfl rfl rfl hr (by decide) AX dK rfl rfl rfl ?_
 refine Ac rfl ?_ ?_
 walk_at "v1"
 exact Ai
 refine Al ?_ ?_
 refine A3 1 nd8 rfl (by walk_at "loc") rfl rfl ?_
 refine Av Dj Au rfl rfl rfl rfl rfl hr (by decide) AX dK rfl rfl rfl ?_
 refine Ac rfl ?_ ?_
 refine Av C2 Au rfl rfl rfl rfl rfl hr (by decide) AX dK rfl rfl rfl ?_
 refine Ac rfl ?_ ?_
 walk_at "v0"
 refine Ac rfl ?_ ?_
 exact Aj
 exact Ai
 exact Ai
 refine Al ?_ ?_
 refine A3 3 nd8 rfl (by walk_at "loc") rfl rfl ?_
 refine Av Dk Au rfl rfl rfl rfl rfl hr (by decide) AX dK rfl rfl rfl ?_
 refine Ac rfl ?_ ?_
 walk_at "v1"
 refine Ac rfl ?_ ?_
 walk_at "v2"
 refine Ac rfl ?_ ?_
 refine Bi Bj AQ (fun _ _=>rfl) ?_ ?_
 refine Be ?_
 refine Ac rfl ?_ ?_
 refine Ah ?_
 exact Aj
 refine Ac rfl ?_ ?_
 refine Ah ?_
 exact Aj
 exact Ai
 refine AN MY (Hz rfl) B.min Boot.«min» dK dK rfl rfl rfl ?_
 refine Ac rfl ?_ ?_
 exact Aj
 refine Ac rfl ?_ ?_
 refine Av Ay Au rfl rfl rfl rfl rfl hr (by decide) AX dK rfl rfl rfl ?_
 refine Ac rfl ?_ ?_
 walk_at "v1"
 refine Ac rfl ?_ ?_
 exact Aj
 exact Ai
 exact Ai
 exact Ai
 refine Al ?_ ?_
 refine A3 4 nd8 rfl (by walk_at "loc") rfl rfl ?_
 refine Av BE Au rfl rfl rfl rfl rfl hr (by decide) AX dK rfl rfl rfl ?_
 refine Ac rfl ?_ ?_
 walk_at "v3"
 exact Ai
 refine Al ?_ ?_
 refine BK ?_ ?_ ?_
 refine EC ?_
 refine HH ?_ ?_
 refine Bm MX M3 (A4 _) ?_ ?_
 refine Av BO Au rfl rfl rfl rfl rfl hr (by decide) AX dK rfl rfl rfl ?_
 refine Ac rfl ?_ ?_
 walk_at "v2"
 refine Ac rfl ?_ ?_
 walk_at "v4"
 exact Ai
 exact C9
 refine FF ?_
 refine Bm O3 (Qc hr) (A4 _) ?_ ?_
 walk_at "v4"
 walk_at "v3"
 refine Ao ?_
 refine AR ?_
 exact C9
 exact AZ
 refine Al ?_ ?_
 refine Ie PassesOwn.never rfl ?_ ?_ ?_ (fun _=>rfl)
 refine N3 rfl B.range rfl rfl ?_ ?_
 exact Aj
 refine AN P9 (Ln rfl) B.max Boot.«max» dK dK rfl rfl rfl ?_
 refine Ac rfl ?_ ?_
 exact Aj
 refine Ac rfl ?_ ?_
 refine AN MY (Hz rfl) B.min Boot.«min» dK dK rfl rfl rfl ?_
 refine Ac rfl ?_ ?_
 refine AN B4 Bd B.len Boot.«len» dK dK rfl rfl rfl ?_
 refine Ac rfl ?_ ?_
 walk_at "v0"
 exact Ai
 refine Ac rfl ?_ ?_
 exact Aj
 exact Ai
 exact Ai
 exact Iq 5 nd8 rfl (by walk_at "loc") rfl
 refine Al ?_ ?_
 refine A3 1 nd8 rfl (by walk_at "loc") rfl rfl ?_
 refine Av Dj Au rfl rfl rfl rfl rfl hr (by decide) AX dK rfl rfl rfl ?_
 refine Ac rfl ?_ ?_
 refine AB BA Bc ?_ ?_
 refine Av C2 Au rfl rfl rfl rfl rfl hr (by decide) AX dK rfl rfl rfl ?_
 refine Ac rfl ?_ ?_
 walk_at "v0"
 refine Ac rfl ?_ ?_
 walk_at "v5"
 exact Ai
 walk_at "v5"
 exact Ai
 refine Al ?_ ?_
 refine A3 6 nd8 rfl (by walk_at "loc") rfl rfl ?_
 refine Av CF Au rfl rfl rfl rfl rfl hr (by decide) AX dK rfl rfl rfl ?_
 refine Ac rfl ?_ ?_
 walk_at "v1"
 refine Ac rfl ?_ ?_
 refine Av BE Au rfl rfl rfl rfl rfl hr (by decide) AX dK rfl rfl rfl ?_
 refine Ac rfl ?_ ?_
 walk_at "v3"
 exact Ai
 exact Ai
 refine Al ?_ ?_
 refine A3 7 nd8 rfl (by walk_at "loc") rfl rfl ?_
 refine Av Ay Au rfl rfl rfl rfl rfl hr (by decide) AX dK rfl rfl rfl ?_
 refine Ac rfl ?_ ?_
 walk_at "v1"
 refine Ac rfl ?_ ?_
 exact Aj
 exact Ai
 refine Al ?_ ?_
 refine BK ?_ ?_ ?_
 refine Bm MX M3 (A4 _) ?_ ?_
 refine Av BO Au rfl rfl rfl rfl rfl hr (by decide) AX dK rfl rfl rfl ?_
 refine Ac rfl ?_ ?_
 walk_at "v2"
 refine Ac rfl ?_ ?_
 walk_at "v6"
 exact Ai
 exact C9
 refine Ao ?_
 refine AR ?_
 exact C9
 exact AZ
 refine Ao ?_
 refine BK ?_ ?_ ?_
 refine Cy ?_
 refine CN (fun _=>rfl) ?_
 exact Lv rfl rfl rfl rfl rfl R_NoMachine (Def.mono DR__law_asked (by decide)) CL hr (by decide) ht hh rfl rfl rfl rfl rfl (fun _ _ _ _=>rfl) rfl rfl rfl dK rfl dK (fun _=>rfl) ⟨⟨rfl,rfl,rfl,dK,dK⟩,⟨rfl,rfl,rfl,dK,dK⟩,⟨rfl,rfl,rfl,dK,dK⟩,trivial⟩
 refine Ao ?_
 refine AR ?_
 exact C9
 exact AZ
 refine Ao ?_
 refine AR ?_
 refine EV Rw Rz (A4 _) ?_ ?_
 refine Av BO Au rfl rfl rfl rfl rfl hr (by decide) AX dK rfl rfl rfl ?_
 refine Ac rfl ?_ ?_
 walk_at "v2"
 refine Ac rfl ?_ ?_
 refine Av BE Au rfl rfl rfl rfl rfl hr (by decide) AX dK rfl rfl rfl ?_
 refine Ac rfl ?_ ?_
 walk_at "v3"
 exact Ai
 exact Ai
 exact C9
end
end Gk03
end
section
namespace Gk03
open PySem L2 J St
local macro_rules | `(tactic| walk_at "ev")=>do
 let l ← ("on1 on2 on3 Hc Hi Bs CD fzU Cu Eb AL ifS AG opM m1L m2L Aa Af Ab Ae peeks peek er ers Ee J.andM J.notM Sb orT C4 ER Ad share move moves keep BZ mkT lstM vals fzs BP D1 AK KC CP Ew Hf retS AY Cz free Jr Dx Se Ds Ak CI Ed refs back Kt Hm Dz isInt isBool Dt isTup isStr AH C0 ET J9 Gd IY FW Dv EJ DQ JN Du L8 Bq ixA Bs CD fzU Cu Eb Option.some_or Option.none_or Option.bind_none Ba BY atI ixN eqA neA ltA leA gtA geA Ja CZ nameOf lock unlock shB F1 E2 Sd Ss Rp Pt Sq Sr slF own Ea HC HB F6 F7 DS Jb KS Mu inA HD".splitOn " ").mapM fun s=>`(Lean.Parser.Tactic.simpLemma| $(Lean.mkIdent s.toName):ident)
 let l:=l.toArray
 `(tactic| simp [-List.map_map,$l,*, *])
structure Hs where
 n:Int
 ls:List (Nat × List Int)
noncomputable def chD (c:Nat):D:=.str ⟨#[c]⟩
noncomputable def ld (p:Nat × List Int):D:=.tup [chD p.1,.lst (iL p.2)]
noncomputable def Hs.d (h:Hs):D:=.tup [.int h.n,.lst (h.ls.map ld)]
structure Hs.Ok (h:Hs):Prop where
 n1:2≤h.n
 n2:h.n≤4
 l1:1≤h.ls.length
 l2:h.ls.length≤6
 ch:∀ p∈h.ls,97≤p.1∧p.1≤122
 ri:(h.ls.map (·.1)).Pairwise (· < ·)
 hs:∀ p∈h.ls,p.2≠[]∧p.2.Pairwise (· < ·)∧∀ x∈p.2,0≤x∧x < h.n
@[simp] theorem Kq (st:Own) (d:D):B9 [(st,.fz d)] = some (.fz (.bl (isInt d && !isBool d)),[.fz d]):=by
 simp only [B9,fnM,E7]
 cases d <;> walk_at "ev"
@[simp] theorem Fs (s1 s2:Own) (i b:Int):A6 [(s1,.fz (.int i)),(s2,.fz (.int b))] = some (.fz (.bl (decide (0≤i) && decide (i < b))),[.fz (.int i),.fz (.int b)]):=by
 simp only [A6,fnM,C7]
 by_cases h0:0≤i <;> walk_at "ev" <;> simp [h0]
@[simp] theorem F0 (st:Own) (x y:D):BC [(st,.fz (.tup [x,y]))] = some (.fz (.bl true),[.fz (.tup [x,y])]):=by
 simp only [BC,fnM,DB]
 walk_at "ev"
theorem JJ {α:Type} (xs:List α) (f:α → Bool):(xs.map f).all id = xs.all f:=by simp [List.all_map]
theorem Ho (s1 s2:Own) (xs:List Int) (b:Int) (hl:xs.length≤LIM):By [(s1,.fz (.lst (iL xs))),(s2,.fz (.int b))] = some (.fz (.bl (xs.all fun i=>decide (0≤i) && decide (i < b))),[.fz (.lst (iL xs)),.fz (.int b)]):=by
 have hc:=CA (it:=CZ (Ab 0)) (e:=Ak A6 (Aa (Ab 0) (Aa (Ab 2) Af))) (ρ:=[some (s1,.fz (.lst (iL xs))),some (s2,.fz (.int b))]) (ρ1:=[some (s1,.fz (.lst (iL xs))),some (s2,.fz (.int b))]) (ds:=iL xs) (n:=none) (f:=fun d=>.bl (decide (0≤nD d) && decide (nD d < b))) (by walk_at "ev") (by simpa using hl) (fun d hd=>by
  obtain ⟨i,_,rfl⟩:=PZ.mp hd
  refine ⟨.val (.fz (.bl (decide (0≤i) && decide (i < b)))),?_,?_⟩ <;> walk_at "ev" <;> rfl)
 rw [PY (fun i=>D.bl (decide (0≤i) && decide (i < b)))] at hc
 refine Bb (ρ:=[some (s1,.fz (.lst (iL xs))),some (s2,.fz (.int b))]) rfl ?_
 show Br [some (s1,.fz (.lst (iL xs))),some (s2,.fz (.int b))] = _
 unfold Br
 refine Bh ?_
 simp only [on1,on2,on3,Hc,Hi,Bs,CD,fzU,Cu,Eb,opM,Aa,Af,hc,Option.bind_some,Option.map_some,peeks,peek,E2,BY,BP,DS,JJ]
@[simp] theorem Df (s1 s2:Own) (xs:List Int) (b:Int) (hl:xs.length≤LIM):Ar [(s1,.fz (.lst (iL xs))),(s2,.fz (.int b))] = some (.fz (.bl (xs.all fun i=>decide (0≤i) && decide (i < b))),[.fz (.lst (iL xs)),.fz (.int b)]):=by
 have e1:=Ho .own .own xs b hl
 simp only [Ar,fnM,Az]
 clear hl
 walk_at "ev"
theorem Mb {xs:List Int} {k:Nat} (h:k < xs.length):atI (iL xs) (k:Int) = some (.int xs[k]):=by
 simp [atI,ixN,h,iL]
theorem CJ {α:Type} {xs:List α} {k:Nat} {i:Int} (hi:i = k) (h:k < xs.length):atI xs i = some xs[k]:=by
 subst hi
 simp [atI,ixN,h]
theorem Nq {xs:List Int} (h:xs.Pairwise (· < ·)) {k:Nat} (hk:k + 1 < xs.length):xs[k]'(by lia) < xs[k + 1]:=List.pairwise_iff_getElem.mp h k (k + 1) (by lia) hk (by lia)
theorem Sa {ds:List D} (h:∀ d∈ds,d = .bl true):∃ bs:List Bool,Dl ds = some bs∧bs.all id = true:=by
 induction ds with
 | nil=>exact ⟨[],rfl,rfl⟩
 | cons d ds ih =>
  obtain ⟨bs,h1,h2⟩:=ih fun x hx=>h x (List.mem_cons_of_mem _ hx)
  have:=h d List.mem_cons_self
  subst this
  exact ⟨true :: bs,by simp [Dl,h1],by simpa using h2⟩
theorem all_true {it:MI} {e:ME} {ρ ρ1:Ro} {ds:List D} {n:Option Nat} (hi:it ρ = some (ds,n,ρ1)) (hl:ds.length≤LIM) (he:∀ d∈ds,e (J.own d :: lock ρ1 n) = some (.val (.fz (.bl true)),J.own d :: lock ρ1 n)) :
  opM E2 (Aa (BH it 0 D9 e) Af) ρ = some (.val (.fz (.bl true)),ρ1):=by
 have hc:=CA (f:=fun _=>.bl true) hi hl fun d hd=>⟨_,he d hd,by simp [share,er]⟩
 obtain ⟨bs,h1,h2⟩:=Sa (ds:=ds.map fun _=>D.bl true) (by simp)
 simp only [on1,on2,on3,Hc,Hi,Bs,CD,fzU,Cu,Eb,opM,Aa,Af,hc,Option.bind_some,Option.map_some,peeks,peek,E2,BY,BP,h1,h2]
theorem Jy (s1 s2:Own) (xs:List Int) (b:Int) (hl:xs.length≤1000) (hr:xs.Pairwise (· < ·)) (hb:∀ x∈xs,0≤x∧x < b):AJ [(s1,.fz (.lst (iL xs))),(s2,.fz (.int b))] = some (.fz (.bl true),[.fz (.lst (iL xs)),.fz (.int b)]):=by
 have hL:xs.length≤LIM:=Nat.le_trans hl (by decide)
 simp only [AJ,fnM,A0]
 have h1:(xs.all fun i=>decide (0≤i) && decide (i < b)) = true:=by simpa [List.all_eq_true] using hb
 have hc:=all_true (it:=BL (opM C0 (m2L (opM Bq (Aa (Ab 0) Af)) (Ae (.int 1))))) (e:=opM ltA (m2L (opM ixA (m2L (Ab 1) (Ab 0))) (opM ixA (m2L (Ab 1) (opM AH (m2L (Ab 0) (Ae (.int 1)))))))) (ρ:=[some (s1,.fz (.lst (iL xs))),some (s2,.fz (.int b))]) (ds:=C5 0 ((xs.length:Int) - 1).toNat) (n:=none) (ρ1:=[some (s1,.fz (.lst (iL xs))),some (s2,.fz (.int b))])
  (by
   have : -(2 ^ 62)≤(xs.length:Int) - 1∧(xs.length:Int) - 1 < 2 ^ 62:=by lia
   simp only [BL]; walk_at "ev"; lia) (by rw [D8]; lia) (fun d hd=>by
   obtain ⟨j,hj⟩:=List.mem_iff_getElem?.mp hd
   obtain ⟨rfl,hj⟩:=EA hj
   have hk:j + 1 < xs.length:=by lia
   have e1:=CJ (xs:=iL xs) (i:=0 + (j:Int)) (k:=j) (by lia) (by simpa using (by lia:j < xs.length))
   have e2:=CJ (xs:=iL xs) (i:=0 + (j:Int) + 1) (k:=j + 1) (by lia) (by simpa using hk)
   have e3:=Nq hr hk
   simp only [iL,List.getElem_map] at e1 e2
   simp only [on1,on2,on3,Hc,Hi,Bs,CD,fzU,Cu,Eb,HJ,opM,m2L,Aa,Af,Ab,Ae,J.own,peeks,peek,ixA,Bs,CD,fzU,Cu,Eb,Option.some_or,Option.none_or,Option.bind_none,Ba,AH,ltA,List.getElem?_cons_zero,List.getElem?_cons_succ,Option.bind_some,Option.map_some,iL,e1,e2,e3,decide_true])
 simp only [AL,ifS,C4,AG,retS,Ak,Aa,Af,Ab,List.map_cons,List.map_nil,List.getElem?_cons_zero,List.getElem?_cons_succ,Option.bind_some,Option.map_some,CI,Ed,refs,List.nodup_nil,if_true,Df _ _ xs b hL,h1,back,peek,Ee,Bool.not_true,Bool.false_eq_true,if_false,AY,List.append_nil,List.length_cons,List.length_nil,Nat.sub_self,List.replicate_zero]
 simp [hc,move,Hm]
theorem call_of {Φ:Fn} {ms:MA} {ρ ρ1 ρ2:Ro} {rs:List R} {as:List (Own × A)} {a:A} {os:List A} (h1:ms ρ = some (rs,ρ1)) (h2:CI ρ1 rs = some as) (hn:decide (refs rs).Nodup = true) (h3 : Φ as = some (a,os)) (hb:back rs os ρ1 = ρ2):Ak Φ ms ρ = some (.val a,ρ2):=by
 subst hb
 simp only [Ak,h1,h2,h3,Option.bind_some,Option.map_some,if_pos (of_decide_eq_true hn)]
theorem Ap {f:List A→Option A} {ms:MA} {ρ ρ1:Ro} {rs:List R} {as:List A} {c:A} (h1:ms ρ = some (rs,ρ1)) (h2:peeks ρ1 rs = some as) (h3:f as = some c):opM f ms ρ = some (.val c,ρ1):=by
 simp only [opM,h1,h2,h3,Option.bind_some,Option.map_some]
theorem ixL {T:List D} {i:Int} {d:D} (h:atI T i = some d):ixA [.lst (T.map A.fz),.fz (.int i)] = some (.fz d):=by
 simp only [on1,on2,on3,Hc,Hi,ixA,Bs,fzU,Cu,Ba,CD,Eb,BP,h,Option.bind_some,Option.map_some,Option.some_or,Option.none_or,Option.bind_none]
theorem ixF {T:List D} {i:Int} {d:D} (h:atI T i = some d):ixA [.fz (.lst T),.fz (.int i)] = some (.fz d):=by
 simp only [on1,on2,on3,Hc,Hi,ixA,Bs,fzU,Cu,Ba,CD,Eb,h,Option.bind_some,Option.map_some,Option.some_or,Option.none_or,Option.bind_none]
theorem ixS {z:Str} {i:Int} {c:Nat} (h:atI z.cps.toList i = some c):ixA [.fz (.str z),.fz (.int i)] = some (.fz (chD c)):=by
 simp only [on1,on2,on3,Hc,Hi,ixA,Bs,fzU,Cu,Ba,CD,Eb,h,chD,Option.bind_some,Option.map_some,Option.some_or,Option.none_or,Option.bind_none,Option.map_none]
theorem IE {i j:Int} (h:decide (0≤j∧j≤1000000∧i.natAbs < 2 ^ 64) = true):Dv [.fz (.int i),.fz (.int j)] = some (.fz (.int (i * 2 ^ j.toNat))):=by
 simp only [on1,on2,on3,Hc,Hi,Dv,ET,Bs,fzU,Cu,Option.bind_some,h,if_true]
theorem Ny {i j:Int} (h:decide (0≤j) = true):EJ [.fz (.int i),.fz (.int j)] = some (.fz (.int (i / 2 ^ j.toNat))):=by
 simp only [on1,on2,on3,Hc,Hi,EJ,ET,Bs,fzU,Cu,Option.bind_some,h,if_true]
theorem AI {m1 m2:ME} {ρ ρ1 ρ2:Ro} {r1 r2:R} (h1:m1 ρ = some (r1,ρ1)) (h2:m2 ρ1 = some (r2,ρ2)):m2L m1 m2 ρ = some ([r1,r2],ρ2):=by
 simp only [m2L,Aa,Af,h1,h2,Option.bind_some,Option.map_some]
theorem G2 {m:ME} {ρ ρ1:Ro} {n:Int} (h:m ρ = some (.val (.fz (.int n)),ρ1)) (h0 : -1000≤n) (h1:n≤1000000):BL m ρ = some (C5 0 n.toNat,none,ρ1):=by
 have e0:(-(2 ^ 62)≤n∧n < 2 ^ 62) = True:=by simp; lia
 simp only [BL,h,Option.bind_some,e0,if_true]
noncomputable abbrev oI (i:Int):Slot:=some (.own,.fz (.int i))
noncomputable abbrev pN (x:Slot):Prop:=x = none∨∃ d,x = some (Own.own,A.fz d)
local macro_rules | `(tactic| walk_at "eo")=>do
 let l ← ("AL ifS N7 Hh GJ G3 AG opM m1L m2L Aa Af Ab Ae peeks peek er ers Ee J.andM J.notM orT C4 ER Ad share move moves keep BZ mkT lstM vals fzs BP D1 AK KC CP Ew Hf retS AY Cz free Jr Dx Ds Ak CI Ed refs back Kt Hm Dz isInt isBool Dt isTup isStr AH C0 ET J9 Gd IY FW Dv EJ DQ JN Du L8 Bq ixA Bs CD fzU Cu Eb Option.some_or Option.none_or Option.bind_none Ba BY eqA neA ltA leA gtA geA Ja CZ nameOf lock unlock IK shB F1 E2 slF J.own Ea HC HB F6 F7 DS Jb KS Mu A9 HD BL Sf on1 on2 on3 Hc Hi R9 List.getElem?_cons_zero List.getElem?_cons_succ List.getElem?_nil Option.bind_some Option.bind_none Option.map_some Option.map_none List.map_cons List.map_nil List.cons_append List.nil_append List.append_nil List.length_cons List.length_nil List.length_map List.replicate_zero List.replicate_succ List.nodup_nil List.set_cons_zero List.set_cons_succ List.take_succ_cons List.take_zero if_true if_false Bool.not_true Bool.not_false Bool.false_eq_true reduceIte reduceCtorEq Nat.reduceSub Nat.reduceAdd Nat.sub_self Bool.true_and Bool.and_true Bool.false_and Bool.and_false Bool.true_or Bool.or_true Bool.false_or Bool.or_false decide_true decide_false beq_self_eq_true and_self and_true true_and Nat.zero_add List.nodup_cons List.not_mem_nil not_false_eq_true".splitOn " ").mapM fun s=>`(Lean.Parser.Tactic.simpLemma| $(Lean.mkIdent s.toName):ident)
 let l:=l.toArray
 `(tactic| simp only [$l,*, *])
theorem Rg:(Str.ofString "a").cps.toList = [97]:=by decide +kernel
theorem Rh:(Str.ofString "z").cps.toList = [122]:=by decide +kernel
theorem J6 (a b:Nat):([a] < [b])↔a < b:=by
 rw [List.cons_lt_cons_iff]
 constructor
 ·rintro (h | ⟨_,h⟩)
  ·exact h
  ·exact absurd h (List.not_lt_nil _)
 ·intro h; exact .inl h
theorem at0 {α:Type} (a:α) (xs:List α):atI (a :: xs) 0 = some a:=by simp [atI,ixN]
theorem at1 {α:Type} (a b:α) (xs:List α):atI (a :: b :: xs) 1 = some b:=by
 have:(1:Int) < ((xs.length:Int) + 1 + 1):=by lia
 simp [atI,ixN,this]
theorem OK (st:Own) (c:Nat) (h:97≤c∧c≤122):BJ [(st,.fz (chD c))] = some (.fz (.bl true),[.fz (chD c)]):=by
 have e1:decide ([c] < [97]) = false:=by rw [decide_eq_false_iff_not,J6]; lia
 have e2:decide ([122] < [c]) = false:=by rw [decide_eq_false_iff_not,J6]; lia
 have e3:((Str.length ⟨#[c]⟩:Nat):Int) = 1:=rfl
 have e4:=Rg
 have e5:=Rh
 simp only [BJ,fnM,C8,chD]
 walk_at "eo"
theorem OI (s1 s2:Own) (n:Int) (p:Nat × List Int) (h:97≤p.1∧p.1≤122) (hl:p.2.length≤1000) (h0:p.2≠[]) (hr:p.2.Pairwise (· < ·)) (hb:∀ x∈p.2,0≤x∧x < n):CB [(s1,.fz (.int n)),(s2,.fz (ld p))] = some (.fz (.bl true),[.fz (.int n),.fz (ld p)]):=by
 have hp:decide ((0:Int) < (p.2.length:Int)) = true:=by
  have:=List.length_pos_iff.mpr h0
  simpa using this
 have e1:=at0 (chD p.1) [.lst (iL p.2)]
 have e2:=at1 (chD p.1) (.lst (iL p.2)) []
 have e3:=OK .own p.1 h
 have e4:=Jy .own .own p.2 n hl hr hb
 have e5:=F0 .own (chD p.1) (.lst (iL p.2))
 clear hb hr h0 h hl
 simp only [CB,fnM,E5,ld]
 walk_at "eo"
theorem OH (st:Own) (n:Int) (h1:2≤n) (h2:n≤4):Bz [(st,.fz (.int n))] = some (.fz (.bl true),[.fz (.int n)]):=by
 have e1:=Kq .own (.int n)
 simp only [Bz,fnM,CQ]
 walk_at "eo"
theorem Ey {n lo:Int}:∀ {xs:List Int},xs.Pairwise (· < ·)→(∀ x∈xs,lo≤x∧x < n)→(xs.length:Int)≤max 0 (n - lo):=by
 intro xs
 induction xs generalizing lo with
 | nil=>intro _ _; simp; lia
 | cons x xs ih =>
  intro hp hb
  have:=ih (lo:=x + 1) (List.pairwise_cons.mp hp).2 fun y hy=>⟨by have:=(List.pairwise_cons.mp hp).1 y hy; lia,(hb y (List.mem_cons_of_mem _ hy)).2⟩
  have:=hb x List.mem_cons_self
  simp only [List.length_cons]
  lia
theorem Hs.Ok.hl {h:Hs} (ok:h.Ok):∀ p∈h.ls,p.2.length≤4:=fun p hp=>by
 obtain ⟨_,r,b⟩:=ok.hs p hp
 have n2:=ok.n2
 have:=Ey r b
 lia
theorem LR (s1 s2:Own) (h:Hs) (ok:h.Ok):CM [(s1,.fz (.int h.n)),(s2,.fz (.lst (h.ls.map ld)))] = some (.fz (.bl true),[.fz (.int h.n),.fz (.lst (h.ls.map ld))]):=by
 have l1:=ok.l1
 have l2:=ok.l2
 have hlim:1000≤LIM:=by decide
 have hc1:=all_true (it:=CZ (Ab 1)) (e:=Ak CB (Aa (Ab 1) (Aa (Ab 0) Af))) (ρ:=[some (s1,.fz (.int h.n)),some (s2,.fz (.lst (h.ls.map ld)))]) (ds:=h.ls.map ld) (n:=none) (ρ1:=[some (s1,.fz (.int h.n)),some (s2,.fz (.lst (h.ls.map ld)))])
  (by walk_at "eo") (by simp; lia) (fun d hd=>by
   obtain ⟨p,hp,rfl⟩:=List.mem_map.mp hd
   obtain ⟨h0,hr,hb⟩:=ok.hs p hp
   have e1:=OI .own .own h.n p (ok.ch p hp) (by have:=ok.hl p hp; lia) h0 hr hb
   clear hb hr h0 hd hp
   walk_at "eo")
 have hc2:=all_true (it:=BL (opM C0 (m2L (opM Bq (Aa (Ab 1) Af)) (Ae (.int 1))))) (e:=opM ltA (m2L (opM ixA (m2L (opM ixA (m2L (Ab 2) (Ab 0))) (Ae (.int 0)))) (opM ixA (m2L (opM ixA (m2L (Ab 2) (opM AH (m2L (Ab 0) (Ae (.int 1)))))) (Ae (.int 0)))))) (ρ:=[some (s1,.fz (.int h.n)),some (s2,.fz (.lst (h.ls.map ld)))]) (ds:=C5 0 ((h.ls.length:Int) - 1).toNat) (n:=none) (ρ1:=[some (s1,.fz (.int h.n)),some (s2,.fz (.lst (h.ls.map ld)))])
  (by
   have e0:(-(2 ^ 62)≤(h.ls.length:Int) - 1∧(h.ls.length:Int) - 1 < 2 ^ 62) = True:=by simp; lia
   clear hc1
   walk_at "eo") (by rw [D8]; lia) (fun d hd=>by
   obtain ⟨j,hj⟩:=List.mem_iff_getElem?.mp hd
   obtain ⟨rfl,hj⟩:=EA hj
   have hk:j + 1 < h.ls.length:=by lia
   have e1:=CJ (xs:=h.ls.map ld) (i:=0 + (j:Int)) (k:=j) (by lia) (by simpa using (by lia:j < h.ls.length))
   have e2:=CJ (xs:=h.ls.map ld) (i:=0 + (j:Int) + 1) (k:=j + 1) (by lia) (by simpa using hk)
   have e3:(h.ls[j]'(by lia)).1 < (h.ls[j + 1]).1:=by
    have:=List.pairwise_iff_getElem.mp ok.ri j (j + 1) (by simp; lia) (by simpa using hk) (by lia)
    simpa using this
   simp only [List.getElem_map,ld,chD] at e1 e2
   have e4:decide ([(h.ls[j]'(by lia)).1] < [(h.ls[j + 1]).1]) = true:=by rw [decide_eq_true_iff]; exact (J6 _ _).mpr e3
   have e5:=at0 (D.str ⟨#[(h.ls[j]'(by lia)).1]⟩) [.lst (iL (h.ls[j]'(by lia)).2)]
   have e6:=at0 (D.str ⟨#[(h.ls[j + 1]).1]⟩) [.lst (iL (h.ls[j + 1]).2)]
   clear hc1 hd e3 hj l1 l2 hlim
   walk_at "eo")
 have e5:decide ((1:Int)≤(h.ls.length:Int)) = true:=by simp; lia
 have e6:decide ((h.ls.length:Int)≤6) = true:=by simp; lia
 clear l1 l2 hlim
 refine Bb (ρ:=[some (s1,.fz (.int h.n)),some (s2,.fz (.lst (h.ls.map ld)))]) rfl ?_
 show C6 [some (s1,.fz (.int h.n)),some (s2,.fz (.lst (h.ls.map ld)))] = _
 unfold C6
 rw [Am (ρ1:=[some (s1,.fz (.int h.n)),some (s2,.fz (.lst (h.ls.map ld)))]) (by clear hc1 hc2; walk_at "eo"),Am (Ek (not_of (BG hc1)))]
 exact Bh hc2
theorem Kp (st:Own) (h:Hs) (ok:h.Ok):C3 [(st,.fz h.d)] = some (.fz (.bl true),[.fz h.d]):=by
 have e1:=LR .own .own h ok
 have e2:=OH .own h.n ok.n1 ok.n2
 have e3:=F0 .own (.int h.n) (.lst (h.ls.map ld))
 have e4:=at0 (D.int h.n) [.lst (h.ls.map ld)]
 have e5:=at1 (D.int h.n) (.lst (h.ls.map ld)) []
 simp only [C3,fnM,E6,Hs.d]
 walk_at "eo"
theorem Fu (st:Own) (h:Hs) (ok:h.Ok):BR [(st,.fz h.d)] = some (.fz .non,[.fz h.d]):=by
 have e1:=Kp .own h ok
 simp only [BR,fnM,Eh]
 walk_at "eo"
noncomputable def Bag (n:Nat) (as:List A):Prop:=∃ x y:Int,as = [.fz (.int x),.fz (.int y)]∧0≤y∧y≤n
theorem Bag.mono {n m:Nat} {as:List A} (h:Bag n as) (hm:n≤m):Bag m as:=by
 obtain ⟨x,y,e,h1,h2⟩:=h
 exact ⟨x,y,e,h1,by lia⟩
theorem Nt (st:Own) (x:Int):∃ as a1,Bag 1 as∧Bx [(st,.fz (.int x))] = some (.lst as,[a1]):=by
 have p1:decide ((0:Int)≤18∧(18:Int)≤1000000∧Int.natAbs 10 < 2 ^ 64) = true:=by decide
 have l2:((2:Nat)≤LIM) = True:=by simp [LIM,sizeLine]
 have p2:decide ((0:Int) < 2147483647) = true:=by decide
 by_cases h:(10:Int) ^ (18:Int).toNat≤(if x < 0 then -x else x)
 ·refine ⟨_,_,⟨(if x < 0 then -x else x),0,rfl,by lia,by lia⟩,Bb (ρ:=[some (st,.fz (.int x))]) rfl ?_⟩
  show CK [some (st,.fz (.int x))] = _
  unfold CK
  have h':=decide_eq_true h
  clear h
  walk_at "eo"
 ·refine ⟨_,_,⟨x % 2147483647,1,rfl,by lia,by lia⟩,Bb (ρ:=[some (st,.fz (.int x))]) rfl ?_⟩
  show CK [some (st,.fz (.int x))] = _
  unfold CK
  have h':=decide_eq_false h
  clear h
  walk_at "eo"
theorem Cc {n:Nat} {as:List A} (hb:Bag n as) (hn:n≤1000000) (m:Int) (hm:0 < m) (hm2:m < 1099511627776):∃ (d:Int) (as':List A),0≤d∧d < m∧Bag (n + 1) as'∧Ag [(.lent,.lst as),(.own,.fz (.int m))] = some (.fz (.int d),[.lst as',.fz (.int m)]):=by
 obtain ⟨x,y,rfl,h1,h2⟩:=hb
 have m1:decide (0 < m) = true:=decide_eq_true hm
 have m2:decide (0 < m∧m < 1099511627776) = true:=decide_eq_true ⟨hm,hm2⟩
 have i0:ixN 2 0 = some 0:=by rfl
 have i1:ixN 2 1 = some 1:=by rfl
 by_cases hy:y = 0
 ·subst hy
  refine ⟨x % m,[.fz (.int (x / m)),.fz (.int 0)],Int.emod_nonneg _ (by lia),Int.emod_lt_of_pos _ hm,⟨_,_,rfl,by lia,by lia⟩,Bb (ρ:=[some (.lent,.lst [.fz (.int (x / m)),.fz (.int 0)]),some (.own,.fz (.int m)),some (.own,.fz (.int (x % m)))]) rfl ?_⟩
  show Cs [some (.lent,.lst [.fz (.int x),.fz (.int 0)]),some (.own,.fz (.int m)),none] = _
  unfold Cs
  have a0:=at0 (D.int x) [D.int 0]
  have a1:=at1 (D.int x) (D.int 0) []
  clear hm hm2 h1 h2 hn
  walk_at "eo"
 ·let x':=(x * 48271 + 7919 * y * y + 17) % 2147483647
  have e1:eqD (.int y) (.int 0) = false:=by simp [Ea,HC,HB,F6,F7,hy]
  have c1:(-(2 ^ 64) < x∧x < 2 ^ 64 ∨ -(2 ^ 64) < (48271:Int)∧(48271:Int) < 2 ^ 64) = True:=by simp
  have c2:(-(2 ^ 64) < (7919:Int)∧(7919:Int) < 2 ^ 64 ∨ -(2 ^ 64) < y∧y < 2 ^ 64) = True:=by simp
  have c3:(-(2 ^ 64) < 7919 * y∧7919 * y < 2 ^ 64 ∨ -(2 ^ 64) < y∧y < 2 ^ 64) = True:=by simp; lia
  have c4:(-(2 ^ 64) < x'∧x' < 2 ^ 64 ∨ -(2 ^ 64) < (69621:Int)∧(69621:Int) < 2 ^ 64) = True:=by simp
  have d1:decide ((0:Int) < 2147483647) = true:=by decide
  have d2:decide ((0:Int) < 2147483629) = true:=by decide
  have d3:decide ((0:Int) < 5∧(5:Int) < 1099511627776) = true:=by decide
  have hx:(x * 48271 + 7919 * y * y + 17) % 2147483647 = x':=rfl
  refine ⟨x' * 69621 % 2147483629 / 5 % m,[.fz (.int x'),.fz (.int (y + 1))],Int.emod_nonneg _ (by lia),Int.emod_lt_of_pos _ hm,⟨_,_,rfl,by lia,by lia⟩,Bb (ρ:=[some (.lent,.lst [.fz (.int x'),.fz (.int (y + 1))]),some (.own,.fz (.int m)),none]) rfl ?_⟩
  show Cs [some (.lent,.lst [.fz (.int x),.fz (.int y)]),some (.own,.fz (.int m)),none] = _
  unfold Cs
  have a0:=at0 (D.int x) [D.int y]
  have a1:=at1 (D.int x) (D.int y) []
  have a2:=at1 (D.int x') (D.int y) []
  have a3:=at0 (D.int x') [D.int (y + 1)]
  rw [Am (ρ1:=[some (.lent,.lst [.fz (.int x),.fz (.int y)]),some (.own,.fz (.int m)),none]) (by
   simp only [Ea,HC,HB,F6,F7] at e1
   clear hm hm2 h1 h2 hn c1 c2 c3 c4 hx hy
   walk_at "eo"),Am (ρ1:=[some (.lent,.lst [.fz (.int x'),.fz (.int y)]),some (.own,.fz (.int m)),none]) (by
   clear hm hm2 h1 h2 hn c4 hy e1
   walk_at "eo"),Am (ρ1:=[some (.lent,.lst [.fz (.int x'),.fz (.int (y + 1))]),some (.own,.fz (.int m)),none]) (by
   clear hm hm2 h1 h2 hn c4 hy e1 c1 c2 c3 hx
   walk_at "eo")]
  refine Bh ?_
  clear hm hm2 h1 h2 hn hy e1 c1 c2 c3 hx
  walk_at "eo"
noncomputable def Gs (b:Int) (i:Nat):Bool:=eqD (.int (Builtin.bitAnd (b / 2 ^ i) 1)) (.int 1)
noncomputable def DR (n:Nat) (b:Int):List Int:=((List.range n).filter (Gs b)).map fun (i:Nat)=>(i:Int)
theorem Hy (n:Nat) (b:Int):(DR n b).Pairwise (· < ·):=by
 unfold DR
 rw [List.pairwise_map]
 have:((List.range n).filter (Gs b)).Pairwise (· < ·):=List.Pairwise.filter _ List.pairwise_lt_range
 exact this.imp fun h=>by lia
theorem KJ {n:Nat} {b:Int}:∀ x∈DR n b,0≤x∧x < n:=by
 intro x hx
 simp only [DR,List.mem_map,List.mem_filter,List.mem_range] at hx
 obtain ⟨i,⟨hi,_⟩,rfl⟩:=hx
 lia
theorem IT:∀ n∈[2,3,4],∀ b∈List.range 16,1≤b→b < 2 ^ n→DR n (b:Int)≠[]:=by decide +kernel
theorem Qd:∀ n∈[2,3,4],∀ a∈List.range n,∀ b∈List.range n,1≤Builtin.bitOr (1 * 2 ^ a) (1 * 2 ^ b)∧Builtin.bitOr (1 * 2 ^ a) (1 * 2 ^ b) < 2 ^ n:=by decide +kernel
theorem NS {n:Nat} {b:Int} (hn:n = 2∨n = 3∨n = 4) (h1:1≤b) (h2:b < 2 ^ n):DR n b≠[]:=by
 obtain ⟨k,rfl⟩:∃ k:Nat,b = k:=⟨b.toNat,by lia⟩
 have h16:(2:Int) ^ n≤16:=by rcases hn with rfl | rfl | rfl <;> decide
 refine IT n (by rcases hn with rfl | rfl | rfl <;> simp) k (by simp; lia) (by lia) ?_
 have:((k:Nat):Int) < ((2 ^ n:Nat):Int):=by simpa using h2
 lia
theorem cons_of {m:ME} {ms:MA} {ρ ρ1 ρ2:Ro} {r:R} {rs:List R} (h1:m ρ = some (r,ρ1)) (h2:ms ρ1 = some (rs,ρ2)):Aa m ms ρ = some (r :: rs,ρ2):=by simp [Aa,h1,h2]
theorem Aw {m:ME} {ρ ρ1 ρ2:Ro} {r:R} {d:D} (h1:m ρ = some (r,ρ1)) (h2:share ρ1 r = some (d,ρ2)):Ad m ρ = some (.val (.fz d),ρ2):=by simp [Ad,h1,h2]
theorem DI {ms:MA} {ρ ρ1:Ro} {a b:D} (h:ms ρ = some ([.val (.fz a),.val (.fz b)],ρ1)):BZ ms ρ = some (.val (.fz (.tup [a,b])),ρ1):=by
 simp [BZ,h,moves,move,mkT,fzs,LIM,sizeLine]
theorem Ph {m:ME} {i:Nat} {ρ:Ro} {st:Own} {as:List A} {a:A} (h0:Ds ρ i = some (st,as)) (h:m ρ = some (.val a,ρ)) (hl:as.length < LIM):Dx i m ρ = some (.next (ρ.set i (some (st,.lst (as ++ [a]))))):=by
 simp only [Dx,h0,Option.bind_some,h,keep,if_pos hl]
theorem BN (ρ:Ro) (ds:List D):share ρ (.val (.lst (ds.map A.fz))) = some (.lst ds,ρ):=by
 simp [share,er,D1]
theorem NK:∀ k∈List.range 26,atI (Str.ofString "abcdefghijklmnopqrstuvwxyz").cps.toList (k:Int) = some (97 + k):=by decide +kernel
theorem KL (n:Nat) (b:Int):(((C5 0 n).filter fun d=>Gs b (nD d).toNat).map fun d=>d) = iL (DR n b):=by
 have e1:(fun d=>Gs b (nD d).toNat) ∘ (fun (k:Nat)=>D.int (0 + (k:Int))) = Gs b:=by
  funext k
  simp
 have e2:D.int ∘ (fun (i:Nat)=>(i:Int)) = fun (k:Nat)=>D.int (0 + (k:Int)):=by
  funext k
  simp
 rw [List.map_id',C5,List.filter_map,e1,iL,DR,List.map_map,e2]
structure HI (n:Int) (M j:Nat) (ls:List (Nat × List Int)) (a:Int):Prop where
 len:ls.length = j
 a0:0≤a
 a1:a≤26 - M + j
 ch:∀ p∈ls,97≤p.1∧(p.1:Int) < 97 + a
 ri:(ls.map (·.1)).Pairwise (· < ·)
 hs:∀ p∈ls,p.2≠[]∧p.2.Pairwise (· < ·)∧∀ x∈p.2,0≤x∧x < n
theorem HI.step {n:Int} {M j:Nat} {ls:List (Nat × List Int)} {a d:Int} {hl:List Int} (h:HI n M j ls a) (d0:0≤d) (d1:d < 27 - M + (0 + (j:Int)) - a) (hl0:hl≠[]) (hl1:hl.Pairwise (· < ·)) (hl2:∀ x∈hl,0≤x∧x < n):HI n M (j + 1) (ls ++ [(97 + (a + d).toNat,hl)]) (a + d + 1):=by
 have a0:=h.a0
 refine ⟨by simp [h.len],by lia,by lia,?_,?_,?_⟩
 ·intro p hp
  rcases List.mem_append.mp hp with hp | hp
  ·have:=h.ch p hp; lia
  ·simp only [List.mem_singleton] at hp; subst hp; simp only; lia
 ·rw [List.map_append,List.pairwise_append]
  refine ⟨h.ri,by simp,?_⟩
  intro x hx y hy
  obtain ⟨p,hp,rfl⟩:=List.mem_map.mp hx
  simp only [List.map_cons,List.map_nil,List.mem_singleton] at hy
  subst hy
  have:=(h.ch p hp).2
  lia
 ·intro p hp
  rcases List.mem_append.mp hp with hp | hp
  ·exact h.hs p hp
  ·simp only [List.mem_singleton] at hp; subst hp; exact ⟨hl0,hl1,hl2⟩
noncomputable abbrev eK (as:List A) (n M S:Int) (ls:List (Nat × List Int)) (a:Int) (x6 x7:Slot):Ro:=[some (.lent,.lst as),oI n,oI M,oI S,some (.own,.lst (ls.map fun p=>A.fz (ld p))),oI a,x6,x7]
noncomputable def cH:MS:=(AL (AK 5 (opM AH (m2L (Ab 5) (Ak Ag (Aa (Ab 0) (Aa (opM C0 (m2L (opM AH (m2L (opM C0 (m2L (Ae (.int 27)) (Ab 2))) (Ab 6))) (Ab 5))) Af)))))) (AL (AK 7 (opM AH (m2L (Ae (.int 1)) (Ak Ag (Aa (Ab 0) (Aa (opM C0 (m2L (opM Dv (m2L (Ae (.int 1)) (Ab 1))) (Ae (.int 1)))) Af)))))) (AL (ifS (AG (opM eqA (m2L (Ab 3) (Ae (.int 1))))) (AK 7 (opM JN (m2L (opM Dv (m2L (Ae (.int 1)) (Ak Ag (Aa (Ab 0) (Aa (Ab 1) Af))))) (opM Dv (m2L (Ae (.int 1)) (Ak Ag (Aa (Ab 0) (Aa (Ab 1) Af)))))))) AY) (AL (Dx 4 (BZ (Aa (Ad (opM ixA (m2L (Ae (.str (Str.ofString "abcdefghijklmnopqrstuvwxyz"))) (Ab 5)))) (Aa (Ad (BH (BL (Ab 1)) 0 (AG (opM eqA (m2L (opM DQ (m2L (opM EJ (m2L (Ab 8) (Ab 0))) (Ae (.int 1)))) (Ae (.int 1))))) (Ab 0))) Af)))) (AK 5 (opM AH (m2L (Ab 5) (Ae (.int 1)))))))))
theorem IA {n M S a:Int} {Mn j N:Nat} {as:List A} {ls:List (Nat × List Int)} {x7:Slot} (hM:M = Mn) (hM2:Mn≤6) (hj:j < Mn) (hn:n = 2∨n = 3∨n = 4) (hb:Bag N as) (hN:N≤100000) (hi:HI n Mn j ls a) (hx7:pN x7) :
  ∃ as' ls' a' b,cH (eK as n M S ls a (oI (0 + (j:Int))) x7) = some (.next (eK as' n M S ls' a' (oI (0 + (j:Int))) (oI b)))∧Bag (N + 4) as'∧HI n Mn (j + 1) ls' a':=by
 have a0:=hi.a0
 have a1:=hi.a1
 have hp:(1:Int) * 2 ^ n.toNat - 1≤15∧0 < (1:Int) * 2 ^ n.toNat - 1:=by rcases hn with rfl | rfl | rfl <;> decide
 have sh:decide (0≤n∧n≤1000000∧Int.natAbs 1 < 2 ^ 64) = true:=by rcases hn with rfl | rfl | rfl <;> decide
 obtain ⟨d1,as1,g1,g2,b1,t1⟩:=Cc hb (by lia) (27 - M + (0 + (j:Int)) - a) (by lia) (by lia)
 obtain ⟨d2,as2,g3,g4,b2,t2⟩:=Cc b1 (by lia) ((1:Int) * 2 ^ n.toNat - 1) (by lia) (by lia)
 have v1:(Ak Ag (Aa (Ab 0) (Aa (opM C0 (m2L (opM AH (m2L (opM C0 (m2L (Ae (.int 27)) (Ab 2))) (Ab 6))) (Ab 5))) Af))) (eK as n M S ls a (oI (0 + (j:Int))) x7) = some (.val (.fz (.int d1)),(eK as1 n M S ls a (oI (0 + (j:Int))) x7)):=call_of rfl rfl rfl t1 rfl
 have v1':(opM AH (m2L (Ab 5) (Ak Ag (Aa (Ab 0) (Aa (opM C0 (m2L (opM AH (m2L (opM C0 (m2L (Ae (.int 27)) (Ab 2))) (Ab 6))) (Ab 5))) Af))))) (eK as n M S ls a (oI (0 + (j:Int))) x7) = some (.val (.fz (.int (a + d1))),(eK as1 n M S ls a (oI (0 + (j:Int))) x7)):=Ap (AI (r1:=.val (.fz (.int a))) rfl v1) rfl rfl
 have st1:AK 5 (opM AH (m2L (Ab 5) (Ak Ag (Aa (Ab 0) (Aa (opM C0 (m2L (opM AH (m2L (opM C0 (m2L (Ae (.int 27)) (Ab 2))) (Ab 6))) (Ab 5))) Af))))) (eK as n M S ls a (oI (0 + (j:Int))) x7) = some (.next (eK as1 n M S ls (a + d1) (oI (0 + (j:Int))) x7)):=Bn v1' rfl
 have w2:(opM Dv (m2L (Ae (.int 1)) (Ab 1))) (eK as1 n M S ls (a + d1) (oI (0 + (j:Int))) x7) = some (.val (.fz (.int (1 * 2 ^ n.toNat))),(eK as1 n M S ls (a + d1) (oI (0 + (j:Int))) x7)):=Ap rfl rfl (IE sh)
 have w2':(opM C0 (m2L (opM Dv (m2L (Ae (.int 1)) (Ab 1))) (Ae (.int 1)))) (eK as1 n M S ls (a + d1) (oI (0 + (j:Int))) x7) = some (.val (.fz (.int (1 * 2 ^ n.toNat - 1))),(eK as1 n M S ls (a + d1) (oI (0 + (j:Int))) x7)):=Ap (AI (r2:=.val (.fz (.int 1))) w2 rfl) rfl rfl
 have v2:(Ak Ag (Aa (Ab 0) (Aa (opM C0 (m2L (opM Dv (m2L (Ae (.int 1)) (Ab 1))) (Ae (.int 1)))) Af))) (eK as1 n M S ls (a + d1) (oI (0 + (j:Int))) x7) = some (.val (.fz (.int d2)),(eK as2 n M S ls (a + d1) (oI (0 + (j:Int))) x7)):=call_of (cons_of (r:=.ref 0) rfl (cons_of w2' rfl)) rfl rfl t2 rfl
 have v2':(opM AH (m2L (Ae (.int 1)) (Ak Ag (Aa (Ab 0) (Aa (opM C0 (m2L (opM Dv (m2L (Ae (.int 1)) (Ab 1))) (Ae (.int 1)))) Af))))) (eK as1 n M S ls (a + d1) (oI (0 + (j:Int))) x7) = some (.val (.fz (.int (1 + d2))),(eK as2 n M S ls (a + d1) (oI (0 + (j:Int))) x7)):=Ap (AI (r1:=.val (.fz (.int 1))) rfl v2) rfl rfl
 have st2:AK 7 (opM AH (m2L (Ae (.int 1)) (Ak Ag (Aa (Ab 0) (Aa (opM C0 (m2L (opM Dv (m2L (Ae (.int 1)) (Ab 1))) (Ae (.int 1)))) Af))))) (eK as1 n M S ls (a + d1) (oI (0 + (j:Int))) x7) = some (.next (eK as2 n M S ls (a + d1) (oI (0 + (j:Int))) (oI (1 + d2)))):=by
  rcases hx7 with rfl | ⟨d,rfl⟩ <;> exact Bn v2' rfl
 have ct:(AG (opM eqA (m2L (Ab 3) (Ae (.int 1))))) (eK as2 n M S ls (a + d1) (oI (0 + (j:Int))) (oI (1 + d2))) = some (eqD (.int S) (.int 1),(eK as2 n M S ls (a + d1) (oI (0 + (j:Int))) (oI (1 + d2)))):=rfl
 have st3:∃ as3 b,Bag (N + 4) as3∧1≤b∧b < 2 ^ n.toNat∧(ifS (AG (opM eqA (m2L (Ab 3) (Ae (.int 1))))) (AK 7 (opM JN (m2L (opM Dv (m2L (Ae (.int 1)) (Ak Ag (Aa (Ab 0) (Aa (Ab 1) Af))))) (opM Dv (m2L (Ae (.int 1)) (Ak Ag (Aa (Ab 0) (Aa (Ab 1) Af)))))))) AY) (eK as2 n M S ls (a + d1) (oI (0 + (j:Int))) (oI (1 + d2))) = some (.next (eK as3 n M S ls (a + d1) (oI (0 + (j:Int))) (oI b))):=by
  by_cases hS:S = 1
  ·obtain ⟨d3,as3,g5,g6,b3,t3⟩:=Cc b2 (by lia) n (by lia) (by lia)
   obtain ⟨d4,as4,g7,g8,b4,t4⟩:=Cc b3 (by lia) n (by lia) (by lia)
   have ho:=Qd n.toNat (by rcases hn with rfl | rfl | rfl <;> simp) d3.toNat (by simp; lia) d4.toNat (by simp; lia)
   have sh3:decide (0≤d3∧d3≤1000000∧Int.natAbs 1 < 2 ^ 64) = true:=by simp; lia
   have sh4:decide (0≤d4∧d4≤1000000∧Int.natAbs 1 < 2 ^ 64) = true:=by simp; lia
   refine ⟨as4,_,b4.mono (by lia),ho.1,ho.2,?_⟩
   have e1:eqD (.int S) (.int 1) = true:=by rw [hS]; exact Ei _
   rw [e1] at ct
   have u1:(Ak Ag (Aa (Ab 0) (Aa (Ab 1) Af))) (eK as2 n M S ls (a + d1) (oI (0 + (j:Int))) (oI (1 + d2))) = some (.val (.fz (.int d3)),(eK as3 n M S ls (a + d1) (oI (0 + (j:Int))) (oI (1 + d2)))):=call_of rfl rfl rfl t3 rfl
   have u2:(Ak Ag (Aa (Ab 0) (Aa (Ab 1) Af))) (eK as3 n M S ls (a + d1) (oI (0 + (j:Int))) (oI (1 + d2))) = some (.val (.fz (.int d4)),(eK as4 n M S ls (a + d1) (oI (0 + (j:Int))) (oI (1 + d2)))):=call_of rfl rfl rfl t4 rfl
   have u3:(opM JN (m2L (opM Dv (m2L (Ae (.int 1)) (Ak Ag (Aa (Ab 0) (Aa (Ab 1) Af))))) (opM Dv (m2L (Ae (.int 1)) (Ak Ag (Aa (Ab 0) (Aa (Ab 1) Af))))))) (eK as2 n M S ls (a + d1) (oI (0 + (j:Int))) (oI (1 + d2))) = some (.val (.fz (.int (Builtin.bitOr (1 * 2 ^ d3.toNat) (1 * 2 ^ d4.toNat)))),(eK as4 n M S ls (a + d1) (oI (0 + (j:Int))) (oI (1 + d2)))):=Ap (AI (Ap (AI (r1:=.val (.fz (.int 1))) rfl u1) rfl (IE sh3)) (Ap (AI (r1:=.val (.fz (.int 1))) rfl u2) rfl (IE sh4))) rfl rfl
   exact (GF ct).trans (Bn u3 rfl)
  ·refine ⟨as2,_,b2.mono (by lia),(by lia:1≤1 + d2),by lia,?_⟩
   have e1:eqD (.int S) (.int 1) = false:=by simp [Ea,HC,HB,F6,F7,hS]
   rw [e1] at ct
   exact (Ek ct).trans rfl
 obtain ⟨as3,b,b3,c1,c2,st3⟩:=st3
 have hc:(BH (BL (Ab 1)) 0 (AG (opM eqA (m2L (opM DQ (m2L (opM EJ (m2L (Ab 8) (Ab 0))) (Ae (.int 1)))) (Ae (.int 1))))) (Ab 0)) (eK as3 n M S ls (a + d1) (oI (0 + (j:Int))) (oI b)) = some (.val (.lst ((iL (DR n.toNat b)).map A.fz)),(eK as3 n M S ls (a + d1) (oI (0 + (j:Int))) (oI b))):=by
  have hlim:1000≤LIM:=by decide
  have rg:BL (Ab 1) (eK as3 n M S ls (a + d1) (oI (0 + (j:Int))) (oI b)) = some (C5 0 n.toNat,none,(eK as3 n M S ls (a + d1) (oI (0 + (j:Int))) (oI b))):=G2 rfl (by lia) (by lia)
  have:=Gv (g:=fun d=>Gs b (nD d).toNat) (f:=fun d=>d) (c:=(AG (opM eqA (m2L (opM DQ (m2L (opM EJ (m2L (Ab 8) (Ab 0))) (Ae (.int 1)))) (Ae (.int 1)))))) (e:=Ab 0) rg (by rw [D8]; lia) (fun d hd=>by
   obtain ⟨i,hi⟩:=List.mem_iff_getElem?.mp hd
   obtain ⟨rfl,hi⟩:=EA hi
   have e0:decide (0≤(0:Int) + (i:Int)) = true:=by simp
   have r1:(opM EJ (m2L (Ab 8) (Ab 0))) (own (.int (0 + (i:Int))) :: (eK as3 n M S ls (a + d1) (oI (0 + (j:Int))) (oI b))) = some (.val (.fz (.int (b / 2 ^ (0 + (i:Int)).toNat))),own (.int (0 + (i:Int))) :: (eK as3 n M S ls (a + d1) (oI (0 + (j:Int))) (oI b))):=Ap rfl rfl (Ny e0)
   have r2:(opM DQ (m2L (opM EJ (m2L (Ab 8) (Ab 0))) (Ae (.int 1)))) (own (.int (0 + (i:Int))) :: (eK as3 n M S ls (a + d1) (oI (0 + (j:Int))) (oI b))) = some (.val (.fz (.int (Builtin.bitAnd (b / 2 ^ (0 + (i:Int)).toNat) 1))),own (.int (0 + (i:Int))) :: (eK as3 n M S ls (a + d1) (oI (0 + (j:Int))) (oI b))):=Ap (AI (r2:=.val (.fz (.int 1))) r1 rfl) rfl rfl
   exact BG (Ap (AI (r2:=.val (.fz (.int 1))) r2 rfl) rfl rfl)) (fun d hd _=>⟨.val (.fz d),rfl,rfl⟩)
  rw [this,KL]
 have ha:=NK (a + d1).toNat (by simp; lia)
 have hcx:atI (Str.ofString "abcdefghijklmnopqrstuvwxyz").cps.toList (a + d1) = some (97 + (a + d1).toNat):=by
  have:(((a + d1).toNat:Nat):Int) = a + d1:=by lia
  rw [this] at ha; exact ha
 have hix:(opM ixA (m2L (Ae (.str (Str.ofString "abcdefghijklmnopqrstuvwxyz"))) (Ab 5))) (eK as3 n M S ls (a + d1) (oI (0 + (j:Int))) (oI b)) = some (.val (.fz (chD (97 + (a + d1).toNat))),(eK as3 n M S ls (a + d1) (oI (0 + (j:Int))) (oI b))):=Ap rfl rfl (ixS hcx)
 have hlsl:(ls.map fun p=>A.fz (ld p)).length < LIM:=by
  have hlim:1000≤LIM:=by decide
  have:=hi.len
  simp only [List.length_map]; lia
 have st4:(Dx 4 (BZ (Aa (Ad (opM ixA (m2L (Ae (.str (Str.ofString "abcdefghijklmnopqrstuvwxyz"))) (Ab 5)))) (Aa (Ad (BH (BL (Ab 1)) 0 (AG (opM eqA (m2L (opM DQ (m2L (opM EJ (m2L (Ab 8) (Ab 0))) (Ae (.int 1)))) (Ae (.int 1))))) (Ab 0))) Af)))) (eK as3 n M S ls (a + d1) (oI (0 + (j:Int))) (oI b)) = some (.next (eK as3 n M S (ls ++ [((97 + (a + d1).toNat),DR n.toNat b)]) (a + d1) (oI (0 + (j:Int))) (oI b))):=by
  rw [Ph (st:=.own) (as:=ls.map fun p=>A.fz (ld p)) rfl (DI (cons_of (Aw hix rfl) (cons_of (Aw hc (BN _ _)) rfl))) hlsl]
  simp [ld,eK]
 have hbits:=NS (n:=n.toNat) (b:=b) (by lia) c1 c2
 refine ⟨as3,(ls ++ [((97 + (a + d1).toNat),DR n.toNat b)]),a + d1 + 1,b,?_,b3,hi.step g1 (by lia) hbits (Hy _ _) (fun x hx=>by have:=KJ x hx; lia)⟩
 exact (Am st1).trans ((Am st2).trans ((Am st3).trans ((Am st4).trans rfl)))
theorem OJ {N:Nat} {as:List A} (hb:Bag N as) (hN:N≤1000):∃ h:Hs,∃ as',h.Ok∧Bag (N + 30) as'∧Ct [(.lent,.lst as)] = some (.fz h.d,[.lst as']):=by
 obtain ⟨d1,as1,g1,g2,b1,t1⟩:=Cc hb (by lia) 3 (by lia) (by lia)
 obtain ⟨d2,as2,g3,g4,b2,t2⟩:=Cc b1 (by lia) 6 (by lia) (by lia)
 obtain ⟨d3,as3,g5,g6,b3,t3⟩:=Cc b2 (by lia) 2 (by lia) (by lia)
 have rg:BL (Ab 2) (eK as3 (2 + d1) (1 + d2) d3 [] 0 none none) = some (C5 0 (1 + d2).toNat,none,(eK as3 (2 + d1) (1 + d2) d3 [] 0 none none)):=G2 rfl (by lia) (by lia)
 obtain ⟨ρ',f1,f2⟩:=E9 (is:=[6]) (one:=true) (b:=cH)
  (fun j ρ=>∃ as' ls' a' x6 x7,pN x6∧pN x7∧Bag (N + 3 + 4 * j) as'∧HI (2 + d1) (1 + d2).toNat j ls' a' ∧ ρ = (eK as' (2 + d1) (1 + d2) d3 ls' a' x6 x7)) rg ⟨as3,[],0,none,none,.inl rfl,.inl rfl,b3,⟨rfl,by lia,by lia,by simp,by simp,by simp⟩,rfl⟩ (fun j d ρ hd hI=>by
   obtain ⟨as',ls',a',x6,x7,hx6,hx7,hb',hi,rfl⟩:=hI
   obtain ⟨rfl,hj⟩:=EA hd
   obtain ⟨as'',ls'',a'',b,s1,s2,s3⟩:=IA (n:=2 + d1) (M:=1 + d2) (S:=d3) (Mn:=(1 + d2).toNat) (j:=j) (by lia) (by lia) hj (by lia) hb' (by lia) hi hx7
   refine ⟨_,_,?_,.inl s1,as'',ls'',a'',_,_,.inr ⟨_,rfl⟩,.inr ⟨_,rfl⟩,s2.mono (by lia),s3,rfl⟩
   rcases hx6 with rfl | ⟨d,rfl⟩ <;> rfl)
 rw [D8] at f2
 obtain ⟨as',ls',a',x6,x7,_,_,hb',hi,rfl⟩:=f2
 have hn2:2 + d1≤4:=by lia
 have ha1:=hi.a1
 have hlen:=hi.len
 have ok:Hs.Ok ⟨2 + d1,ls'⟩:=⟨by simp only; lia,hn2,by simp only; lia,by simp only; lia,fun p hp=>by have:=hi.ch p hp; lia,hi.ri,hi.hs⟩
 refine ⟨⟨2 + d1,ls'⟩,as',ok,hb'.mono (by lia),Bb (ρ:=[some (.lent,.lst as'),some (.own,.fz (.int (2 + d1))),some (.own,.fz (.int (1 + d2))),some (.own,.fz (.int d3)),some (.own,.fz (.lst (ls'.map ld))),some (.own,.fz (.int a')),x6,x7]) rfl ?_⟩
 show Dm [some (.lent,.lst as),none,none,none,none,none,none,none] = _
 unfold Dm
 have y1:(Ak Ag (Aa (Ab 0) (Aa (Ae (.int 3)) Af))) [some (.lent,.lst as),none,none,none,none,none,none,none] = some (.val (.fz (.int d1)),[some (.lent,.lst as1),none,none,none,none,none,none,none]):=call_of rfl rfl rfl t1 rfl
 have y2:(opM AH (m2L (Ae (.int 2)) (Ak Ag (Aa (Ab 0) (Aa (Ae (.int 3)) Af))))) [some (.lent,.lst as),none,none,none,none,none,none,none] = some (.val (.fz (.int (2 + d1))),[some (.lent,.lst as1),none,none,none,none,none,none,none]):=Ap (AI (r1:=.val (.fz (.int 2))) rfl y1) rfl rfl
 have z1:AK 1 (opM AH (m2L (Ae (.int 2)) (Ak Ag (Aa (Ab 0) (Aa (Ae (.int 3)) Af))))) [some (.lent,.lst as),none,none,none,none,none,none,none] = some (.next [some (.lent,.lst as1),oI (2 + d1),none,none,none,none,none,none]):=Bn y2 rfl
 have y3:(Ak Ag (Aa (Ab 0) (Aa (Ae (.int 6)) Af))) [some (.lent,.lst as1),oI (2 + d1),none,none,none,none,none,none] = some (.val (.fz (.int d2)),[some (.lent,.lst as2),oI (2 + d1),none,none,none,none,none,none]):=call_of rfl rfl rfl t2 rfl
 have y4:(opM AH (m2L (Ae (.int 1)) (Ak Ag (Aa (Ab 0) (Aa (Ae (.int 6)) Af))))) [some (.lent,.lst as1),oI (2 + d1),none,none,none,none,none,none] = some (.val (.fz (.int (1 + d2))),[some (.lent,.lst as2),oI (2 + d1),none,none,none,none,none,none]):=Ap (AI (r1:=.val (.fz (.int 1))) rfl y3) rfl rfl
 have z2:AK 2 (opM AH (m2L (Ae (.int 1)) (Ak Ag (Aa (Ab 0) (Aa (Ae (.int 6)) Af))))) [some (.lent,.lst as1),oI (2 + d1),none,none,none,none,none,none] = some (.next [some (.lent,.lst as2),oI (2 + d1),oI (1 + d2),none,none,none,none,none]):=Bn y4 rfl
 have y5:(Ak Ag (Aa (Ab 0) (Aa (Ae (.int 2)) Af))) [some (.lent,.lst as2),oI (2 + d1),oI (1 + d2),none,none,none,none,none] = some (.val (.fz (.int d3)),[some (.lent,.lst as3),oI (2 + d1),oI (1 + d2),none,none,none,none,none]):=call_of rfl rfl rfl t3 rfl
 have z3:AK 3 (Ak Ag (Aa (Ab 0) (Aa (Ae (.int 2)) Af))) [some (.lent,.lst as2),oI (2 + d1),oI (1 + d2),none,none,none,none,none] = some (.next [some (.lent,.lst as3),oI (2 + d1),oI (1 + d2),oI d3,none,none,none,none]):=Bn y5 rfl
 refine (Am z1).trans ((Am z2).trans ((Am z3).trans ((Am (ρ1:=[some (.lent,.lst as3),oI (2 + d1),oI (1 + d2),oI d3,some (.own,.lst []),none,none,none]) rfl).trans ((Am (ρ1:=(eK as3 (2 + d1) (1 + d2) d3 [] 0 none none)) rfl).trans ((Am f1).trans ?_)))))
 refine Bh ?_
 refine DI (cons_of (Aw rfl rfl) (cons_of (Aw (r:=.ref 4) rfl ?_) rfl))
 have:=D1 (ls'.map ld)
 rw [List.map_map] at this
 simp only [unlock,share,List.getElem?_cons_zero,List.getElem?_cons_succ,er]
 rw [show (ls'.map fun p=>A.fz (ld p)) = ls'.map (A.fz ∘ ld) from rfl,this]
 rfl
theorem OW {n j:Nat} {d:D} (h:(C5 0 n)[j]? = some d):d = .int j∧j < n:=by
 obtain ⟨h1,h2⟩:=EA h
 rw [Int.zero_add] at h1
 exact ⟨h1,h2⟩
theorem La {m:ME} {ρ ρ1:Ro} {n:Int} (h:m ρ = some (.val (.fz (.int n)),ρ1)) (h0:0≤n) (h1:n≤1000000):BL m ρ = some (C5 0 n.toNat,none,ρ1):=by
 have e0:(-(2 ^ 62)≤n∧n < 2 ^ 62) = True:=by simp; lia
 simp only [BL,h,Option.bind_some,e0,if_true]
theorem nil_of (ρ:Ro):Af ρ = some ([],ρ):=rfl
theorem Nx:∀ (n:Nat) (xs:List Int),F1 n (iL xs) = true
 | n,[]=>rfl
 | n,x :: xs=>by
  have ih:=Nx n xs
  simp only [iL,List.map_cons,F1,shB,Bool.true_and] at ih ⊢
  exact ih
theorem Ko (ns:List Int) (k:Nat):∃ c a2,A2 [(.ro,.scr ns),(.own,.fz (.int k))] = some (.fz (.int c),[.scr ns,a2]):=by
 by_cases h:k < ns.length
 ·obtain ⟨c,e2⟩:∃ c,atI (ns.map D.int) (k:Int) = some (.int c):=⟨ns[k],by
   have e2:=CJ (xs:=ns.map D.int) (i:=(k:Int)) (k:=k) rfl (by simpa using h)
   simpa using e2⟩
  refine ⟨c,_,Bb (ρ:=[some (.ro,.scr ns),some (.own,.fz (.int k))]) rfl ?_⟩
  show Cr [some (.ro,.scr ns),some (.own,.fz (.int k))] = _
  unfold Cr
  have e1:decide ((k:Int) < (ns.length:Int)) = true:=by simpa using h
  clear h
  walk_at "eo"
 ·refine ⟨0,_,Bb (ρ:=[some (.ro,.scr ns),some (.own,.fz (.int k))]) rfl ?_⟩
  show Cr [some (.ro,.scr ns),some (.own,.fz (.int k))] = _
  unfold Cr
  have e1:decide ((k:Int) < (ns.length:Int)) = false:=by simpa using h
  clear h
  walk_at "eo"
theorem Cq {Ψ:FnR} {ms:MA} {ρ ρ1:Ro} {rs:List R} {as:List (Own × A)} {o:Option Str} (h1:ms ρ = some (rs,ρ1)) (h2:CI ρ1 rs = some as) (h3:DF as = true) (h4 : Ψ as = o):Cp Ψ ms ρ = o:=by
 simp only [Cp,h1,h2,h3,h4,Option.bind_some,if_true]
theorem QF {Ψ:FnR} {ls:List LA} {wd:Str} {ρ:Ro} {as:List (Own × A)} (h1:MJ ρ ls = some as) (h2 : Ψ as = some wd):Ju Ψ ls wd ρ = some (.val (.fz (.bl true)),ρ):=by
 simp only [Ju,h1,h2,Option.bind_some,if_true]
theorem B3 {ms:MA} {ρ ρ1:Ro} {rs:List R} {as:List A} (h1:ms ρ = some (rs,ρ1)) (h2:vals rs = some as) (h3:decide (as.length≤LIM) = true):lstM ms ρ = some (.val (.lst as),ρ1):=by
 simp only [lstM,h1,h2,Option.bind_some,if_pos (of_decide_eq_true h3)]
theorem HS {xs ys:List D} (h:decide (xs.length + ys.length≤LIM) = true):AH [.lst (xs.map A.fz),.lst (ys.map A.fz)] = some (.lst ((xs ++ ys).map A.fz)):=by
 have h:=of_decide_eq_true h
 simp only [AH,on2,Bs,Cu,CD,Eb,fzU,BY,BP,Option.bind_none,Option.none_or,Option.bind_some,if_pos h]
theorem KI {a b:ME} {ρ ρ1:Ro} {r:Option (R × Ro)} (h1:a ρ = some (.val (.fz (.bl true)),ρ1)) (h2:b ρ1 = r):J.andM a b ρ = r:=by
 rw [← h2]
 simp only [J.andM,BG h1,Option.bind_some,if_true]
theorem KH {a b:ME} {ρ ρ1:Ro} (h1:a ρ = some (.val (.fz (.bl false)),ρ1)):J.andM a b ρ = some (.val (.fz (.bl false)),ρ1):=by
 simp only [J.andM,BG h1,Option.bind_some,Bool.false_eq_true,if_false]
theorem Mh {f g:List A→Option A} {a b c:ME} {ρ:Ro} {x y w:A} {k l:Bool} (h1:a ρ = some (.val x,ρ)) (h2:b ρ = some (.val y,ρ)) (h3:c ρ = some (.val w,ρ)) (e1:f [x,y] = some (.fz (.bl k))) (e2:g [y,w] = some (.fz (.bl l))):AG (ER f g a b c) ρ = some (k && l,ρ):=by
 refine BG ?_
 cases k <;> simp only [ER,h1,h2,h3,peeks,peek,Option.bind_some,Option.map_some,e1,e2,Ee,if_true,Bool.false_eq_true,if_false,Bool.true_and,Bool.false_and]
theorem HL {a b:MT} {ρ ρ1 ρ2:Ro} (h1:a ρ = some (false,ρ1)) (h2:b ρ1 = some (false,ρ2)):orT a b ρ = some (false,ρ2):=by simp [orT,h1,h2]
noncomputable abbrev sL (l:List D):Slot:=some (.own,.lst (l.map A.fz))
noncomputable abbrev eW (a:Addr) (o:Obj) (x y z:Slot):Ro:=[some (.lent,.opq a o),x,y,z]
noncomputable abbrev v10:List D:=[.str (Str.ofString "NoHouse"),.str (Str.ofString "NoRow"),.str (Str.ofString "NoMachine"),.str (Str.ofString "NoRoom"),.str (Str.ofString "NoHand"),.str (Str.ofString "Unlike"),.str (Str.ofString "NoPast"),.str (Str.ofString "TooMany"),.str (Str.ofString "Torn"),.str (Str.ofString "NoTable")]
noncomputable abbrev v15:List D:=[.str (Str.ofString "NoHouse"),.str (Str.ofString "NoRow"),.str (Str.ofString "NoMachine"),.str (Str.ofString "NoRoom"),.str (Str.ofString "NoHand"),.str (Str.ofString "Unlike"),.str (Str.ofString "NoPast"),.str (Str.ofString "TooMany"),.str (Str.ofString "Torn"),.str (Str.ofString "NoTable"),.str (Str.ofString "NoSet"),.str (Str.ofString "Falls"),.str (Str.ofString "Whole"),.str (Str.ofString "NoText"),.str (Str.ofString "NoWord")]
noncomputable abbrev q0 (j:Nat):List D:=[.bl (0 == j),.bl (1 == j),.bl (2 == j),.bl (3 == j)]
noncomputable abbrev p1 (j:Nat):List D:=[.bl (4 == j),.bl (5 == j),.bl (6 == j),.bl (7 == j)]
noncomputable abbrev q1 (j:Nat):List D:=q0 j ++ p1 j
noncomputable abbrev p2 (j:Nat):List D:=[.bl (8 == j),.bl (9 == j),.bl (10 == j),.bl (11 == j)]
noncomputable abbrev q2 (j:Nat):List D:=q1 j ++ p2 j
noncomputable abbrev p3 (j:Nat):List D:=[.bl (12 == j),.bl (13 == j),.bl (14 == j)]
noncomputable abbrev q3 (j:Nat):List D:=q2 j ++ p3 j
theorem Pw {C:Addr} {b:Bool} {a:Addr} {o:Obj} (h:o.cls = .ref C):BB C b [.opq a o] = some (.fz (.bl b)):=by
 have e:(o.cls == .ref C) = true:=by rw [h]; exact beq_self_eq_true _
 simp only [BB,on1,Pu,e,if_true]
theorem QI {C a:Addr} {o:Obj} {j:Nat} {wd:Str} (h:o.cls = .ref C) (h6:AK 3 (BH (BL (Ae (.int 15))) 0 (AG (opM ixA (m2L (Ab 2) (Ab 0)))) (opM ixA (m2L (Ab 3) (Ab 0)))) (eW a o (sL (q3 j)) (sL v15) none) = some (.next (eW a o (sL (q3 j)) (sL v15) (sL [.str wd])))):E8 C j [(.lent,.opq a o)] = some (.fz (.str wd),[.opq a o]):=by
 have ix:∀ (b:Bool) (x y z:Slot),opM (BB C b) (m1L (Ab 0)) (eW a o x y z) = some (.val (.fz (.bl b)),eW a o x y z):=fun b x y z=>Ap rfl rfl (Pw h)
 have ip:∀ (b:Bool) (x y z:Slot),Ad (opM (BB C b) (m1L (Ab 0))) (eW a o x y z) = some (.val (.fz (.bl b)),eW a o x y z):=fun b x y z=>Aw (ix b x y z) rfl
 have st0:AK 1 (lstM (Aa (Ad (opM (BB C (0 == j)) (m1L (Ab 0)))) (Aa (Ad (opM (BB C (1 == j)) (m1L (Ab 0)))) (Aa (Ad (opM (BB C (2 == j)) (m1L (Ab 0)))) (Aa (Ad (opM (BB C (3 == j)) (m1L (Ab 0)))) Af))))) (eW a o none none none) = some (.next (eW a o (sL (q0 j)) none none)):=Bn (B3 (cons_of (ip _ _ _ _) (cons_of (ip _ _ _ _) (cons_of (ip _ _ _ _) (cons_of (ip _ _ _ _) (nil_of _))))) rfl rfl) rfl
 have l1:(lstM (Aa (Ad (opM (BB C (4 == j)) (m1L (Ab 0)))) (Aa (Ad (opM (BB C (5 == j)) (m1L (Ab 0)))) (Aa (Ad (opM (BB C (6 == j)) (m1L (Ab 0)))) (Aa (Ad (opM (BB C (7 == j)) (m1L (Ab 0)))) Af))))) (eW a o (sL (q0 j)) none none) = some (.val (.lst ((p1 j).map A.fz)),(eW a o (sL (q0 j)) none none)):=(B3 (cons_of (ip _ _ _ _) (cons_of (ip _ _ _ _) (cons_of (ip _ _ _ _) (cons_of (ip _ _ _ _) (nil_of _))))) rfl rfl)
 have st1:AK 1 (opM AH (m2L (Ab 1) (lstM (Aa (Ad (opM (BB C (4 == j)) (m1L (Ab 0)))) (Aa (Ad (opM (BB C (5 == j)) (m1L (Ab 0)))) (Aa (Ad (opM (BB C (6 == j)) (m1L (Ab 0)))) (Aa (Ad (opM (BB C (7 == j)) (m1L (Ab 0)))) Af))))))) (eW a o (sL (q0 j)) none none) = some (.next (eW a o (sL (q1 j)) none none)):=Bn (Ap (AI (r1:=.ref 1) rfl l1) rfl (HS (xs:=q0 j) (ys:=p1 j) rfl)) rfl
 have l2:(lstM (Aa (Ad (opM (BB C (8 == j)) (m1L (Ab 0)))) (Aa (Ad (opM (BB C (9 == j)) (m1L (Ab 0)))) (Aa (Ad (opM (BB C (10 == j)) (m1L (Ab 0)))) (Aa (Ad (opM (BB C (11 == j)) (m1L (Ab 0)))) Af))))) (eW a o (sL (q1 j)) none none) = some (.val (.lst ((p2 j).map A.fz)),(eW a o (sL (q1 j)) none none)):=(B3 (cons_of (ip _ _ _ _) (cons_of (ip _ _ _ _) (cons_of (ip _ _ _ _) (cons_of (ip _ _ _ _) (nil_of _))))) rfl rfl)
 have st2:AK 1 (opM AH (m2L (Ab 1) (lstM (Aa (Ad (opM (BB C (8 == j)) (m1L (Ab 0)))) (Aa (Ad (opM (BB C (9 == j)) (m1L (Ab 0)))) (Aa (Ad (opM (BB C (10 == j)) (m1L (Ab 0)))) (Aa (Ad (opM (BB C (11 == j)) (m1L (Ab 0)))) Af))))))) (eW a o (sL (q1 j)) none none) = some (.next (eW a o (sL (q2 j)) none none)):=Bn (Ap (AI (r1:=.ref 1) rfl l2) rfl (HS (xs:=q1 j) (ys:=p2 j) rfl)) rfl
 have l3:(lstM (Aa (Ad (opM (BB C (12 == j)) (m1L (Ab 0)))) (Aa (Ad (opM (BB C (13 == j)) (m1L (Ab 0)))) (Aa (Ad (opM (BB C (14 == j)) (m1L (Ab 0)))) Af)))) (eW a o (sL (q2 j)) none none) = some (.val (.lst ((p3 j).map A.fz)),(eW a o (sL (q2 j)) none none)):=(B3 (cons_of (ip _ _ _ _) (cons_of (ip _ _ _ _) (cons_of (ip _ _ _ _) (nil_of _)))) rfl rfl)
 have st3:AK 1 (opM AH (m2L (Ab 1) (lstM (Aa (Ad (opM (BB C (12 == j)) (m1L (Ab 0)))) (Aa (Ad (opM (BB C (13 == j)) (m1L (Ab 0)))) (Aa (Ad (opM (BB C (14 == j)) (m1L (Ab 0)))) Af)))))) (eW a o (sL (q2 j)) none none) = some (.next (eW a o (sL (q3 j)) none none)):=Bn (Ap (AI (r1:=.ref 1) rfl l3) rfl (HS (xs:=q2 j) (ys:=p3 j) rfl)) rfl
 have st4:AK 2 (lstM (Aa (Ad (Ae (.str (Str.ofString "NoHouse")))) (Aa (Ad (Ae (.str (Str.ofString "NoRow")))) (Aa (Ad (Ae (.str (Str.ofString "NoMachine")))) (Aa (Ad (Ae (.str (Str.ofString "NoRoom")))) (Aa (Ad (Ae (.str (Str.ofString "NoHand")))) (Aa (Ad (Ae (.str (Str.ofString "Unlike")))) (Aa (Ad (Ae (.str (Str.ofString "NoPast")))) (Aa (Ad (Ae (.str (Str.ofString "TooMany")))) (Aa (Ad (Ae (.str (Str.ofString "Torn")))) (Aa (Ad (Ae (.str (Str.ofString "NoTable")))) Af))))))))))) (eW a o (sL (q3 j)) none none) = some (.next (eW a o (sL (q3 j)) (sL v10) none)):=rfl
 have st5:AK 2 (opM AH (m2L (Ab 2) (lstM (Aa (Ad (Ae (.str (Str.ofString "NoSet")))) (Aa (Ad (Ae (.str (Str.ofString "Falls")))) (Aa (Ad (Ae (.str (Str.ofString "Whole")))) (Aa (Ad (Ae (.str (Str.ofString "NoText")))) (Aa (Ad (Ae (.str (Str.ofString "NoWord")))) Af)))))))) (eW a o (sL (q3 j)) (sL v10) none) = some (.next (eW a o (sL (q3 j)) (sL v15) none)):=rfl
 have c2:(orT (AG (opM neA (m2L (opM Bq (Aa (Ab 3) Af)) (Ae (.int 1))))) (C4 (AG (opM (BB C true) (m1L (Ab 0)))))) (eW a o (sL (q3 j)) (sL v15) (sL [.str wd])) = some (false,(eW a o (sL (q3 j)) (sL v15) (sL [.str wd]))):=HL rfl (not_of (BG (ix true _ _ _)))
 refine Bb (ρ:=(eW a o (sL (q3 j)) (sL v15) (sL [.str wd]))) rfl ?_
 show Gw C j (eW a o none none none) = _
 unfold Gw
 exact (Am st0).trans ((Am st1).trans ((Am st2).trans ((Am st3).trans ((Am st4).trans ((Am st5).trans ((Am h6).trans ((Am ((Ek c2).trans rfl)).trans (Bh rfl))))))))
theorem Gf {C a:Addr} {o:Obj} (h:o.cls = .ref C):E8 C 2 [(.lent,.opq a o)] = some (.fz (.str "NoMachine"),[.opq a o]):=QI h rfl
structure Mc where
 mv:List (List Int)
 gd:List Int
noncomputable def mvD (mv:List (List Int)):List D:=mv.map fun l=>.lst (iL l)
noncomputable def Mc.d (m:Mc):D:=.tup [.lst (mvD m.mv),.lst (iL m.gd)]
structure Mc.Ok (h:Hs) (m:Mc):Prop where
 r1:1≤m.mv.length
 r2:m.mv.length≤30
 ln:∀ l∈m.mv,l.length = h.ls.length∧∀ x∈l,0≤x∧x < (m.mv.length:Int)
 rg:m.gd.Pairwise (· < ·)
 bg:∀ x∈m.gd,0≤x∧x < (m.mv.length:Int)
noncomputable abbrev oD (ds:List D):Slot:=some (.own,.lst (ds.map A.fz))
noncomputable abbrev eM (as:List A) (h:Hs) (q:Int) (r:Slot) (mv x5 x6 x7 x8:Slot):Ro:=[some (.lent,.lst as),some (.own,.fz h.d),oI q,r,mv,x5,x6,x7,x8]
theorem NO {m:ME} {i:Nat} {ρ ρ1:Ro} {st:Own} {as:List A} {a:A} {q:Own × List A} (h0:Ds ρ i = some q) (h:m ρ = some (.val a,ρ1)) (h1:Ds ρ1 i = some (st,as)) (hl:as.length < LIM):Dx i m ρ = some (.next (ρ1.set i (some (st,.lst (as ++ [a]))))):=by
 simp only [Dx,h0,Option.bind_some,h,keep,h1,if_pos hl]
theorem NP {i j:Nat} {ρ:Ro} {st:Own} {as:List A} {ds:List D} {q:Own × List A} (h0:Ds ρ i = some q) (hj : ρ[j]? = some (oD ds)) (h1:Ds (ρ.set j (some (.own,.fz (.lst ds)))) i = some (st,as)) (hl:as.length < LIM):Dx i (Ab j) ρ = some (.next ((ρ.set j (some (.own,.fz (.lst ds)))).set i (some (st,.lst (as ++ [.fz (.lst ds)]))))):=by
 have e:Ab j ρ = some (.ref j,ρ):=by simp [Ab,hj]
 have k:keep ρ (.ref j) = some (.fz (.lst ds),ρ.set j (some (.own,.fz (.lst ds)))):=by simp [keep,share,hj,J.er,D1]
 simp only [Dx,h0,Option.bind_some,e,k,h1,if_pos hl]
theorem QH {N:Nat} {as:List A} {h:Hs} (ok:h.Ok) (hb:Bag N as) (hN:N≤100000) {q:Int} {n:Nat} (n1:1≤n) (n2:n≤30) {mv x5 x7 x8:Slot} (h7:(x7 = none∨∃ a,x7 = some (Own.own,a))) :
  ∃ as' xs y7,Bag (N + 6) as'∧xs.length = h.ls.length∧(∀ x∈xs,0≤x∧x < (n:Int))∧(y7 = none∨∃ a,y7 = some (Own.own,a))∧(GB [7] true (CZ (opM ixA (m2L (Ab 1) (Ae (.int 1))))) (Dx 6 (Ak Ag (Aa (Ab 0) (Aa (Ab 3) Af))))) (eM as h q (oI n) mv x5 (oD (iL [])) x7 x8) = some (.next (eM as' h q (oI n) mv x5 (oD (iL xs)) y7 x8)):=by
 have l2:=ok.l2
 have hlim:1000≤LIM:=by decide
 have e5:=at1 (D.int h.n) (.lst (h.ls.map ld)) []
 have x0:opM ixA (m2L (Ab 1) (Ae (.int 1))) (eM as h q (oI n) mv x5 (oD (iL [])) x7 x8) = some (.val (.fz (.lst (h.ls.map ld))),eM as h q (oI n) mv x5 (oD (iL [])) x7 x8):=Ap (AI (r1:=.val (.fz h.d)) rfl (r2:=.val (.fz (.int 1))) rfl) rfl (by
  simp only [Hs.d,ixA,on2,Bs,fzU,Cu,Ba,CD,Eb,e5,Option.bind_some,Option.map_some,Option.none_or,Option.bind_none])
 have it:CZ (opM ixA (m2L (Ab 1) (Ae (.int 1)))) (eM as h q (oI n) mv x5 (oD (iL [])) x7 x8) = some (h.ls.map ld,none,eM as h q (oI n) mv x5 (oD (iL [])) x7 x8):=by
  simp only [CZ,x0,Option.bind_some,peek,Ba,Option.map_some,nameOf]
 obtain ⟨ρ',f1,f2⟩:=E9 (is:=[7]) (one:=true) (b:=(Dx 6 (Ak Ag (Aa (Ab 0) (Aa (Ab 3) Af)))))
  (fun j ρ=>j≤6→∃ as' xs y7,Bag (N + j) as'∧xs.length = j∧(∀ x∈xs,0≤x∧x < (n:Int))∧(y7 = none∨∃ a,y7 = some (Own.own,a)) ∧ ρ = eM as' h q (oI n) mv x5 (oD (iL xs)) y7 x8) it (fun _=>⟨as,[],x7,hb,rfl,by simp,h7,rfl⟩) (fun j d ρ hd hI=>by
   have hj:j < h.ls.length:=by have:=(List.getElem?_eq_some_iff.mp hd).1; simpa using this
   obtain ⟨as',xs,y7,hb',hl,hx,hy,rfl⟩:=hI (by lia)
   obtain ⟨d1,as1,g1,g2,b1,t1⟩:=Cc hb' (by lia) (n:Int) (by lia) (by lia)
   have st:Dx 6 (Ak Ag (Aa (Ab 0) (Aa (Ab 3) Af))) (eM as' h q (oI n) mv x5 (oD (iL xs)) (some (.own,.fz d)) x8) = some (.next (eM as1 h q (oI n) mv x5 (oD (iL (xs ++ [d1]))) (some (.own,.fz d)) x8)):=by
    have cal:(Ak Ag (Aa (Ab 0) (Aa (Ab 3) Af))) (eM as' h q (oI n) mv x5 (oD (iL xs)) (some (.own,.fz d)) x8) = some (.val (.fz (.int d1)),eM as1 h q (oI n) mv x5 (oD (iL xs)) (some (.own,.fz d)) x8):=call_of (cons_of (r:=.ref 0) rfl (cons_of (r:=.val (.fz (.int (n:Int)))) rfl (nil_of _))) rfl rfl t1 rfl
    have ea:(iL xs).map A.fz ++ [A.fz (.int d1)] = (iL (xs ++ [d1])).map A.fz:=by simp [iL]
    refine (NO (i:=6) (st:=.own) (as:=(iL xs).map A.fz) (q:=(.own,(iL xs).map A.fz)) rfl cal rfl (by simp only [List.length_map,A9]; lia)).trans ?_
    rw [ea]
    rfl
   refine ⟨eM as' h q (oI n) mv x5 (oD (iL xs)) (some (.own,.fz d)) x8,eM as1 h q (oI n) mv x5 (oD (iL (xs ++ [d1]))) (some (.own,.fz d)) x8,?_,.inl st,fun _=>⟨as1,xs ++ [d1],some (.own,.fz d),b1,by simp [hl],fun x hx'=>?_,.inr ⟨_,rfl⟩,rfl⟩⟩
   ·rcases hy with rfl | ⟨a,rfl⟩ <;> rfl
   ·rcases List.mem_append.mp hx' with z | z
    ·exact hx x z
    ·simp only [List.mem_singleton] at z; subst z; exact ⟨g1,g2⟩)
 rw [List.length_map] at f2
 obtain ⟨as',xs,y7,hb',hl,hx,hy,rfl⟩:=f2 (by lia)
 exact ⟨as',xs,y7,hb'.mono (by lia),hl,hx,hy,f1⟩
theorem LS {N:Nat} {as:List A} {h:Hs} (ok:h.Ok) (hb:Bag N as) (hN:N≤1000) {q:Int} (q1:1≤q) (q2:q≤30):∃ (m:Mc) (as':List A) (a2 a3:A),m.Ok h∧Bag (N + 300) as'∧BW [(.lent,.lst as),(.own,.fz h.d),(.own,.fz (.int q))] = some (.fz m.d,[.lst as',a2,a3]):=by
 have hlim:1000≤LIM:=by decide
 obtain ⟨d,as1,g1,g2,b1,t1⟩:=Cc hb (by lia) q (by lia) (by lia)
 obtain ⟨n,hn⟩:∃ n:Nat,1 + d = (n:Int):=⟨(1 + d).toNat,by lia⟩
 have n1:1≤n:=by lia
 have n2:n≤30:=by lia
 have st1:AK 3 (opM AH (m2L (Ae (.int 1)) (Ak Ag (Aa (Ab 0) (Aa (Ab 2) Af))))) (eM as h q none none none none none none) = some (.next (eM as1 h q (oI n) none none none none none)):=by
  have c1:Ak Ag (Aa (Ab 0) (Aa (Ab 2) Af)) (eM as h q none none none none none none) = some (.val (.fz (.int d)),eM as1 h q none none none none none none):=call_of (cons_of (r:=.ref 0) rfl (cons_of (r:=.val (.fz (.int q))) rfl (nil_of _))) rfl rfl t1 rfl
  have c2:=Ap (f:=AH) (AI (m1:=Ae (.int 1)) (r1:=.val (.fz (.int 1))) rfl c1) rfl (c:=.fz (.int (n:Int))) (by
   simp only [AH,on2,Bs,fzU,Cu,Option.bind_some,Option.map_some,Option.some_or,hn])
  exact (Bn c2 rfl).trans rfl
 have st2:AK 4 (lstM Af) (eM as1 h q (oI n) none none none none none) = some (.next (eM as1 h q (oI n) (oD (mvD [])) none none none none)):=rfl
 have rg:∀ as' mv x5 x6 x7 x8,BL (Ab 3) (eM as' h q (oI n) mv x5 x6 x7 x8) = some (C5 0 n,none,eM as' h q (oI n) mv x5 x6 x7 x8):=fun as' mv x5 x6 x7 x8=>by
  have:=La (m:=Ab 3) (ρ:=eM as' h q (oI n) mv x5 x6 x7 x8) (n:=(n:Int)) rfl (by lia) (by lia)
  rw [Int.toNat_natCast] at this
  exact this
 obtain ⟨ρ',f1,f2⟩:=E9 (is:=[5]) (one:=true) (b:=(AL (AK 6 (lstM Af)) (AL (GB [7] true (CZ (opM ixA (m2L (Ab 1) (Ae (.int 1))))) (Dx 6 (Ak Ag (Aa (Ab 0) (Aa (Ab 3) Af))))) (Dx 4 (Ab 6)))))
  (fun j ρ=>j≤30→∃ as' mv x5 x6 x7,Bag (N + 1 + 6 * j) as'∧mv.length = j∧(∀ l∈mv,l.length = h.ls.length∧∀ x∈l,0≤x∧x < (n:Int))∧(x5 = none∨∃ a,x5 = some (Own.own,a))∧(x6 = none∨∃ a,x6 = some (Own.own,a))∧(x7 = none∨∃ a,x7 = some (Own.own,a)) ∧ ρ = eM as' h q (oI n) (oD (mvD mv)) x5 x6 x7 none) (rg as1 (oD (mvD [])) none none none none) (fun _=>⟨as1,[],none,none,none,b1,rfl,by simp,.inl rfl,.inl rfl,.inl rfl,rfl⟩) (fun j d ρ hd hI=>by
   obtain ⟨rfl,hj⟩:=OW hd
   obtain ⟨as',mv,x5,x6,x7,hb',hl,hm,h5,h6,h7,rfl⟩:=hI (by lia)
   obtain ⟨as2,xs,y7,b2,xl,xb,hy7,ln⟩:=QH ok hb' (by lia) (q:=q) n1 n2 (mv:=oD (mvD mv)) (x5:=oI (j:Int)) (x7:=x7) (x8:=none) h7
   have w1:AK 6 (lstM Af) (eM as' h q (oI n) (oD (mvD mv)) (oI (j:Int)) x6 x7 none) = some (.next (eM as' h q (oI n) (oD (mvD mv)) (oI (j:Int)) (oD (iL [])) x7 none)):=by
    rcases h6 with rfl | ⟨a,rfl⟩ <;> rfl
   have w3:Dx 4 (Ab 6) (eM as2 h q (oI n) (oD (mvD mv)) (oI (j:Int)) (oD (iL xs)) y7 none) = some (.next (eM as2 h q (oI n) (oD (mvD (mv ++ [xs]))) (oI (j:Int)) (some (.own,.fz (.lst (iL xs)))) y7 none)):=by
    have ea:(mvD mv).map A.fz ++ [A.fz (.lst (iL xs))] = (mvD (mv ++ [xs])).map A.fz:=by simp [mvD]
    refine (NP (i:=4) (j:=6) (st:=.own) (as:=(mvD mv).map A.fz) (ds:=iL xs) (q:=(.own,(mvD mv).map A.fz)) rfl rfl rfl (by simp only [mvD,List.length_map]; lia)).trans ?_
    rw [ea]
    rfl
   refine ⟨eM as' h q (oI n) (oD (mvD mv)) (oI (j:Int)) x6 x7 none,eM as2 h q (oI n) (oD (mvD (mv ++ [xs]))) (oI (j:Int)) (some (.own,.fz (.lst (iL xs)))) y7 none,?_,.inl ?_,fun _=>⟨as2,mv ++ [xs],oI (j:Int),some (.own,.fz (.lst (iL xs))),y7,b2.mono (by lia),by simp [hl],fun l hl'=>?_,.inr ⟨_,rfl⟩,.inr ⟨_,rfl⟩,hy7,rfl⟩⟩
   ·rcases h5 with rfl | ⟨a,rfl⟩ <;> rfl
   ·exact (Am w1).trans ((Am ln).trans w3)
   ·rcases List.mem_append.mp hl' with z | z
    ·exact hm l z
    ·simp only [List.mem_singleton] at z; subst z; exact ⟨xl,xb⟩)
 rw [D8] at f2
 obtain ⟨as',mv,x5,x6,x7,hb',hl,hm,h5,h6,h7,rfl⟩:=f2 n2
 have p0:(0:Int) < 1 * 2 ^ (n:Int).toNat:=by
  rw [Int.one_mul]; exact Int.pow_pos (by decide)
 have p1:(1:Int) * 2 ^ (n:Int).toNat < 1099511627776:=by
  have h1:2 ^ n≤2 ^ 30:=Nat.pow_le_pow_right (by decide) n2
  have h2:((2 ^ n:Nat):Int) = (2:Int) ^ n:=by simp
  have h3:(2:Nat) ^ 30 = 1073741824:=by decide
  rw [Int.one_mul,Int.toNat_natCast,← h2]
  lia
 obtain ⟨b,as2,c1,c2,b3,t2⟩:=Cc hb' (by lia) (1 * 2 ^ (n:Int).toNat) p0 p1
 have st4:AK 8 (Ak Ag (Aa (Ab 0) (Aa (opM Dv (m2L (Ae (.int 1)) (Ab 3))) Af))) (eM as' h q (oI n) (oD (mvD mv)) x5 x6 x7 none) = some (.next (eM as2 h q (oI n) (oD (mvD mv)) x5 x6 x7 (oI b))):=by
  have v1:(opM Dv (m2L (Ae (.int 1)) (Ab 3))) (eM as' h q (oI n) (oD (mvD mv)) x5 x6 x7 none) = some (.val (.fz (.int (1 * 2 ^ (n:Int).toNat))),eM as' h q (oI n) (oD (mvD mv)) x5 x6 x7 none):=
   Ap (AI (r1:=.val (.fz (.int 1))) rfl (r2:=.val (.fz (.int (n:Int)))) rfl) rfl (IE (decide_eq_true ⟨by lia,by lia,by decide⟩))
  exact (Bn (call_of (cons_of (r:=.ref 0) rfl (cons_of v1 (nil_of _))) rfl rfl t2 rfl) rfl).trans rfl
 have hc:∀ mvs:Slot,(BH (BL (Ab 3)) 0 (AG (opM eqA (m2L (opM DQ (m2L (opM EJ (m2L (Ab 9) (Ab 0))) (Ae (.int 1)))) (Ae (.int 1))))) (Ab 0)) (eM as2 h q (oI n) mvs x5 x6 x7 (oI b)) = some (.val (.lst ((iL (DR n b)).map A.fz)),eM as2 h q (oI n) mvs x5 x6 x7 (oI b)):=fun mvs=>by
  have:=Gv (g:=fun d=>Gs b (nD d).toNat) (f:=fun d=>d) (c:=(AG (opM eqA (m2L (opM DQ (m2L (opM EJ (m2L (Ab 9) (Ab 0))) (Ae (.int 1)))) (Ae (.int 1)))))) (e:=Ab 0) (rg as2 mvs x5 x6 x7 (oI b)) (by rw [D8]; lia) (fun d hd=>by
   obtain ⟨i,hi⟩:=List.mem_iff_getElem?.mp hd
   obtain ⟨rfl,hi⟩:=EA hi
   have e0:decide (0≤(0:Int) + (i:Int)) = true:=by simp
   have r1:(opM EJ (m2L (Ab 9) (Ab 0))) (J.own (.int (0 + (i:Int))) :: eM as2 h q (oI n) mvs x5 x6 x7 (oI b)) = some (.val (.fz (.int (b / 2 ^ (0 + (i:Int)).toNat))),J.own (.int (0 + (i:Int))) :: eM as2 h q (oI n) mvs x5 x6 x7 (oI b)):=Ap rfl rfl (Ny e0)
   have r2:=Ap (f:=DQ) (AI (m2:=Ae (.int 1)) (r2:=.val (.fz (.int 1))) r1 rfl) rfl rfl
   exact BG (Ap (AI (r2:=.val (.fz (.int 1))) r2 rfl) rfl rfl)) (fun d hd _=>⟨.val (.fz d),rfl,rfl⟩)
  rw [this,KL]
 have hpl:Ad (Ab 4) (eM as2 h q (oI n) (oD (mvD mv)) x5 x6 x7 (oI b)) = some (.val (.fz (.lst (mvD mv))),eM as2 h q (oI n) (some (.own,.fz (.lst (mvD mv)))) x5 x6 x7 (oI b)):=by
  refine Aw (r:=.ref 4) rfl ?_
  simp [share,J.er,D1]
 refine ⟨⟨mv,DR n b⟩,as2,_,_,⟨by rw [hl]; exact n1,by rw [hl]; exact n2,by rw [hl]; exact hm,Hy _ _,fun x hx=>by rw [hl]; exact KJ x hx⟩,b3.mono (by lia),Bb (ρ:=eM as2 h q (oI n) (some (.own,.fz (.lst (mvD mv)))) x5 x6 x7 (oI b)) rfl ?_⟩
 show CT (eM as h q none none none none none none) = _
 unfold CT
 refine (Am st1).trans ((Am st2).trans ((Am f1).trans ((Am st4).trans (Bh ?_))))
 exact DI (cons_of hpl (cons_of (Aw (hc _) (BN _ _)) rfl))
theorem Nu (h:Hs) (okh:h.Ok) (m:Mc) (ok:m.Ok h):AA [(.own,.fz m.d)] = some (.fz m.d,[.fz m.d]):=by
 have hlim:1000≤LIM:=by decide
 have r2:=ok.r2
 have e0:=at0 (D.lst (mvD m.mv)) [.lst (iL m.gd)]
 have e1:=at1 (D.lst (mvD m.mv)) (.lst (iL m.gd)) []
 have x0:opM ixA (m2L (Ab 0) (Ae (.int 0))) [some (.own,.fz m.d)] = some (.val (.fz (.lst (mvD m.mv))),[some (.own,.fz m.d)]):=Ap (AI (r1:=.val (.fz m.d)) rfl (r2:=.val (.fz (.int 0))) rfl) rfl (by
  simp only [Mc.d,ixA,on2,Bs,fzU,Cu,Ba,CD,Eb,e0,Option.bind_some,Option.map_some,Option.none_or,Option.bind_none])
 have x1:opM ixA (m2L (Ab 0) (Ae (.int 1))) [some (.own,.fz m.d)] = some (.val (.fz (.lst (iL m.gd))),[some (.own,.fz m.d)]):=Ap (AI (r1:=.val (.fz m.d)) rfl (r2:=.val (.fz (.int 1))) rfl) rfl (by
  simp only [Mc.d,ixA,on2,Bs,fzU,Cu,Ba,CD,Eb,e1,Option.bind_some,Option.map_some,Option.none_or,Option.bind_none])
 have it:CZ (opM ixA (m2L (Ab 0) (Ae (.int 0)))) [some (.own,.fz m.d)] = some (mvD m.mv,none,[some (.own,.fz m.d)]):=by
  simp only [CZ,x0,Option.bind_some,peek,Ba,Option.map_some,nameOf]
 have ls:∀ ds:List D,ds.length≤LIM→GJ [.fz (.lst ds)] = some (.lst (ds.map A.fz)):=fun ds hd=>by
  simp only [GJ,on1,Ba,Option.bind_some,if_pos hd]
 have cm:=CA (e:=opM GJ (Aa (Ab 0) Af)) (f:=fun d=>d) it (by simp only [mvD,List.length_map]; lia) (fun d hd=>by
  obtain ⟨l,hl,rfl⟩:=List.mem_map.mp hd
  have l1:=(ok.ln l hl).1
  have l2:=okh.l2
  refine ⟨.val (.lst ((iL l).map A.fz)),Ap (cons_of (r:=.val (.fz (.lst (iL l)))) rfl (nil_of _)) rfl (ls _ ?_),BN _ _⟩
  rw [A9]; lia)
 rw [List.map_id'] at cm
 refine Bb (ρ:=[some (.own,.fz m.d)]) rfl ?_
 show B1 [some (.own,.fz m.d)] = _
 unfold B1
 refine Bh (DI (cons_of (Aw cm (BN _ _)) (cons_of (Aw (Ap (cons_of x1 (nil_of _)) rfl (ls _ ?_)) (BN _ _)) rfl)))
 have:=Ey ok.rg ok.bg
 rw [A9]; lia
noncomputable abbrev oF (d:D):Slot:=some (.own,.fz d)
theorem JM (as:List A):∀ (os:List A) (ρ:Ro),back (as.map R.val) os ρ = ρ:=by
 induction as with
 | nil=>intro os ρ; cases os <;> rfl
 | cons a as ih =>
  intro os ρ
  cases os with
  | nil=>rfl
  | cons o os=>exact ih os ρ
theorem RD {a b:MT} {ρ ρ1:Ro} (h1:a ρ = some (true,ρ1)):orT a b ρ = some (true,ρ1):=by simp [orT,h1]
theorem Px (a:D) (ds:List D):ixA [.fz (.tup (a :: ds)),.fz (.int 0)] = some (.fz a):=by
 have e:=at0 a ds
 simp only [ixA,on2,Bs,fzU,Cu,Ba,CD,Eb,e,Option.bind_some,Option.map_some,Option.none_or,Option.bind_none]
theorem N1 (a b:D) (ds:List D):ixA [.fz (.tup (a :: b :: ds)),.fz (.int 1)] = some (.fz b):=by
 have e:=at1 a b ds
 simp only [ixA,on2,Bs,fzU,Cu,Ba,CD,Eb,e,Option.bind_some,Option.map_some,Option.none_or,Option.bind_none]
theorem Fj (ds:List D):Bq [.fz (.lst ds)] = some (.fz (.int (ds.length:Int))):=by
 simp only [Bq,on1,CD,Eb,fzU,Ba,Option.bind_none,Option.map_none,Option.none_or,Option.bind_some,Option.map_some]
theorem L9 {m:ME} {ρ:Ro} {ds:List D} {g:D→Bool} (h:m ρ = some (.val (.lst ((ds.map fun d=>D.bl (g d)).map A.fz)),ρ)) (hx:∃ d∈ds,g d = false):opM E2 (Aa m Af) ρ = some (.val (.fz (.bl false)),ρ):=by
 have eb:=DS ds g
 have ea:(ds.map g).all id = false:=by
  obtain ⟨d,hd,e⟩:=hx
  rw [List.all_eq_false]
  exact ⟨g d,List.mem_map.mpr ⟨d,hd,rfl⟩,by simp [e]⟩
 exact Ap (cons_of h (nil_of _)) rfl (by simp only [E2,on1,BY,BP,eb,Option.bind_some,Option.map_some,ea])
noncomputable def isP:D→Bool
 | .tup ds=>decide (ds.length = 2)
 | .non | .bl _ | .int _ | .str _ | .lst _=>false
theorem Ks (st:Own) (d:D):BC [(st,.fz d)] = some (.fz (.bl (isP d)),[.fz d]):=by
 cases d with
 | tup ds =>
  have e:((ds.length:Int) == 2) = decide (ds.length = 2):=by
   show decide ((ds.length:Int) = 2) = _
   exact decide_eq_decide.mpr (by lia)
  refine Bb (ρ:=[some (st,.fz (.tup ds))]) rfl ?_
  show DB [some (st,.fz (.tup ds))] = _
  unfold DB
  refine Bh (KI (Ap (cons_of (r:=.val (.fz (.tup ds))) rfl (nil_of _)) rfl rfl) ?_)
  have l:opM Bq (Aa (Ab 0) Af) [some (st,.fz (.tup ds))] = some (.val (.fz (.int (ds.length:Int))),[some (st,.fz (.tup ds))]):=Ap (cons_of (r:=.val (.fz (.tup ds))) rfl (nil_of _)) rfl rfl
  exact Ap (AI l (r2:=.val (.fz (.int 2))) rfl) rfl (by simp only [eqA,on2,J.er,Option.bind_some,shB,if_true,Ea,e,isP])
 | _=>cases st <;> rfl
noncomputable def NR (n:Int) (b:D):Prop:=AJ [(.own,.fz b),(.own,.fz (.int n))] = some (.fz (.bl false),[.fz b,.fz (.int n)])
theorem MP {n:Int} {b:D} {os:List A} (h:Ar [(.own,.fz b),(.own,.fz (.int n))] = some (.fz (.bl false),os)):NR n b:=by
 refine Bb (ρ:=[oF b,oI n]) rfl ?_
 show A0 [oF b,oI n] = _
 unfold A0
 exact Dh ((GF (not_of (BG (b:=false) (call_of (cons_of (r:=.val (.fz b)) rfl (cons_of (r:=.val (.fz (.int n))) rfl (nil_of _))) rfl rfl h (JM [.fz b,.fz (.int n)] os _))))).trans (Bh rfl))
theorem Kb {n:Int} {b:D} (h:Dt b = false):NR n b:=by
 refine MP (os:=[.fz b,.fz (.int n)]) (Bb (ρ:=[oF b,oI n]) rfl ?_)
 show Az [oF b,oI n] = _
 unfold Az
 exact Bh (KH (Ap (cons_of (r:=.val (.fz b)) rfl (nil_of _)) rfl (by simp only [Dz,on1,J.er,Option.map_some,h])))
theorem MO {n:Int} {xs:List Int} (hl:xs.length≤1000) (h:∃ x∈xs,¬ (0≤x∧x < n)):NR n (.lst (iL xs)):=by
 have hlim:1000≤LIM:=by decide
 have e:=Df .own .own xs n (by lia)
 have ea:(xs.all fun i=>decide (0≤i) && decide (i < n)) = false:=by
  obtain ⟨x,hx,e⟩:=h
  rw [List.all_eq_false]
  refine ⟨x,hx,fun z=>e ?_⟩
  rw [Bool.and_eq_true,decide_eq_true_iff,decide_eq_true_iff] at z
  exact z
 rw [ea] at e
 exact MP e
theorem Rt {n:Int}:NR n (.lst [.bl true]):=by
 refine MP (os:=[.fz (.lst [.bl true]),.fz (.int n)]) (Bb (ρ:=[oF (.lst [.bl true]),oI n]) rfl ?_)
 rfl
theorem N9 {n:Int} {xs:List Int} (hl:xs.length≤1000) {k:Nat} (hk:k + 1 < xs.length) (h:¬ xs[k]'(by lia) < xs[k + 1]) (hb:∀ x∈xs,0≤x∧x < n):NR n (.lst (iL xs)):=by
 have hlim:1000≤LIM:=by decide
 have e:=Df .own .own xs n (by lia)
 have ea:(xs.all fun i=>decide (0≤i) && decide (i < n)) = true:=by
  rw [List.all_eq_true]
  intro x hx
  have:=hb x hx
  rw [Bool.and_eq_true,decide_eq_true_iff,decide_eq_true_iff]; exact this
 rw [ea] at e
 have w1:=BG (b:=true) (call_of (cons_of (m:=Ab 0) (ρ:=[oF (.lst (iL xs)),oI n]) (r:=.val (.fz (.lst (iL xs)))) rfl (cons_of (m:=Ab 1) (r:=.val (.fz (.int n))) rfl (nil_of _))) rfl rfl e rfl)
 have l1:opM Bq (Aa (Ab 0) Af) [oF (.lst (iL xs)),oI n] = some (.val (.fz (.int (xs.length:Int))),[oF (.lst (iL xs)),oI n]):=Ap (cons_of (r:=.val (.fz (.lst (iL xs)))) rfl (nil_of _)) rfl (by rw [Fj,A9])
 have l2:=Ap (f:=C0) (AI l1 (m2:=Ae (.int 1)) (r2:=.val (.fz (.int 1))) rfl) rfl rfl
 have rg:=G2 l2 (by lia) (by lia)
 have cm:=CA (e:=(opM ltA (m2L (opM ixA (m2L (Ab 1) (Ab 0))) (opM ixA (m2L (Ab 1) (opM AH (m2L (Ab 0) (Ae (.int 1))))))))) (f:=fun d=>.bl (decide ((xs.getD (nD d).toNat 0) < xs.getD ((nD d).toNat + 1) 0))) rg (by rw [D8]; lia) (fun d hd=>by
  obtain ⟨i,hi⟩:=List.mem_iff_getElem?.mp hd
  obtain ⟨rfl,hi⟩:=EA hi
  have h1:i + 1 < xs.length:=by lia
  have z0:(0:Int) + (i:Int) = (i:Int):=by lia
  rw [z0]
  have a1:=Mb (xs:=xs) (k:=i) (by lia)
  have a2:=Mb (xs:=xs) (k:=i + 1) h1
  have c2:((i + 1:Nat):Int) = (i:Int) + 1:=by lia
  rw [c2] at a2
  have x1:opM ixA (m2L (Ab 1) (Ab 0)) (J.own (.int (i:Int)) :: [oF (.lst (iL xs)),oI n]) = some (.val (.fz (.int xs[i])),J.own (.int (i:Int)) :: [oF (.lst (iL xs)),oI n]):=Ap (AI (r1:=.val (.fz (.lst (iL xs)))) rfl (r2:=.val (.fz (.int (i:Int)))) rfl) rfl (ixF a1)
  have x2:opM AH (m2L (Ab 0) (Ae (.int 1))) (J.own (.int (i:Int)) :: [oF (.lst (iL xs)),oI n]) = some (.val (.fz (.int ((i:Int) + 1))),J.own (.int (i:Int)) :: [oF (.lst (iL xs)),oI n]):=Ap (AI (r1:=.val (.fz (.int (i:Int)))) rfl (r2:=.val (.fz (.int 1))) rfl) rfl rfl
  have x3:=Ap (f:=ixA) (AI (m1:=Ab 1) (ρ:=J.own (.int (i:Int)) :: [oF (.lst (iL xs)),oI n]) (r1:=.val (.fz (.lst (iL xs)))) rfl x2) rfl (ixF a2)
  refine ⟨_,Ap (AI x1 x3) rfl (c:=.fz (.bl (decide (xs[i] < xs[i + 1])))) (by simp only [ltA,on2,Bs,fzU,Cu,Option.bind_some,Option.map_some,Option.some_or]),?_⟩
  simp only [share,J.er,Option.map_some,nD,Int.toNat_natCast,List.getD_eq_getElem?_getD,List.getElem?_eq_getElem h1,List.getElem?_eq_getElem (show i < xs.length by lia),Option.getD_some])
 have al:=L9 (g:=fun d=>decide ((xs.getD (nD d).toNat 0) < xs.getD ((nD d).toNat + 1) 0)) cm ⟨.int (0 + (k:Int)),List.mem_map.mpr ⟨k,List.mem_range.mpr (by lia),rfl⟩,by
  have z0:(nD (.int (0 + (k:Int)))).toNat = k:=by show ((0:Int) + (k:Int)).toNat = k; lia
  rw [z0]
  simp only [List.getD_eq_getElem?_getD,List.getElem?_eq_getElem hk,List.getElem?_eq_getElem (show k < xs.length by lia),Option.getD_some]
  exact decide_eq_false h⟩
 refine Bb (ρ:=[oF (.lst (iL xs)),oI n]) rfl ?_
 show A0 [oF (.lst (iL xs)),oI n] = _
 unfold A0
 exact (Am ((Ek (not_of w1)).trans rfl)).trans (Bh al)
theorem Ft (k r:Int) (l:List Int) (hl:l.length≤100) (hk:(l.length:Int) = k) (hb:∀ x∈l,0≤x∧x < r):AU [(.own,.fz (.int k)),(.own,.fz (.int r)),(.own,.fz (.lst (iL l)))] = some (.fz (.bl true),[.fz (.int k),.fz (.int r),.fz (.lst (iL l))]):=by
 have hlim:1000≤LIM:=by decide
 have e:=Df .own .own l r (by lia)
 have ea:(l.all fun i=>decide (0≤i) && decide (i < r)) = true:=by
  rw [List.all_eq_true]
  intro x hx
  have:=hb x hx
  rw [Bool.and_eq_true,decide_eq_true_iff,decide_eq_true_iff]; exact this
 rw [ea] at e
 refine Bb (ρ:=[oI k,oI r,some (.own,.fz (.lst (iL l)))]) rfl ?_
 show A1 [oI k,oI r,some (.own,.fz (.lst (iL l)))] = _
 unfold A1
 refine Bh (KI (call_of (cons_of (r:=.val (.fz (.lst (iL l)))) rfl (cons_of (r:=.val (.fz (.int r))) rfl (nil_of _))) rfl rfl e rfl) ?_)
 have v1:opM Bq (Aa (Ab 2) Af) [oI k,oI r,some (.own,.fz (.lst (iL l)))] = some (.val (.fz (.int k)),[oI k,oI r,some (.own,.fz (.lst (iL l)))]):=Ap (cons_of (r:=.val (.fz (.lst (iL l)))) rfl (nil_of _)) rfl (by rw [Fj,A9,hk])
 exact Ap (AI v1 (r2:=.val (.fz (.int k))) rfl) rfl (by simp only [eqA,on2,J.er,Option.bind_some,shB,if_true,Ea,beq_self_eq_true])
section
variable {h:Hs} {m:Mc}
theorem FK (m:Mc):(mvD m.mv).length = m.mv.length:=by simp [mvD]
theorem F9 (okh:h.Ok) (ok:m.Ok h):BV [(.own,.fz (.int (h.ls.length:Int))),(.own,.fz (.lst (mvD m.mv)))] = some (.fz (.bl true),[.fz (.int (h.ls.length:Int)),.fz (.lst (mvD m.mv))]):=by
 have hlim:1000≤LIM:=by decide
 have r1:=ok.r1
 have r2:=ok.r2
 have l2:=okh.l2
 have ml:=FK m
 have v1:opM Bq (Aa (Ab 1) Af) [oI (h.ls.length:Int),some (.own,.fz (.lst (mvD m.mv)))] = some (.val (.fz (.int (m.mv.length:Int))),[oI (h.ls.length:Int),some (.own,.fz (.lst (mvD m.mv)))]):=Ap (cons_of (r:=.val (.fz (.lst (mvD m.mv)))) rfl (nil_of _)) rfl (by rw [Fj,ml])
 have c1:AG (ER leA leA (Ae (.int 1)) (opM Bq (Aa (Ab 1) Af)) (Ae (.int 30))) [oI (h.ls.length:Int),some (.own,.fz (.lst (mvD m.mv)))] = some (true,[oI (h.ls.length:Int),some (.own,.fz (.lst (mvD m.mv)))]):=by
  have d1:decide ((1:Int)≤(m.mv.length:Int)) = true:=decide_eq_true (by lia)
  have d2:decide ((m.mv.length:Int)≤30) = true:=decide_eq_true (by lia)
  exact Mh (k:=true) (l:=true) (x:=.fz (.int 1)) rfl v1 (w:=.fz (.int 30)) rfl (by simp only [leA,on2,Bs,fzU,Cu,Option.bind_some,Option.map_some,Option.some_or,d1]) (by simp only [leA,on2,Bs,fzU,Cu,Option.bind_some,Option.map_some,Option.some_or,d2])
 have t1:AG (opM (Dz Dt) (m1L (Ab 1))) [oI (h.ls.length:Int),some (.own,.fz (.lst (mvD m.mv)))] = some (true,[oI (h.ls.length:Int),some (.own,.fz (.lst (mvD m.mv)))]):=BG (Ap (cons_of (r:=.val (.fz (.lst (mvD m.mv)))) rfl (nil_of _)) rfl rfl)
 have it:CZ (Ab 1) [oI (h.ls.length:Int),some (.own,.fz (.lst (mvD m.mv)))] = some (mvD m.mv,none,[oI (h.ls.length:Int),some (.own,.fz (.lst (mvD m.mv)))]):=rfl
 have al:=all_true (e:=(Ak AU (Aa (Ab 1) (Aa (opM Bq (Aa (Ab 2) Af)) (Aa (Ab 0) Af))))) it (by lia) (fun d hd=>by
  obtain ⟨l,hl,rfl⟩:=List.mem_map.mp hd
  obtain ⟨g1,g2⟩:=ok.ln l hl
  have e:=Ft (h.ls.length:Int) (m.mv.length:Int) l (by lia) (by lia) g2
  have v2:opM Bq (Aa (Ab 2) Af) (J.own (.lst (iL l)) :: [oI (h.ls.length:Int),some (.own,.fz (.lst (mvD m.mv)))]) = some (.val (.fz (.int (m.mv.length:Int))),J.own (.lst (iL l)) :: [oI (h.ls.length:Int),some (.own,.fz (.lst (mvD m.mv)))]):=Ap (cons_of (r:=.val (.fz (.lst (mvD m.mv)))) rfl (nil_of _)) rfl (by rw [Fj,ml])
  exact call_of (cons_of (r:=.val (.fz (.int (h.ls.length:Int)))) rfl (cons_of v2 (cons_of (r:=.val (.fz (.lst (iL l)))) rfl (nil_of _)))) rfl rfl e rfl)
 refine Bb (ρ:=[oI (h.ls.length:Int),some (.own,.fz (.lst (mvD m.mv)))]) rfl ?_
 show Bu [oI (h.ls.length:Int),some (.own,.fz (.lst (mvD m.mv)))] = _
 unfold Bu
 exact (Am ((Ek (HL (not_of t1) (not_of c1))).trans rfl)).trans (Bh al)
noncomputable abbrev eI (h:Hs) (m:Mc):Ro:=[some (.own,.fz h.d),some (.own,.fz m.d)]
theorem IB (okh:h.Ok) (ok:m.Ok h):AS [(.own,.fz h.d),(.own,.fz m.d)] = some (.fz (.bl true),[.fz h.d,.fz m.d]):=by
 have e1:=Fu .own h okh
 have e2:=F0 .own (.lst (mvD m.mv)) (.lst (iL m.gd))
 have e3:=F9 okh ok
 have r2:=ok.r2
 have gl:=Ey ok.rg ok.bg
 have e4:=Jy .own .own m.gd (m.mv.length:Int) (by lia) ok.rg ok.bg
 have w1:Hf (Ak BR (Aa (Ab 0) Af)) (eI h m) = some (.next (eI h m)):=Ml (call_of (cons_of (r:=.val (.fz h.d)) rfl (nil_of _)) rfl rfl e1 rfl)
 have h1:opM ixA (m2L (Ab 0) (Ae (.int 1))) (eI h m) = some (.val (.fz (.lst (h.ls.map ld))),eI h m):=Ap (AI (r1:=.val (.fz h.d)) rfl (r2:=.val (.fz (.int 1))) rfl) rfl (N1 _ _ _)
 have l0:(opM Bq (Aa (opM ixA (m2L (Ab 0) (Ae (.int 1)))) Af)) (eI h m) = some (.val (.fz (.int (h.ls.length:Int))),eI h m):=Ap (cons_of h1 (nil_of _)) rfl (by rw [Fj,List.length_map])
 have m0:opM ixA (m2L (Ab 1) (Ae (.int 0))) (eI h m) = some (.val (.fz (.lst (mvD m.mv))),eI h m):=Ap (AI (r1:=.val (.fz m.d)) rfl (r2:=.val (.fz (.int 0))) rfl) rfl (Px _ _)
 have m1:opM ixA (m2L (Ab 1) (Ae (.int 1))) (eI h m) = some (.val (.fz (.lst (iL m.gd))),eI h m):=Ap (AI (r1:=.val (.fz m.d)) rfl (r2:=.val (.fz (.int 1))) rfl) rfl (N1 _ _ _)
 have l1:(opM Bq (Aa (opM ixA (m2L (Ab 1) (Ae (.int 0)))) Af)) (eI h m) = some (.val (.fz (.int (m.mv.length:Int))),eI h m):=Ap (cons_of m0 (nil_of _)) rfl (by rw [Fj,FK])
 have p1:Ak BC (Aa (Ab 1) Af) (eI h m) = some (.val (.fz (.bl true)),eI h m):=call_of (cons_of (r:=.val (.fz m.d)) rfl (nil_of _)) rfl rfl e2 rfl
 have p2:=call_of (cons_of l0 (cons_of m0 (nil_of _))) rfl rfl e3 rfl
 refine Bb (ρ:=eI h m) rfl ?_
 show Bk (eI h m) = _
 unfold Bk
 refine (Am w1).trans ((Am ((Ek (HL (not_of (BG p1)) (not_of (BG p2)))).trans rfl)).trans (Bh ?_))
 exact call_of (cons_of m1 (cons_of l1 (nil_of _))) rfl rfl e4 rfl
end
noncomputable def LB:List D:=[.non,.bl true,.int 0,.str (Str.ofString ""),.lst [],.tup [],.int (10 ^ 39),.int (-1),.str (Str.ofString "a"),.lst [.int 0],.tup [.int 0]]
theorem P4:∀ o∈LB,isP o = false:=by
 intro o ho
 simp only [LB,List.mem_cons,List.not_mem_nil,or_false] at ho
 rcases ho with rfl | rfl | rfl | rfl | rfl | rfl | rfl | rfl | rfl | rfl | rfl <;> rfl
theorem HZ {ρ:Ro} {k:Int} (h:Ab 5 ρ = some (.val (.fz (.int k)),ρ)) (q:Int):AG (opM ltA (m2L (Ab 5) (Ae (.int q)))) ρ = some (decide (k < q),ρ):=BG (Ap (AI h (r2:=.val (.fz (.int q))) rfl) rfl (by simp only [ltA,on2,Bs,fzU,Cu,Option.bind_some,Option.map_some,Option.some_or]))
theorem Fx {ρ:Ro} {k:Int} (h:Ab 5 ρ = some (.val (.fz (.int k)),ρ)) (q:Int):AG (opM eqA (m2L (Ab 5) (Ae (.int q)))) ρ = some (decide (k = q),ρ):=BG (Ap (AI h (r2:=.val (.fz (.int q))) rfl) rfl (by simp only [eqA,on2,J.er,Option.bind_some,shB,if_true,Ea]; rfl))
theorem EB {ms:MA} {m:ME} {ρ ρ1:Ro} {L:List D} {w:Int} (h:lstM ms ρ = some (.val (.lst (L.map A.fz)),ρ)) (hj:m ρ = some (.val (.fz (.int w)),ρ1)) (h0:0≤w) (h1:w < (L.length:Int)):∃ d∈L,opM ixA (m2L (lstM ms) m) ρ = some (.val (.fz d),ρ1):=by
 have hk:w.toNat < L.length:=by lia
 exact ⟨L[w.toNat],List.getElem_mem hk,Ap (AI h hj) rfl (ixL (CJ (by lia) hk))⟩
theorem D0 {a b:A} {xs ys:List D} (ha:BY a = some xs) (hb:BY b = some ys) (hi:Bs a = none) (hs:CD a = none) (hl:xs.length + ys.length≤1000):AH [a,b] = some (.lst ((xs ++ ys).map A.fz)):=by
 have hlim:1000≤LIM:=by decide
 have hc:xs.length + ys.length≤LIM:=by lia
 simp only [AH,on2,hi,hs,ha,hb,Option.bind_none,Option.none_or,Option.bind_some,if_pos hc]
theorem IJ {ds:List D} (hl:ds.length≤1000):EK [.fz (.lst ds)] = some (.fz (.tup ds)):=by
 have hlim:1000≤LIM:=by decide
 have hc:ds.length≤LIM:=by lia
 simp only [EK,on1,BY,Option.bind_some,if_pos hc]
theorem Mj (ds:List D) (k:Nat):cutD ds none (some (k:Int)) = ds.take k:=by
 unfold cutD
 rw [HT.Lb,HT.G4,List.drop_zero,Nat.sub_zero]
 by_cases q:k≤ds.length
 ·rw [Nat.min_eq_left q]
 ·rw [Nat.min_eq_right (by lia),List.take_of_length_le (by lia),List.take_of_length_le (by lia)]
theorem Mk (ds:List D) (k:Nat):cutD ds (some (k:Int)) none = ds.drop k:=by
 unfold cutD
 rw [HT.Lb,HT.G4]
 by_cases q:k≤ds.length
 ·rw [Nat.min_eq_left q,List.take_of_length_le (by rw [List.length_drop]; lia)]
 ·rw [Nat.min_eq_right (by lia),Nat.sub_self,List.take_zero,List.drop_of_length_le (by lia)]
noncomputable def nbB (r:Int):D→Bool
 | .int i=>decide (0≤i) && decide (i < r)
 | .non | .bl _ | .str _ | .lst _ | .tup _=>false
theorem Nw (d:D) (r:Int):A6 [(.own,.fz d),(.own,.fz (.int r))] = some (.fz (.bl (nbB r d)),[.fz d,.fz (.int r)]):=by
 cases d with
 | int i=>exact Fs .own .own i r
 | _=>rfl
theorem Nv (ds:List D) (r:Int) (hl:ds.length≤1000):Ar [(.own,.fz (.lst ds)),(.own,.fz (.int r))] = some (.fz (.bl (ds.all (nbB r))),[.fz (.lst ds),.fz (.int r)]):=by
 have hlim:1000≤LIM:=by decide
 have it:CZ (Ab 0) [oF (.lst ds),oI r] = some (ds,none,[oF (.lst ds),oI r]):=rfl
 have cm:=CA (e:=Ak A6 (Aa (Ab 0) (Aa (Ab 2) Af))) (f:=fun d=>.bl (nbB r d)) it (by lia) (fun d hd=>⟨.val (.fz (.bl (nbB r d))),call_of (cons_of (r:=.val (.fz d)) rfl (cons_of (r:=.val (.fz (.int r))) rfl (nil_of _))) rfl rfl (Nw d r) rfl,rfl⟩)
 have eb:=DS ds (nbB r)
 have ea:(ds.map (nbB r)).all id = ds.all (nbB r):=by simp [List.all_map]
 have e1:By [(.own,.fz (.lst ds)),(.own,.fz (.int r))] = some (.fz (.bl (ds.all (nbB r))),[.fz (.lst ds),.fz (.int r)]):=by
  refine Bb (ρ:=[oF (.lst ds),oI r]) rfl ?_
  show Br [oF (.lst ds),oI r] = _
  unfold Br
  exact Bh (Ap (cons_of cm (nil_of _)) rfl (by simp only [E2,on1,BY,BP,eb,Option.bind_some,Option.map_some,ea]))
 refine Bb (ρ:=[oF (.lst ds),oI r]) rfl ?_
 show Az [oF (.lst ds),oI r] = _
 unfold Az
 exact Bh (KI (Ap (cons_of (r:=.val (.fz (.lst ds))) rfl (nil_of _)) rfl rfl) (call_of (cons_of (r:=.val (.fz (.lst ds))) rfl (cons_of (r:=.val (.fz (.int r))) rfl (nil_of _))) rfl rfl e1 rfl))
noncomputable def NL (k r:Int) (e:D):Prop:=∃ os,AU [(.own,.fz (.int k)),(.own,.fz (.int r)),(.own,.fz e)] = some (.fz (.bl false),os)
theorem P0 {k r:Int} {e:D} (h:Dt e = false):NL k r e:=by
 have e1:Ar [(.own,.fz e),(.own,.fz (.int r))] = some (.fz (.bl false),[.fz e,.fz (.int r)]):=by
  refine Bb (ρ:=[oF e,oI r]) rfl ?_
  show Az [oF e,oI r] = _
  unfold Az
  exact Bh (KH (Ap (cons_of (r:=.val (.fz e)) rfl (nil_of _)) rfl (by simp only [Dz,on1,J.er,Option.map_some,h])))
 refine ⟨_,Bb (ρ:=[oI k,oI r,oF e]) rfl ?_⟩
 show A1 [oI k,oI r,oF e] = _
 unfold A1
 exact Bh (KH (call_of (cons_of (r:=.val (.fz e)) rfl (cons_of (r:=.val (.fz (.int r))) rfl (nil_of _))) rfl rfl e1 rfl))
theorem Ka {k r:Int} {ds:List D} (hl:ds.length≤1000) (h:ds.all (nbB r) = true→(ds.length:Int)≠k):NL k r (.lst ds):=by
 have e1:=Nv ds r hl
 have c1:=call_of (cons_of (m:=Ab 2) (ρ:=[oI k,oI r,oF (.lst ds)]) (r:=.val (.fz (.lst ds))) rfl (cons_of (m:=Ab 1) (r:=.val (.fz (.int r))) rfl (nil_of _))) rfl rfl e1 rfl
 refine ⟨_,Bb (ρ:=[oI k,oI r,oF (.lst ds)]) rfl ?_⟩
 show A1 [oI k,oI r,oF (.lst ds)] = _
 unfold A1
 refine Bh ?_
 cases q:ds.all (nbB r) with
 | false=>rw [q] at c1; exact KH c1
 | true =>
  rw [q] at c1
  have v1:opM Bq (Aa (Ab 2) Af) [oI k,oI r,oF (.lst ds)] = some (.val (.fz (.int (ds.length:Int))),[oI k,oI r,oF (.lst ds)]):=Ap (cons_of (r:=.val (.fz (.lst ds))) rfl (nil_of _)) rfl (Fj ds)
  have ne:((ds.length:Int) == k) = false:=beq_eq_false_iff_ne.mpr (h q)
  exact KI c1 (Ap (AI v1 (r2:=.val (.fz (.int k))) rfl) rfl (by simp only [eqA,on2,J.er,Option.bind_some,shB,if_true,Ea,ne]))
noncomputable def NV (k:Int) (x:D):Prop:=BV [(.own,.fz (.int k)),(.own,.fz x)] = some (.fz (.bl false),[.fz (.int k),.fz x])
theorem P2 {k:Int} {x:D} (h:Dt x = false):NV k x:=by
 have p:AG (opM (Dz Dt) (m1L (Ab 1))) [oI k,oF x] = some (false,[oI k,oF x]):=BG (Ap (cons_of (r:=.val (.fz x)) rfl (nil_of _)) rfl (by simp only [Dz,on1,J.er,Option.map_some,h]))
 refine Bb (ρ:=[oI k,oF x]) rfl ?_
 show Bu [oI k,oF x] = _
 unfold Bu
 exact Dh ((GF (RD (not_of p))).trans (Bh rfl))
theorem Pc (k:Int) (ds:List D):AG (opM (Dz Dt) (m1L (Ab 1))) [oI k,oF (.lst ds)] = some (true,[oI k,oF (.lst ds)]):=BG (Ap (cons_of (r:=.val (.fz (.lst ds))) rfl (nil_of _)) rfl rfl)
theorem R6 (k:Int) (ds:List D):opM Bq (Aa (Ab 1) Af) [oI k,oF (.lst ds)] = some (.val (.fz (.int (ds.length:Int))),[oI k,oF (.lst ds)]):=Ap (cons_of (r:=.val (.fz (.lst ds))) rfl (nil_of _)) rfl (Fj ds)
theorem Pb (k:Int) (ds:List D):AG (ER leA leA (Ae (.int 1)) (opM Bq (Aa (Ab 1) Af)) (Ae (.int 30))) [oI k,oF (.lst ds)] = some (decide ((1:Int)≤(ds.length:Int)) && decide ((ds.length:Int)≤30),[oI k,oF (.lst ds)]):=
 Mh (x:=.fz (.int 1)) rfl (R6 k ds) (w:=.fz (.int 30)) rfl (by simp only [leA,on2,Bs,fzU,Cu,Option.bind_some,Option.map_some,Option.some_or]) (by simp only [leA,on2,Bs,fzU,Cu,Option.bind_some,Option.map_some,Option.some_or])
theorem MQ {k:Int} {ds:List D} (h:ds.length = 0∨30 < ds.length):NV k (.lst ds):=by
 have c:=Pb k ds
 have e:(decide ((1:Int)≤(ds.length:Int)) && decide ((ds.length:Int)≤30)) = false:=by
  rw [Bool.eq_false_iff]
  intro z
  rw [Bool.and_eq_true,decide_eq_true_iff,decide_eq_true_iff] at z
  lia
 rw [e] at c
 refine Bb (ρ:=[oI k,oF (.lst ds)]) rfl ?_
 show Bu [oI k,oF (.lst ds)] = _
 unfold Bu
 refine Dh ((GF (ρ1:=[oI k,oF (.lst ds)]) ?_).trans (Bh rfl))
 simp only [orT,not_of (Pc k ds),not_of c,Option.bind_some]
 rfl
theorem P1 {k:Int} {ds:List D} {g:D→Bool} (l1:1≤ds.length) (l2:ds.length≤30) (he:∀ d∈ds,∃ os,AU [(.own,.fz (.int k)),(.own,.fz (.int (ds.length:Int))),(.own,.fz d)] = some (.fz (.bl (g d)),os)) (hx:∃ d∈ds,g d = false):NV k (.lst ds):=by
 have hlim:1000≤LIM:=by decide
 have c:=Pb k ds
 have e:(decide ((1:Int)≤(ds.length:Int)) && decide ((ds.length:Int)≤30)) = true:=by
  rw [Bool.and_eq_true,decide_eq_true_iff,decide_eq_true_iff]; lia
 rw [e] at c
 have it:CZ (Ab 1) [oI k,oF (.lst ds)] = some (ds,none,[oI k,oF (.lst ds)]):=rfl
 have cm:=CA (e:=(Ak AU (Aa (Ab 1) (Aa (opM Bq (Aa (Ab 2) Af)) (Aa (Ab 0) Af))))) (f:=fun d=>.bl (g d)) it (by lia) (fun d hd=>by
  obtain ⟨os,z⟩:=he d hd
  have v2:opM Bq (Aa (Ab 2) Af) (J.own d :: [oI k,oF (.lst ds)]) = some (.val (.fz (.int (ds.length:Int))),J.own d :: [oI k,oF (.lst ds)]):=Ap (cons_of (r:=.val (.fz (.lst ds))) rfl (nil_of _)) rfl (Fj ds)
  exact ⟨.val (.fz (.bl (g d))),call_of (cons_of (r:=.val (.fz (.int k))) rfl (cons_of v2 (cons_of (r:=.val (.fz d)) rfl (nil_of _)))) rfl rfl z (JM [.fz (.int k),.fz (.int (ds.length:Int)),.fz d] os _),rfl⟩)
 refine Bb (ρ:=[oI k,oF (.lst ds)]) rfl ?_
 show Bu [oI k,oF (.lst ds)] = _
 unfold Bu
 exact (Am ((Ek (HL (not_of (Pc k ds)) (not_of c))).trans rfl)).trans (Bh (L9 cm hx))
noncomputable def NM (h:Hs) (d:D):Prop:=AS [(.own,.fz h.d),(.own,.fz d)] = some (.fz (.bl false),[.fz h.d,.fz d])
section
variable {h:Hs}
theorem Q6 (okh:h.Ok) (d:D):Hf (Ak BR (Aa (Ab 0) Af)) [oF h.d,oF d] = some (.next [oF h.d,oF d]):=Ml (call_of (cons_of (r:=.val (.fz h.d)) rfl (nil_of _)) rfl rfl (Fu .own h okh) rfl)
theorem KD (d:D):AG (Ak BC (Aa (Ab 1) Af)) [oF h.d,oF d] = some (isP d,[oF h.d,oF d]):=BG (call_of (cons_of (r:=.val (.fz d)) rfl (nil_of _)) rfl rfl (Ks .own d) rfl)
theorem Gm (okh:h.Ok) {d:D} (hd:isP d = false):NM h d:=by
 have p:=KD (h:=h) d
 rw [hd] at p
 refine Bb (ρ:=[oF h.d,oF d]) rfl ?_
 show Bk [oF h.d,oF d] = _
 unfold Bk
 exact (Am (Q6 okh d)).trans (Dh ((GF (RD (not_of p))).trans (Bh rfl)))
theorem Lj {x g:D} {b:Bool} {os:List A} (hv:BV [(.own,.fz (.int (h.ls.length:Int))),(.own,.fz x)] = some (.fz (.bl b),os)):AG (Ak BV (Aa (opM Bq (Aa (opM ixA (m2L (Ab 0) (Ae (.int 1)))) Af)) (Aa (opM ixA (m2L (Ab 1) (Ae (.int 0)))) Af))) [oF h.d,oF (.tup [x,g])] = some (b,[oF h.d,oF (.tup [x,g])]):=by
 have h1:opM ixA (m2L (Ab 0) (Ae (.int 1))) [oF h.d,oF (.tup [x,g])] = some (.val (.fz (.lst (h.ls.map ld))),[oF h.d,oF (.tup [x,g])]):=Ap (AI (r1:=.val (.fz h.d)) rfl (r2:=.val (.fz (.int 1))) rfl) rfl (N1 _ _ _)
 have l0:(opM Bq (Aa (opM ixA (m2L (Ab 0) (Ae (.int 1)))) Af)) [oF h.d,oF (.tup [x,g])] = some (.val (.fz (.int (h.ls.length:Int))),[oF h.d,oF (.tup [x,g])]):=Ap (cons_of h1 (nil_of _)) rfl (by rw [Fj,List.length_map])
 have m0:opM ixA (m2L (Ab 1) (Ae (.int 0))) [oF h.d,oF (.tup [x,g])] = some (.val (.fz x),[oF h.d,oF (.tup [x,g])]):=Ap (AI (r1:=.val (.fz (.tup [x,g]))) rfl (r2:=.val (.fz (.int 0))) rfl) rfl (Px _ _)
 exact BG (call_of (cons_of l0 (cons_of m0 (nil_of _))) rfl rfl hv (JM [.fz (.int (h.ls.length:Int)),.fz x] os _))
theorem En (okh:h.Ok) {x g:D} (hv:NV (h.ls.length:Int) x):NM h (.tup [x,g]):=by
 have p:=KD (h:=h) (.tup [x,g])
 have v:=Lj (g:=g) hv
 refine Bb (ρ:=[oF h.d,oF (.tup [x,g])]) rfl ?_
 show Bk [oF h.d,oF (.tup [x,g])] = _
 unfold Bk
 refine (Am (Q6 okh _)).trans (Dh ((GF (ρ1:=[oF h.d,oF (.tup [x,g])]) ?_).trans (Bh rfl)))
 simp only [orT,not_of p,not_of v,Option.bind_some]
 rfl
theorem N8 (okh:h.Ok) {m:Mc} (om:m.Ok h) {g:D} (hg:NR (m.mv.length:Int) g):NM h (.tup [.lst (mvD m.mv),g]):=by
 have p:=KD (h:=h) (.tup [.lst (mvD m.mv),g])
 have v:=Lj (g:=g) (F9 okh om)
 have m0:opM ixA (m2L (Ab 1) (Ae (.int 0))) [oF h.d,oF (.tup [.lst (mvD m.mv),g])] = some (.val (.fz (.lst (mvD m.mv))),[oF h.d,oF (.tup [.lst (mvD m.mv),g])]):=Ap (AI (r1:=.val (.fz (.tup [.lst (mvD m.mv),g]))) rfl (r2:=.val (.fz (.int 0))) rfl) rfl (Px _ _)
 have m1:opM ixA (m2L (Ab 1) (Ae (.int 1))) [oF h.d,oF (.tup [.lst (mvD m.mv),g])] = some (.val (.fz g),[oF h.d,oF (.tup [.lst (mvD m.mv),g])]):=Ap (AI (r1:=.val (.fz (.tup [.lst (mvD m.mv),g]))) rfl (r2:=.val (.fz (.int 1))) rfl) rfl (N1 _ _ _)
 have l1:(opM Bq (Aa (opM ixA (m2L (Ab 1) (Ae (.int 0)))) Af)) [oF h.d,oF (.tup [.lst (mvD m.mv),g])] = some (.val (.fz (.int (m.mv.length:Int))),[oF h.d,oF (.tup [.lst (mvD m.mv),g])]):=Ap (cons_of m0 (nil_of _)) rfl (by rw [Fj,FK])
 refine Bb (ρ:=[oF h.d,oF (.tup [.lst (mvD m.mv),g])]) rfl ?_
 show Bk [oF h.d,oF (.tup [.lst (mvD m.mv),g])] = _
 unfold Bk
 refine (Am (Q6 okh _)).trans ((Am ((Ek (HL (not_of p) (not_of v))).trans rfl)).trans (Bh ?_))
 exact call_of (cons_of m1 (cons_of l1 (nil_of _))) rfl rfl hg rfl
end
noncomputable abbrev eP (as:List A) (m:Mc) (o:D) (k:Int) (a s:Nat) (w:Int) (x9:Slot):Ro:=[some (.lent,.lst as),oF m.d,oF (.lst (mvD m.mv)),oF (.lst (iL m.gd)),oF o,oI k,oI (a:Int),oI (s:Int),oI w,x9]
section
variable {as:List A} {h:Hs} {m:Mc} {o:D} {k:Int} {a s:Nat} {w:Int}
theorem MU (okh:h.Ok) (om:m.Ok h) (ha:a < m.mv.length) {e:D} (he:NL (h.ls.length:Int) (m.mv.length:Int) e):NV (h.ls.length:Int) (.lst ((mvD m.mv).take a ++ [e] ++ (mvD m.mv).drop (a + 1))):=by
 classical
 have r1:=om.r1
 have r2:=om.r2
 have l2:=okh.l2
 have ll:((mvD m.mv).take a ++ [e] ++ (mvD m.mv).drop (a + 1)).length = m.mv.length:=by simp [mvD]; lia
 refine P1 (g:=fun d=>!decide (d = e)) (by rw [ll]; lia) (by rw [ll]; lia) (fun d hd=>?_) ⟨e,by simp,by simp⟩
 rw [ll]
 by_cases q:d = e
 ·subst q
  obtain ⟨os,z⟩:=he
  exact ⟨os,by simpa using z⟩
 ·have:d∈mvD m.mv:=by
   simp only [List.append_assoc,List.mem_append,List.mem_singleton] at hd
   rcases hd with z | z | z
   ·exact List.mem_of_mem_take z
   ·exact absurd z q
   ·exact List.mem_of_mem_drop z
  obtain ⟨l,hl,rfl⟩:=List.mem_map.mp this
  obtain ⟨g1,g2⟩:=om.ln l hl
  have z:=Ft (h.ls.length:Int) (m.mv.length:Int) l (by lia) (by lia) g2
  exact ⟨_,by simpa [q] using z⟩
theorem Pd (om:m.Ok h) (ha:a < m.mv.length) {e:D} {x9:Slot} (hp:Ad (Ab 9) (eP as m o k a s w x9) = some (.val (.fz e),(eP as m o k a s w (oF e)))):(retS (BZ (Aa (Ad (opM AH (m2L (opM AH (m2L (opM Cj (m2L (Ab 2) (Ab 6))) (lstM (Aa (Ad (Ab 9)) Af)))) (opM DD (m2L (Ab 2) (opM AH (m2L (Ab 6) (Ae (.int 1))))))))) (Aa (Ad (Ab 3)) Af)))) (eP as m o k a s w x9) = some (.ret (.fz (.tup [.lst ((mvD m.mv).take a ++ [e] ++ (mvD m.mv).drop (a + 1)),.lst (iL m.gd)])) (eP as m o k a s w (oF e))):=by
 have r2:=om.r2
 have ml:(mvD m.mv).length = m.mv.length:=FK m
 have v1:(opM Cj (m2L (Ab 2) (Ab 6))) (eP as m o k a s w x9) = some (.val (.lst (((mvD m.mv).take a).map A.fz)),(eP as m o k a s w x9)):=Ap (AI (r1:=.val (.fz (.lst (mvD m.mv)))) rfl (r2:=.val (.fz (.int (a:Int)))) rfl) rfl (by simp only [Cj,on2,Bs,fzU,Cu,BY,Option.bind_some,Option.map_some,Mj])
 have w1:lstM (Aa (Ad (Ab 9)) Af) (eP as m o k a s w x9) = some (.val (.lst ([e].map A.fz)),(eP as m o k a s w (oF e))):=B3 (cons_of hp (nil_of _)) rfl rfl
 have v2:(opM AH (m2L (opM Cj (m2L (Ab 2) (Ab 6))) (lstM (Aa (Ad (Ab 9)) Af)))) (eP as m o k a s w x9) = some (.val (.lst (((mvD m.mv).take a ++ [e]).map A.fz)),(eP as m o k a s w (oF e))):=Ap (AI v1 w1) rfl (D0 (by simp only [BY,BP]) (by simp only [BY,BP]) rfl rfl (by simp; lia))
 have v3:(opM DD (m2L (Ab 2) (opM AH (m2L (Ab 6) (Ae (.int 1)))))) (eP as m o k a s w (oF e)) = some (.val (.lst (((mvD m.mv).drop (a + 1)).map A.fz)),(eP as m o k a s w (oF e))):=by
  have z:opM AH (m2L (Ab 6) (Ae (.int 1))) (eP as m o k a s w (oF e)) = some (.val (.fz (.int ((a + 1:Nat):Int))),(eP as m o k a s w (oF e))):=Ap (AI (r1:=.val (.fz (.int (a:Int)))) rfl (r2:=.val (.fz (.int 1))) rfl) rfl rfl
  exact Ap (AI (r1:=.val (.fz (.lst (mvD m.mv)))) rfl z) rfl (by simp only [DD,on2,Bs,fzU,Cu,BY,Option.bind_some,Option.map_some,Mk])
 have v4:(opM AH (m2L (opM AH (m2L (opM Cj (m2L (Ab 2) (Ab 6))) (lstM (Aa (Ad (Ab 9)) Af)))) (opM DD (m2L (Ab 2) (opM AH (m2L (Ab 6) (Ae (.int 1)))))))) (eP as m o k a s w x9) = some (.val (.lst (((mvD m.mv).take a ++ [e] ++ (mvD m.mv).drop (a + 1)).map A.fz)),(eP as m o k a s w (oF e))):=Ap (AI v2 v3) rfl (D0 (by simp only [BY,BP]) (by simp only [BY,BP]) rfl rfl (by simp; lia))
 exact Bh (DI (cons_of (Aw v4 (BN _ _)) (cons_of (Aw (r:=.val (.fz (.lst (iL m.gd)))) rfl rfl) rfl)))
noncomputable def gdL (r:Int) (xs:List Int):List D:=[.tup (iL xs),.lst (iL (xs ++ [r])),.lst (iL (-1 :: xs)),.lst (iL [0,0]),.lst [.bl true],.non,.str (Str.ofString "0")]
theorem Rl (om:m.Ok h):∀ g∈gdL (m.mv.length:Int) m.gd,NR (m.mv.length:Int) g:=by
 have r1:=om.r1
 have r2:=om.r2
 have gl:=Ey om.rg om.bg
 intro g hg
 simp only [gdL,List.mem_cons,List.not_mem_nil,or_false] at hg
 rcases hg with rfl | rfl | rfl | rfl | rfl | rfl | rfl
 ·exact Kb rfl
 ·exact MO (by simp; lia) ⟨(m.mv.length:Int),by simp,by lia⟩
 ·exact MO (by simp; lia) ⟨-1,by simp,by lia⟩
 ·exact N9 (by simp) (k:=0) (by simp) (by simp) (fun x hx=>by simp at hx; lia)
 ·exact Rt
 ·exact Kb rfl
 ·exact Kb rfl
noncomputable def spL (r:Int):List D:=[.int r,.int (-1),.bl true,.non,.str (Str.ofString "0"),.int (10 ^ 39),.lst [.int 0]]
theorem RU {r:Int} (h1:r≤30):∀ x∈spL r,nbB r x = false:=by
 intro x hx
 simp only [spL,List.mem_cons,List.not_mem_nil,or_false] at hx
 rcases hx with rfl | rfl | rfl | rfl | rfl | rfl | rfl
 ·simp [nbB]
 ·simp [nbB]
 ·rfl
 ·rfl
 ·rfl
 ·have:¬ ((10:Int) ^ 39 < r):=by lia
  simp only [nbB,decide_eq_false this,Bool.and_false]
 ·rfl
noncomputable def lnL (l:List Int):List D:=[.lst (iL (l ++ [0])),.lst ((iL l).take (l.length - 1)),.tup (iL l)]
theorem Rq {r:Int} {l:List Int} {n:Nat} (hl:l.length = n) (h1:1≤n) (h2:n≤6):∀ e∈lnL l,NL (n:Int) r e:=by
 intro e he
 simp only [lnL,List.mem_cons,List.not_mem_nil,or_false] at he
 rcases he with rfl | rfl | rfl
 ·exact Ka (by rw [A9]; simp; lia) fun _=>by rw [A9]; simp; lia
 ·exact Ka (by rw [List.length_take,A9]; lia) fun _=>by rw [List.length_take,A9]; lia
 ·exact P0 rfl
theorem sh9 (ds:List D):share (eP as m o k a s w (oD ds)) (.ref 9) = some (.lst ds,(eP as m o k a s w (oF (.lst ds)))):=by
 simp only [share,List.getElem?_cons_succ,List.getElem?_cons_zero,J.er,D1,Option.map_some]
 rfl
theorem v5 (x9:Slot):Ab 5 (eP as m o k a s w x9) = some (.val (.fz (.int k)),(eP as m o k a s w x9)):=rfl
theorem NW (ds:List D) (h1:1≤ds.length):cutD ds none (some (-1)) = ds.take (ds.length - 1):=by
 unfold cutD
 have e:HT.sIx ds.length ds.length (some (-1)) = ds.length - 1:=by
  show (if (-1:Int) < 0 then ((-1:Int) + (ds.length:Int)).toNat else min (-1:Int).toNat ds.length) = _
  rw [if_pos (by decide)]; lia
 rw [e,HT.G4,List.drop_zero,Nat.sub_zero]
theorem LU (okh:h.Ok) (om:m.Ok h) (ho:o∈LB) (k0:0≤k) (k1:k < 10) (w0:0≤w) (w1:w < 7) (ha:a < m.mv.length) (hs:s < h.ls.length) {l:List Int} (hl:m.mv[a] = l):∃ d x9,NM h d∧(AL (ifS (AG (opM ltA (m2L (Ab 5) (Ae (.int 3))))) (retS (opM ixA (m2L (lstM (Aa (Ad (Ab 4)) (Aa (Ad (lstM (Aa (Ad (Ab 2)) (Aa (Ad (Ab 3)) Af)))) (Aa (Ad (BZ (Aa (Ad (Ab 2)) (Aa (Ad (Ab 3)) (Aa (Ad (Ab 4)) Af))))) Af)))) (Ab 5)))) AY) (AL (ifS (AG (opM ltA (m2L (Ab 5) (Ae (.int 6))))) (retS (opM ixA (m2L (lstM (Aa (Ad (BZ (Aa (Ad (opM EK (Aa (Ab 2) Af))) (Aa (Ad (Ab 3)) Af)))) (Aa (Ad (BZ (Aa (Ad (lstM Af)) (Aa (Ad (lstM Af)) Af)))) (Aa (Ad (BZ (Aa (Ad (BH (BL (Ae (.int 31))) 0 D9 (BH (CZ (Ab 10)) 0 D9 (Ae (.int 0))))) (Aa (Ad (lstM Af)) Af)))) Af)))) (opM C0 (m2L (Ab 5) (Ae (.int 3))))))) AY) (AL (ifS (AG (opM eqA (m2L (Ab 5) (Ae (.int 8))))) (retS (BZ (Aa (Ad (Ab 2)) (Aa (Ad (opM ixA (m2L (lstM (Aa (Ad (opM EK (Aa (Ab 3) Af))) (Aa (Ad (opM AH (m2L (Ab 3) (lstM (Aa (Ad (opM Bq (Aa (Ab 2) Af))) Af))))) (Aa (Ad (opM AH (m2L (lstM (Aa (Ad (opM Du (m1L (Ae (.int 1))))) Af)) (Ab 3)))) (Aa (Ad (lstM (Aa (Ad (Ae (.int 0))) (Aa (Ad (Ae (.int 0))) Af)))) (Aa (Ad (lstM (Aa (Ad (Ae (.bl true))) Af))) (Aa (Ad (Ae .non)) (Aa (Ad (Ae (.str (Str.ofString "0")))) Af)))))))) (Ab 8)))) Af)))) AY) (AL (ifS (AG (opM eqA (m2L (Ab 5) (Ae (.int 9))))) (retS (BZ (Aa (Ad (Ab 2)) Af))) AY) (AL (ifS (AG (opM eqA (m2L (Ab 5) (Ae (.int 6))))) (AK 9 (opM ixA (m2L (lstM (Aa (Ad (opM AH (m2L (Ab 9) (lstM (Aa (Ad (Ae (.int 0))) Af))))) (Aa (Ad (opM Cj (m2L (Ab 9) (opM Du (m1L (Ae (.int 1))))))) (Aa (Ad (opM EK (Aa (Ab 9) Af))) Af)))) (opM Gd (m2L (Ab 8) (Ae (.int 3))))))) (AK 9 (opM AH (m2L (opM AH (m2L (opM Cj (m2L (Ab 9) (Ab 7))) (lstM (Aa (Ad (opM ixA (m2L (lstM (Aa (Ad (opM Bq (Aa (Ab 2) Af))) (Aa (Ad (opM Du (m1L (Ae (.int 1))))) (Aa (Ad (Ae (.bl true))) (Aa (Ad (Ae .non)) (Aa (Ad (Ae (.str (Str.ofString "0")))) (Aa (Ad (opM FW (m2L (Ae (.int 10)) (Ae (.int 39))))) (Aa (Ad (lstM (Aa (Ad (Ae (.int 0))) Af))) Af)))))))) (Ab 8)))) Af)))) (opM DD (m2L (Ab 9) (opM AH (m2L (Ab 7) (Ae (.int 1)))))))))) (retS (BZ (Aa (Ad (opM AH (m2L (opM AH (m2L (opM Cj (m2L (Ab 2) (Ab 6))) (lstM (Aa (Ad (Ab 9)) Af)))) (opM DD (m2L (Ab 2) (opM AH (m2L (Ab 6) (Ae (.int 1))))))))) (Aa (Ad (Ab 3)) Af))))))))) (eP as m o k a s w (oF (.lst (iL l)))) = some (.ret (.fz d) (eP as m o k a s w x9)):=by
 have r1:=om.r1
 have r2:=om.r2
 have l1:=okh.l1
 have l2:=okh.l2
 have hlm:l∈m.mv:=hl ▸ List.getElem_mem ha
 obtain ⟨ll,lb⟩:=om.ln l hlm
 have gl:=Ey om.rg om.bg
 have ml:=FK m
 by_cases q1:k < 3
 ·obtain ⟨d,hd,e⟩:=EB (ms:=(Aa (Ad (Ab 4)) (Aa (Ad (lstM (Aa (Ad (Ab 2)) (Aa (Ad (Ab 3)) Af)))) (Aa (Ad (BZ (Aa (Ad (Ab 2)) (Aa (Ad (Ab 3)) (Aa (Ad (Ab 4)) Af))))) Af)))) (ρ:=(eP as m o k a s w (oF (.lst (iL l))))) (L:=[o,.lst [.lst (mvD m.mv),.lst (iL m.gd)],.tup [.lst (mvD m.mv),.lst (iL m.gd),o]]) rfl (m:=Ab 5) (v5 _) k0 (by simpa using q1)
  refine ⟨d,_,?_,Dh ((GF ((HZ (v5 _) 3).trans (by rw [decide_eq_true q1]))).trans (Bh e))⟩
  simp only [List.mem_cons,List.not_mem_nil,or_false] at hd
  rcases hd with rfl | rfl | rfl
  ·exact Gm okh (P4 d ho)
  ·exact Gm okh rfl
  ·exact Gm okh rfl
 have sq1:∀ A,ifS (AG (opM ltA (m2L (Ab 5) (Ae (.int 3))))) A AY (eP as m o k a s w (oF (.lst (iL l)))) = some (.next (eP as m o k a s w (oF (.lst (iL l))))):=fun A=>(Ek ((HZ (v5 _) 3).trans (by rw [decide_eq_false q1]))).trans rfl
 rw [Am (sq1 _)]
 by_cases q2:k < 6
 ·have t1:opM EK (Aa (Ab 2) Af) (eP as m o k a s w (oF (.lst (iL l)))) = some (.val (.fz (.tup (mvD m.mv))),(eP as m o k a s w (oF (.lst (iL l))))):=Ap (cons_of (r:=.val (.fz (.lst (mvD m.mv)))) rfl (nil_of _)) rfl (IJ (by lia))
  have c1:(BH (BL (Ae (.int 31))) 0 D9 (BH (CZ (Ab 10)) 0 D9 (Ae (.int 0)))) (eP as m o k a s w (oF (.lst (iL l)))) = some (.val (.lst (((C5 0 31).map fun _=>D.lst ((iL l).map fun _=>D.int 0)).map A.fz)),(eP as m o k a s w (oF (.lst (iL l))))):=by
   have rg:=La (m:=Ae (.int 31)) (ρ:=(eP as m o k a s w (oF (.lst (iL l))))) (n:=31) rfl (by lia) (by lia)
   have hlim:1000≤LIM:=by decide
   refine CA (e:=(BH (CZ (Ab 10)) 0 D9 (Ae (.int 0)))) (f:=fun _=>D.lst ((iL l).map fun _=>D.int 0)) rg (by rw [D8]; exact Nat.le_trans (by decide:(31:Int).toNat≤1000) hlim) fun d hd=>?_
   rw [HJ]
   have it2:CZ (Ab 10) (J.own d :: (eP as m o k a s w (oF (.lst (iL l))))) = some (iL l,none,J.own d :: (eP as m o k a s w (oF (.lst (iL l))))):=rfl
   exact ⟨.val (.lst (((iL l).map fun _=>D.int 0).map A.fz)),CA (e:=Ae (.int 0)) (f:=fun _=>D.int 0) it2 (by rw [A9]; lia) fun x hx=>⟨.val (.fz (.int 0)),rfl,rfl⟩,BN _ _⟩
  have ms:(lstM (Aa (Ad (BZ (Aa (Ad (opM EK (Aa (Ab 2) Af))) (Aa (Ad (Ab 3)) Af)))) (Aa (Ad (BZ (Aa (Ad (lstM Af)) (Aa (Ad (lstM Af)) Af)))) (Aa (Ad (BZ (Aa (Ad (BH (BL (Ae (.int 31))) 0 D9 (BH (CZ (Ab 10)) 0 D9 (Ae (.int 0))))) (Aa (Ad (lstM Af)) Af)))) Af)))) (eP as m o k a s w (oF (.lst (iL l)))) = some (.val (.lst (([.tup [.tup (mvD m.mv),.lst (iL m.gd)],.tup [.lst [],.lst []],.tup [.lst ((C5 0 31).map fun _=>D.lst ((iL l).map fun _=>D.int 0)),.lst []]]:List D).map A.fz)),(eP as m o k a s w (oF (.lst (iL l))))):=B3 (cons_of (Aw (DI (cons_of (Aw t1 rfl) (cons_of (Aw (r:=.val (.fz (.lst (iL m.gd)))) rfl rfl) rfl))) rfl) (cons_of (Aw (r:=.val (.fz (.tup [.lst [],.lst []]))) rfl rfl) (cons_of (Aw (DI (cons_of (Aw c1 (BN _ _)) (cons_of (Aw (r:=.val (.lst [])) rfl rfl) rfl))) rfl) (nil_of _)))) rfl rfl
  obtain ⟨d,hd,e⟩:=EB ms (m:=opM C0 (m2L (Ab 5) (Ae (.int 3)))) (w:=k - 3) (Ap (AI (r1:=.val (.fz (.int k))) rfl (r2:=.val (.fz (.int 3))) rfl) rfl rfl) (by lia) (by simp; lia)
  refine ⟨d,_,?_,Dh ((GF ((HZ (v5 _) 6).trans (by rw [decide_eq_true q2]))).trans (Bh e))⟩
  simp only [List.mem_cons,List.not_mem_nil,or_false] at hd
  rcases hd with rfl | rfl | rfl
  ·exact En okh (P2 rfl)
  ·exact En okh (MQ (.inl rfl))
  ·exact En okh (MQ (.inr (by rw [List.length_map,D8]; decide)))
 have sq2:∀ A,ifS (AG (opM ltA (m2L (Ab 5) (Ae (.int 6))))) A AY (eP as m o k a s w (oF (.lst (iL l)))) = some (.next (eP as m o k a s w (oF (.lst (iL l))))):=fun A=>(Ek ((HZ (v5 _) 6).trans (by rw [decide_eq_false q2]))).trans rfl
 rw [Am (sq2 _)]
 have il:∀ xs ys:List Int,iL xs ++ iL ys = iL (xs ++ ys):=fun xs ys=>by simp [iL]
 have il1:∀ x:Int,[D.int x] = iL [x]:=fun x=>rfl
 have lm:opM Bq (Aa (Ab 2) Af) (eP as m o k a s w (oF (.lst (iL l)))) = some (.val (.fz (.int (m.mv.length:Int))),(eP as m o k a s w (oF (.lst (iL l))))):=Ap (cons_of (r:=.val (.fz (.lst (mvD m.mv)))) rfl (nil_of _)) rfl (by rw [Fj,ml])
 by_cases q3:k = 8
 ·have b1:opM EK (Aa (Ab 3) Af) (eP as m o k a s w (oF (.lst (iL l)))) = some (.val (.fz (.tup (iL m.gd))),(eP as m o k a s w (oF (.lst (iL l))))):=Ap (cons_of (r:=.val (.fz (.lst (iL m.gd)))) rfl (nil_of _)) rfl (IJ (by rw [A9]; lia))
  have b2:opM AH (m2L (Ab 3) (lstM (Aa (Ad (opM Bq (Aa (Ab 2) Af))) Af))) (eP as m o k a s w (oF (.lst (iL l)))) = some (.val (.lst ((iL (m.gd ++ [(m.mv.length:Int)])).map A.fz)),(eP as m o k a s w (oF (.lst (iL l))))):=Ap (AI (r1:=.val (.fz (.lst (iL m.gd)))) rfl (B3 (cons_of (Aw lm rfl) (nil_of _)) rfl rfl)) rfl (by rw [← il,← il1]; exact D0 rfl rfl rfl rfl (by rw [A9]; simp; lia))
  have b3:opM AH (m2L (lstM (Aa (Ad (opM Du (m1L (Ae (.int 1))))) Af)) (Ab 3)) (eP as m o k a s w (oF (.lst (iL l)))) = some (.val (.lst ((iL (-1 :: m.gd)).map A.fz)),(eP as m o k a s w (oF (.lst (iL l))))):=Ap (AI (r1:=.val (.lst ([D.int (-1)].map A.fz))) rfl (r2:=.val (.fz (.lst (iL m.gd)))) rfl) rfl (by rw [show (-1 :: m.gd) = [-1] ++ m.gd from rfl,← il,← il1]; exact D0 (by simp only [BY,BP]) rfl rfl rfl (by rw [A9]; simp; lia))
  have ms:(lstM (Aa (Ad (opM EK (Aa (Ab 3) Af))) (Aa (Ad (opM AH (m2L (Ab 3) (lstM (Aa (Ad (opM Bq (Aa (Ab 2) Af))) Af))))) (Aa (Ad (opM AH (m2L (lstM (Aa (Ad (opM Du (m1L (Ae (.int 1))))) Af)) (Ab 3)))) (Aa (Ad (lstM (Aa (Ad (Ae (.int 0))) (Aa (Ad (Ae (.int 0))) Af)))) (Aa (Ad (lstM (Aa (Ad (Ae (.bl true))) Af))) (Aa (Ad (Ae .non)) (Aa (Ad (Ae (.str (Str.ofString "0")))) Af)))))))) (eP as m o k a s w (oF (.lst (iL l)))) = some (.val (.lst ((gdL (m.mv.length:Int) m.gd).map A.fz)),(eP as m o k a s w (oF (.lst (iL l))))):=B3 (cons_of (Aw b1 rfl) (cons_of (Aw b2 (BN _ _)) (cons_of (Aw b3 (BN _ _)) (cons_of (Aw (r:=.val (.lst [.fz (.int 0),.fz (.int 0)])) rfl rfl) (cons_of (Aw (r:=.val (.lst [.fz (.bl true)])) rfl rfl) (cons_of (Aw (r:=.val (.fz .non)) rfl rfl) (cons_of (Aw (r:=.val (.fz (.str (Str.ofString "0")))) rfl rfl) (nil_of _)))))))) rfl rfl
  obtain ⟨d,hd,e⟩:=EB ms (m:=Ab 8) (w:=w) rfl w0 (by simpa [gdL] using w1)
  exact ⟨_,_,N8 okh om (Rl om d hd),Dh ((GF ((Fx (v5 _) 8).trans (by rw [decide_eq_true q3]))).trans (Bh (DI (cons_of (Aw (r:=.val (.fz (.lst (mvD m.mv)))) rfl rfl) (cons_of (Aw e rfl) rfl)))))⟩
 have sq3:∀ A,ifS (AG (opM eqA (m2L (Ab 5) (Ae (.int 8))))) A AY (eP as m o k a s w (oF (.lst (iL l)))) = some (.next (eP as m o k a s w (oF (.lst (iL l))))):=fun A=>(Ek ((Fx (v5 _) 8).trans (by rw [decide_eq_false q3]))).trans rfl
 rw [Am (sq3 _)]
 by_cases q4:k = 9
 ·exact ⟨.tup [.lst (mvD m.mv)],_,Gm okh rfl,Dh ((GF ((Fx (v5 _) 9).trans (by rw [decide_eq_true q4]))).trans (Bh rfl))⟩
 have sq4:∀ A,ifS (AG (opM eqA (m2L (Ab 5) (Ae (.int 9))))) A AY (eP as m o k a s w (oF (.lst (iL l)))) = some (.next (eP as m o k a s w (oF (.lst (iL l))))):=fun A=>(Ek ((Fx (v5 _) 9).trans (by rw [decide_eq_false q4]))).trans rfl
 rw [Am (sq4 _)]
 by_cases q5:k = 6
 ·have b1:opM AH (m2L (Ab 9) (lstM (Aa (Ad (Ae (.int 0))) Af))) (eP as m o k a s w (oF (.lst (iL l)))) = some (.val (.lst ((iL (l ++ [0])).map A.fz)),(eP as m o k a s w (oF (.lst (iL l))))):=Ap (AI (r1:=.val (.fz (.lst (iL l)))) rfl (r2:=.val (.lst ([D.int 0].map A.fz))) rfl) rfl (by rw [← il,← il1]; exact D0 rfl (by simp only [BY,BP]) rfl rfl (by rw [A9]; simp; lia))
  have b2:opM Cj (m2L (Ab 9) (opM Du (m1L (Ae (.int 1))))) (eP as m o k a s w (oF (.lst (iL l)))) = some (.val (.lst (((iL l).take (l.length - 1)).map A.fz)),(eP as m o k a s w (oF (.lst (iL l))))):=Ap (AI (r1:=.val (.fz (.lst (iL l)))) rfl (r2:=.val (.fz (.int (-1)))) rfl) rfl (by
   have z:=NW (iL l) (by rw [A9]; lia)
   rw [A9] at z
   simp only [Cj,on2,Bs,fzU,Cu,BY,Option.bind_some,Option.map_some,z])
  have b3:opM EK (Aa (Ab 9) Af) (eP as m o k a s w (oF (.lst (iL l)))) = some (.val (.fz (.tup (iL l))),(eP as m o k a s w (oF (.lst (iL l))))):=Ap (cons_of (r:=.val (.fz (.lst (iL l)))) rfl (nil_of _)) rfl (IJ (by rw [A9]; lia))
  have ms:(lstM (Aa (Ad (opM AH (m2L (Ab 9) (lstM (Aa (Ad (Ae (.int 0))) Af))))) (Aa (Ad (opM Cj (m2L (Ab 9) (opM Du (m1L (Ae (.int 1))))))) (Aa (Ad (opM EK (Aa (Ab 9) Af))) Af)))) (eP as m o k a s w (oF (.lst (iL l)))) = some (.val (.lst ((lnL l).map A.fz)),(eP as m o k a s w (oF (.lst (iL l))))):=B3 (cons_of (Aw b1 (BN _ _)) (cons_of (Aw b2 (BN _ _)) (cons_of (Aw b3 rfl) (nil_of _)))) rfl rfl
  have md:opM Gd (m2L (Ab 8) (Ae (.int 3))) (eP as m o k a s w (oF (.lst (iL l)))) = some (.val (.fz (.int (w % 3))),(eP as m o k a s w (oF (.lst (iL l))))):=Ap (AI (r1:=.val (.fz (.int w))) rfl (r2:=.val (.fz (.int 3))) rfl) rfl rfl
  obtain ⟨d,hd,e⟩:=EB ms md (by lia) (by simp [lnL]; lia)
  have st:(AK 9 (opM ixA (m2L (lstM (Aa (Ad (opM AH (m2L (Ab 9) (lstM (Aa (Ad (Ae (.int 0))) Af))))) (Aa (Ad (opM Cj (m2L (Ab 9) (opM Du (m1L (Ae (.int 1))))))) (Aa (Ad (opM EK (Aa (Ab 9) Af))) Af)))) (opM Gd (m2L (Ab 8) (Ae (.int 3))))))) (eP as m o k a s w (oF (.lst (iL l)))) = some (.next (eP as m o k a s w (oF d))):=(Bn e rfl).trans rfl
  exact ⟨_,_,En okh (MU okh om ha (Rq ll l1 l2 d hd)),(Am ((GF ((Fx (v5 _) 6).trans (by rw [decide_eq_true q5]))).trans st)).trans (Pd om ha (Aw (r:=.val (.fz d)) rfl rfl))⟩
 ·obtain ⟨x,hx,e⟩:=EB (ms:=(Aa (Ad (opM Bq (Aa (Ab 2) Af))) (Aa (Ad (opM Du (m1L (Ae (.int 1))))) (Aa (Ad (Ae (.bl true))) (Aa (Ad (Ae .non)) (Aa (Ad (Ae (.str (Str.ofString "0")))) (Aa (Ad (opM FW (m2L (Ae (.int 10)) (Ae (.int 39))))) (Aa (Ad (lstM (Aa (Ad (Ae (.int 0))) Af))) Af)))))))) (ρ:=(eP as m o k a s w (oF (.lst (iL l))))) (L:=spL (m.mv.length:Int)) (B3 (cons_of (Aw lm rfl) (cons_of (Aw (r:=.val (.fz (.int (-1)))) rfl rfl) (cons_of (Aw (r:=.val (.fz (.bl true))) rfl rfl) (cons_of (Aw (r:=.val (.fz .non)) rfl rfl) (cons_of (Aw (r:=.val (.fz (.str (Str.ofString "0")))) rfl rfl) (cons_of (Aw (r:=.val (.fz (.int (10 ^ 39)))) rfl rfl) (cons_of (Aw (r:=.val (.lst [.fz (.int 0)])) rfl rfl) (nil_of _)))))))) rfl rfl) (m:=Ab 8) (w:=w) rfl w0 (by simpa [spL] using w1)
  have v1:(opM Cj (m2L (Ab 9) (Ab 7))) (eP as m o k a s w (oF (.lst (iL l)))) = some (.val (.lst (((iL l).take s).map A.fz)),(eP as m o k a s w (oF (.lst (iL l))))):=Ap (AI (r1:=.val (.fz (.lst (iL l)))) rfl (r2:=.val (.fz (.int (s:Int)))) rfl) rfl (by simp only [Cj,on2,Bs,fzU,Cu,BY,Option.bind_some,Option.map_some,Mj])
  have v2:(opM AH (m2L (opM Cj (m2L (Ab 9) (Ab 7))) (lstM (Aa (Ad (opM ixA (m2L (lstM (Aa (Ad (opM Bq (Aa (Ab 2) Af))) (Aa (Ad (opM Du (m1L (Ae (.int 1))))) (Aa (Ad (Ae (.bl true))) (Aa (Ad (Ae .non)) (Aa (Ad (Ae (.str (Str.ofString "0")))) (Aa (Ad (opM FW (m2L (Ae (.int 10)) (Ae (.int 39))))) (Aa (Ad (lstM (Aa (Ad (Ae (.int 0))) Af))) Af)))))))) (Ab 8)))) Af)))) (eP as m o k a s w (oF (.lst (iL l)))) = some (.val (.lst (((iL l).take s ++ [x]).map A.fz)),(eP as m o k a s w (oF (.lst (iL l))))):=Ap (AI v1 (B3 (cons_of (Aw e rfl) (nil_of _)) rfl rfl)) rfl (D0 (by simp only [BY,BP]) rfl rfl rfl (by simp; lia))
  have v3:(opM DD (m2L (Ab 9) (opM AH (m2L (Ab 7) (Ae (.int 1)))))) (eP as m o k a s w (oF (.lst (iL l)))) = some (.val (.lst (((iL l).drop (s + 1)).map A.fz)),(eP as m o k a s w (oF (.lst (iL l))))):=by
   have z:opM AH (m2L (Ab 7) (Ae (.int 1))) (eP as m o k a s w (oF (.lst (iL l)))) = some (.val (.fz (.int ((s + 1:Nat):Int))),(eP as m o k a s w (oF (.lst (iL l))))):=Ap (AI (r1:=.val (.fz (.int (s:Int)))) rfl (r2:=.val (.fz (.int 1))) rfl) rfl rfl
   exact Ap (AI (r1:=.val (.fz (.lst (iL l)))) rfl z) rfl (by simp only [DD,on2,Bs,fzU,Cu,BY,Option.bind_some,Option.map_some,Mk])
  have v4:(opM AH (m2L (opM AH (m2L (opM Cj (m2L (Ab 9) (Ab 7))) (lstM (Aa (Ad (opM ixA (m2L (lstM (Aa (Ad (opM Bq (Aa (Ab 2) Af))) (Aa (Ad (opM Du (m1L (Ae (.int 1))))) (Aa (Ad (Ae (.bl true))) (Aa (Ad (Ae .non)) (Aa (Ad (Ae (.str (Str.ofString "0")))) (Aa (Ad (opM FW (m2L (Ae (.int 10)) (Ae (.int 39))))) (Aa (Ad (lstM (Aa (Ad (Ae (.int 0))) Af))) Af)))))))) (Ab 8)))) Af)))) (opM DD (m2L (Ab 9) (opM AH (m2L (Ab 7) (Ae (.int 1)))))))) (eP as m o k a s w (oF (.lst (iL l)))) = some (.val (.lst (((iL l).take s ++ [x] ++ (iL l).drop (s + 1)).map A.fz)),(eP as m o k a s w (oF (.lst (iL l))))):=Ap (AI v2 v3) rfl (D0 (by simp only [BY,BP]) (by simp only [BY,BP]) rfl rfl (by simp; lia))
  have st:(AK 9 (opM AH (m2L (opM AH (m2L (opM Cj (m2L (Ab 9) (Ab 7))) (lstM (Aa (Ad (opM ixA (m2L (lstM (Aa (Ad (opM Bq (Aa (Ab 2) Af))) (Aa (Ad (opM Du (m1L (Ae (.int 1))))) (Aa (Ad (Ae (.bl true))) (Aa (Ad (Ae .non)) (Aa (Ad (Ae (.str (Str.ofString "0")))) (Aa (Ad (opM FW (m2L (Ae (.int 10)) (Ae (.int 39))))) (Aa (Ad (lstM (Aa (Ad (Ae (.int 0))) Af))) Af)))))))) (Ab 8)))) Af)))) (opM DD (m2L (Ab 9) (opM AH (m2L (Ab 7) (Ae (.int 1))))))))) (eP as m o k a s w (oF (.lst (iL l)))) = some (.next (eP as m o k a s w (oD ((iL l).take s ++ [x] ++ (iL l).drop (s + 1))))):=(Bn v4 rfl).trans rfl
  have nl:NL (h.ls.length:Int) (m.mv.length:Int) (.lst ((iL l).take s ++ [x] ++ (iL l).drop (s + 1))):=Ka (by simp; lia) fun q=>by
   exfalso
   have z:=List.all_eq_true.mp q x (by simp)
   rw [RU (by lia) x hx] at z
   cases z
  exact ⟨_,_,En okh (MU okh om ha nl),(Am ((Ek ((Fx (v5 _) 6).trans (by rw [decide_eq_false q5]))).trans st)).trans (Pd om ha (Aw (r:=.ref 9) rfl (sh9 _)))⟩
end
theorem IC {N:Nat} {as:List A} {h:Hs} (okh:h.Ok) {m:Mc} (om:m.Ok h) (hb:Bag N as) (hN:N≤1000):∃ d as' a2,NM h d∧Bag (N + 5) as'∧Bg [(.lent,.lst as),(.own,.fz m.d)] = some (.fz d,[.lst as',a2]):=by
 have r1:=om.r1
 have r2:=om.r2
 have l1:=okh.l1
 have l2:=okh.l2
 have ml:=FK m
 obtain ⟨o1,as1,g1,g2,b1,t1⟩:=Cc hb (by lia) 11 (by lia) (by lia)
 obtain ⟨k,as2,k0,k1,b2,t2⟩:=Cc b1 (by lia) 10 (by lia) (by lia)
 obtain ⟨a0,as3,a1,a2,b3,t3⟩:=Cc b2 (by lia) (m.mv.length:Int) (by lia) (by lia)
 obtain ⟨a,rfl⟩:∃ a:Nat,a0 = (a:Int):=⟨a0.toNat,by lia⟩
 have ha:a < m.mv.length:=by lia
 have ll:=(om.ln _ (List.getElem_mem ha)).1
 obtain ⟨s0,as4,s1,s2,b4,t4⟩:=Cc b3 (by lia) ((m.mv[a]).length:Int) (by lia) (by lia)
 obtain ⟨s,rfl⟩:∃ s:Nat,s0 = (s:Int):=⟨s0.toNat,by lia⟩
 obtain ⟨w,as5,w0,w1,b5,t5⟩:=Cc b4 (by lia) 7 (by lia) (by lia)
 have st1:KC [2,3] (Ab 1) [some (.lent,.lst as),oF m.d,none,none,none,none,none,none,none,none] = some (.next [some (.lent,.lst as),oF m.d,oF (.lst (mvD m.mv)),oF (.lst (iL m.gd)),none,none,none,none,none,none]):=rfl
 have st2:∃ o∈LB,(AK 4 (opM ixA (m2L (lstM (Aa (Ad (Ae .non)) (Aa (Ad (Ae (.bl true))) (Aa (Ad (Ae (.int 0))) (Aa (Ad (Ae (.str (Str.ofString "")))) (Aa (Ad (lstM Af)) (Aa (Ad (BZ Af)) (Aa (Ad (opM FW (m2L (Ae (.int 10)) (Ae (.int 39))))) (Aa (Ad (opM Du (m1L (Ae (.int 1))))) (Aa (Ad (Ae (.str (Str.ofString "a")))) (Aa (Ad (lstM (Aa (Ad (Ae (.int 0))) Af))) (Aa (Ad (BZ (Aa (Ad (Ae (.int 0))) Af))) Af)))))))))))) (Ak Ag (Aa (Ab 0) (Aa (Ae (.int 11)) Af)))))) [some (.lent,.lst as),oF m.d,oF (.lst (mvD m.mv)),oF (.lst (iL m.gd)),none,none,none,none,none,none] = some (.next [some (.lent,.lst as1),oF m.d,oF (.lst (mvD m.mv)),oF (.lst (iL m.gd)),oF o,none,none,none,none,none]):=by
  obtain ⟨d,hd,e⟩:=EB (ms:=(Aa (Ad (Ae .non)) (Aa (Ad (Ae (.bl true))) (Aa (Ad (Ae (.int 0))) (Aa (Ad (Ae (.str (Str.ofString "")))) (Aa (Ad (lstM Af)) (Aa (Ad (BZ Af)) (Aa (Ad (opM FW (m2L (Ae (.int 10)) (Ae (.int 39))))) (Aa (Ad (opM Du (m1L (Ae (.int 1))))) (Aa (Ad (Ae (.str (Str.ofString "a")))) (Aa (Ad (lstM (Aa (Ad (Ae (.int 0))) Af))) (Aa (Ad (BZ (Aa (Ad (Ae (.int 0))) Af))) Af)))))))))))) (ρ:=[some (.lent,.lst as),oF m.d,oF (.lst (mvD m.mv)),oF (.lst (iL m.gd)),none,none,none,none,none,none]) (L:=LB) rfl (m:=(Ak Ag (Aa (Ab 0) (Aa (Ae (.int 11)) Af)))) (ρ1:=[some (.lent,.lst as1),oF m.d,oF (.lst (mvD m.mv)),oF (.lst (iL m.gd)),none,none,none,none,none,none]) (call_of (cons_of (r:=.ref 0) rfl (cons_of (r:=.val (.fz (.int 11))) rfl (nil_of _))) rfl rfl t1 rfl) g1 (by simpa [LB] using g2)
  exact ⟨d,hd,(Bn e rfl).trans rfl⟩
 obtain ⟨o,ho,st2⟩:=st2
 have st3:(AK 5 (Ak Ag (Aa (Ab 0) (Aa (Ae (.int 10)) Af)))) [some (.lent,.lst as1),oF m.d,oF (.lst (mvD m.mv)),oF (.lst (iL m.gd)),oF o,none,none,none,none,none] = some (.next [some (.lent,.lst as2),oF m.d,oF (.lst (mvD m.mv)),oF (.lst (iL m.gd)),oF o,oI k,none,none,none,none]):=(Bn (call_of (cons_of (r:=.ref 0) rfl (cons_of (r:=.val (.fz (.int 10))) rfl (nil_of _))) rfl rfl t2 rfl) rfl).trans rfl
 have st4:(AK 6 (Ak Ag (Aa (Ab 0) (Aa (opM Bq (Aa (Ab 2) Af)) Af)))) [some (.lent,.lst as2),oF m.d,oF (.lst (mvD m.mv)),oF (.lst (iL m.gd)),oF o,oI k,none,none,none,none] = some (.next [some (.lent,.lst as3),oF m.d,oF (.lst (mvD m.mv)),oF (.lst (iL m.gd)),oF o,oI k,oI (a:Int),none,none,none]):=by
  have q:opM Bq (Aa (Ab 2) Af) [some (.lent,.lst as2),oF m.d,oF (.lst (mvD m.mv)),oF (.lst (iL m.gd)),oF o,oI k,none,none,none,none] = some (.val (.fz (.int (m.mv.length:Int))),[some (.lent,.lst as2),oF m.d,oF (.lst (mvD m.mv)),oF (.lst (iL m.gd)),oF o,oI k,none,none,none,none]):=Ap (cons_of (r:=.val (.fz (.lst (mvD m.mv)))) rfl (nil_of _)) rfl (by rw [Fj,ml])
  exact (Bn (call_of (cons_of (r:=.ref 0) rfl (cons_of q (nil_of _))) rfl rfl t3 rfl) rfl).trans rfl
 have ix:∀ (as':List A) (x7 x8 x9:Slot),opM ixA (m2L (Ab 2) (Ab 6)) [some (.lent,.lst as'),oF m.d,oF (.lst (mvD m.mv)),oF (.lst (iL m.gd)),oF o,oI k,oI (a:Int),x7,x8,x9] = some (.val (.fz (.lst (iL m.mv[a]))),[some (.lent,.lst as'),oF m.d,oF (.lst (mvD m.mv)),oF (.lst (iL m.gd)),oF o,oI k,oI (a:Int),x7,x8,x9]):=fun as' x7 x8 x9=>Ap (AI (r1:=.val (.fz (.lst (mvD m.mv)))) rfl (r2:=.val (.fz (.int (a:Int)))) rfl) rfl (ixF (by rw [CJ (k:=a) rfl (by simpa [mvD] using ha)]; simp [mvD]))
 have st5:(AK 7 (Ak Ag (Aa (Ab 0) (Aa (opM Bq (Aa (opM ixA (m2L (Ab 2) (Ab 6))) Af)) Af)))) [some (.lent,.lst as3),oF m.d,oF (.lst (mvD m.mv)),oF (.lst (iL m.gd)),oF o,oI k,oI (a:Int),none,none,none] = some (.next [some (.lent,.lst as4),oF m.d,oF (.lst (mvD m.mv)),oF (.lst (iL m.gd)),oF o,oI k,oI (a:Int),oI (s:Int),none,none]):=by
  have q:=Ap (f:=Bq) (cons_of (ix as3 none none none) (nil_of _)) rfl (c:=.fz (.int ((m.mv[a]).length:Int))) (by rw [Fj,A9])
  exact (Bn (call_of (cons_of (r:=.ref 0) rfl (cons_of q (nil_of _))) rfl rfl t4 rfl) rfl).trans rfl
 have st6:(AK 8 (Ak Ag (Aa (Ab 0) (Aa (Ae (.int 7)) Af)))) [some (.lent,.lst as4),oF m.d,oF (.lst (mvD m.mv)),oF (.lst (iL m.gd)),oF o,oI k,oI (a:Int),oI (s:Int),none,none] = some (.next (eP as5 m o k a s w none)):=(Bn (call_of (cons_of (r:=.ref 0) rfl (cons_of (r:=.val (.fz (.int 7))) rfl (nil_of _))) rfl rfl t5 rfl) rfl).trans rfl
 have st7:(AK 9 (opM ixA (m2L (Ab 2) (Ab 6)))) (eP as5 m o k a s w none) = some (.next (eP as5 m o k a s w (oF (.lst (iL m.mv[a]))))):=(Bn (ix as5 _ _ _) rfl).trans rfl
 obtain ⟨d,x9,nm,bd⟩:=LU (as:=as5) okh om ho k0 k1 w0 w1 ha (s:=s) (by lia) rfl
 refine ⟨d,as5,_,nm,b5,Bb (ρ:=eP as5 m o k a s w x9) rfl ?_⟩
 show Co [some (.lent,.lst as),oF m.d,none,none,none,none,none,none,none,none] = _
 unfold Co
 exact (Am st1).trans ((Am st2).trans ((Am st3).trans ((Am st4).trans ((Am st5).trans ((Am st6).trans ((Am st7).trans bd))))))
theorem Gz {np nn:Nat} {r:MR} {args:List (Own × A)} {ρ:Ro} {o:Option Str} (hl:args.length = np) (hρ:args.map some ++ List.replicate (nn - np) none = ρ) (h:r ρ = o):fnR np nn r args = o:=by
 subst hρ
 simp only [fnR,if_pos hl,h]
section
variable {h:Hs}
theorem Ni {d:D} (hd:NM h d):AM [(.own,.fz h.d),(.own,.fz d)] = some (Str.ofString "NoMachine"):=by
 have c:=BG (b:=false) (call_of (cons_of (m:=Ab 0) (ρ:=[oF h.d,oF d]) (r:=.val (.fz h.d)) rfl (cons_of (m:=Ab 1) (r:=.val (.fz d)) rfl (nil_of _))) rfl rfl hd rfl)
 show ifR _ (GZ "NoMachine") [oF h.d,oF d] = _
 simp only [ifR,not_of c,Option.bind_some,Bool.not_false,if_true,GZ]
theorem OD {d:D} (hd:NM h d):DX [(.own,.fz h.d),(.own,.fz d)] = some (Str.ofString "NoMachine"):=Gz (ρ:=[oF h.d,oF d]) rfl rfl (Cq rfl rfl rfl (Ni hd))
theorem RS {d e f:D} (hd:NM h d):FZ [(.own,.fz h.d),(.own,.fz d),(.own,.fz e),(.own,.fz f)] = some (Str.ofString "NoMachine"):=Gz (ρ:=[oF h.d,oF d,oF e,oF f]) rfl rfl (Cq rfl rfl rfl (Ni hd))
theorem QD {d e:D} (hd:NM h d):EH [(.own,.fz h.d),(.own,.fz d),(.own,.fz e)] = some (Str.ofString "NoMachine"):=Gz (ρ:=[oF h.d,oF d,oF e]) rfl rfl (Cq rfl rfl rfl (Ni hd))
theorem Iv {d e f:D} (hd:NM h d):B0 [(.own,.fz h.d),(.own,.fz d),(.own,.fz e),(.own,.fz f)] = some (Str.ofString "NoMachine"):=Gz (ρ:=[oF h.d,oF d,oF e,oF f]) rfl rfl (Cq rfl rfl rfl (Ni hd))
theorem Nh {d:D} (hd:NM h d):Di [(.own,.fz h.d),(.own,.fz d)] = some (Str.ofString "NoMachine"):=Gz (ρ:=[oF h.d,oF d,none,none]) rfl rfl (Cq rfl rfl rfl (Ni hd))
noncomputable abbrev eA (h:Hs) (d:D) (k:Int):Ro:=[oF h.d,oF d,oI k]
theorem OB {d:D} (hd:NM h d) {k:Int} (k0:0≤k) (k1:k < 5):BI [(.own,.fz h.d),(.own,.fz d),(.own,.fz (.int k))] = some (Str.ofString "NoMachine"):=by
 have c:∀ q:Int,AG (opM eqA (m2L (Ab 2) (Ae (.int q)))) (eA h d k) = some (decide (k = q),eA h d k):=fun q=>BG (Ap (AI (r1:=.val (.fz (.int k))) rfl (r2:=.val (.fz (.int q))) rfl) rfl (by simp only [eqA,on2,J.er,Option.bind_some,shB,if_true,Ea]; rfl))
 have r0:(Cp DX (Aa (Ab 0) (Aa (Ab 1) Af))) (eA h d k) = some (Str.ofString "NoMachine"):=Cq rfl rfl rfl (OD hd)
 have r1:(Cp FZ (Aa (Ab 0) (Aa (Ab 1) (Aa (Ae .non) (Aa (Ae (.str (Str.ofString "?"))) Af))))) (eA h d k) = some (Str.ofString "NoMachine"):=Cq rfl rfl rfl (RS hd)
 have r2:(Cp EH (Aa (Ab 0) (Aa (Ab 1) (Aa (Ae (.str (Str.ofString "?"))) Af)))) (eA h d k) = some (Str.ofString "NoMachine"):=Cq rfl rfl rfl (QD hd)
 have r3:(Cp B0 (Aa (Ab 0) (Aa (Ab 1) (Aa (Ae .non) (Aa (opM Du (m1L (Ae (.int 1)))) Af))))) (eA h d k) = some (Str.ofString "NoMachine"):=Cq rfl rfl rfl (Iv hd)
 have r4:(Cp Di (Aa (Ab 0) (Aa (Ab 1) Af))) (eA h d k) = some (Str.ofString "NoMachine"):=Cq rfl rfl rfl (Nh hd)
 have s:∀ q:Int,k≠q→ifS (AG (opM eqA (m2L (Ab 2) (Ae (.int q))))) Cz AY (eA h d k) = some (.next (eA h d k)):=fun q hq=>(Ek ((c q).trans (by rw [decide_eq_false hq]))).trans rfl
 have i1:∀ (q:Int) (r:MR),k≠q→ifR (AG (opM eqA (m2L (Ab 2) (Ae (.int q))))) r (eA h d k) = none:=fun q r hq=>by
  simp only [ifR,c,decide_eq_false hq,Option.bind_some,Bool.false_eq_true,if_false]
 have i2:∀ (q:Int) (r:MR),k = q→ifR (AG (opM eqA (m2L (Ab 2) (Ae (.int q))))) r (eA h d k) = r (eA h d k):=fun q r hq=>by
  simp only [ifR,c,decide_eq_true hq,Option.bind_some,if_true]
 have n:∀ {a:MS} {r:MR},a (eA h d k) = some (.next (eA h d k))→E1 a r (eA h d k) = r (eA h d k):=fun h=>by simp only [E1,h,Option.bind_some]
 show IQ _ _ (eA h d k) = _
 simp only [IQ]
 by_cases q0:k = 0
 ·rw [i2 0 _ q0,r0]; rfl
 rw [i1 0 _ q0,Option.none_or,n (s 0 q0)]
 by_cases q1:k = 1
 ·rw [i2 1 _ q1,r1]; rfl
 rw [i1 1 _ q1,Option.none_or,n (s 0 q0),n (s 1 q1)]
 by_cases q2:k = 2
 ·rw [i2 2 _ q2,r2]; rfl
 rw [i1 2 _ q2,Option.none_or,n (s 0 q0),n (s 1 q1),n (s 2 q2)]
 by_cases q3:k = 3
 ·rw [i2 3 _ q3,r3]; rfl
 rw [i1 3 _ q3,Option.none_or,n (s 0 q0),n (s 1 q1),n (s 2 q2),n (s 3 q3),r4]
end
noncomputable abbrev oB (as:List A):Slot:=some (.own,.lst as)
noncomputable abbrev eL (ns:List Int) (h:Hs) (m:Mc) (b k t q:Slot):Ro:=[some (.ro,.scr ns),b,oF h.d,oF m.d,oF m.d,k,t,q]
theorem OF {m1 m2:ME} {ρ ρ1 ρ2:Ro} {i j:Int} (h1:m1 ρ = some (.val (.fz (.int i)),ρ1)) (h2:m2 ρ1 = some (.val (.fz (.int j)),ρ2)) (hi:0≤i∧i≤1000000) (hj:0≤j∧j≤1000000):G3 m1 m2 ρ = some (C5 i (j - i).toNat,none,ρ2):=by
 have e:(-(2 ^ 62)≤i∧i < 2 ^ 62 ∧ -(2 ^ 62)≤j∧j < 2 ^ 62) = True:=by simp only [eq_iff_iff,iff_true]; lia
 simp only [G3,m2L,Aa,Af,h1,h2,Option.bind_some,Option.map_some,e,if_true]
theorem Kr {ns:List Int} {h:Hs} (ok:h.Ok) {m:Mc} (om:m.Ok h) {k:Nat} {x1 x6 x7:Slot} (h1:(x1 = none∨∃ a,x1 = some (Own.own,a))) (h6:(x6 = none∨∃ a,x6 = some (Own.own,a))) (h7:(x7 = none∨∃ a,x7 = some (Own.own,a))) :
  ∃ y1 y6 y7,(y1 = none∨∃ a,y1 = some (Own.own,a))∧(y6 = none∨∃ a,y6 = some (Own.own,a))∧(y7 = none∨∃ a,y7 = some (Own.own,a))∧(AL (AK 1 (Ak Bx (Aa (opM AH (m2L (Ak A2 (Aa (Ab 0) (Aa (Ab 5) Af))) (Ab 5))) Af))) (AL (AK 6 (Ak Bg (Aa (Ab 1) (Aa (Ak AA (Aa (Ab 3) Af)) Af)))) (AL (AK 7 (Ak Ag (Aa (Ab 1) (Aa (Ae (.int 5)) Af)))) (AL (ifS (AG (opM JY (m2L (Ak AS (Aa (Ab 2) (Aa (Ab 6) Af))) (Ae (.bl false))))) (retS (Ae (.bl false))) AY) (ifS (C4 (AG (Ju BI [.nm 2,.nm 6,.nm 7] "NoMachine"))) (retS (Ae (.bl false))) AY))))) (eL ns h m x1 (oI k) x6 x7) = some (.next (eL ns h m y1 (oI k) y6 y7)):=by
 obtain ⟨c,c2,t1⟩:=Ko ns k
 obtain ⟨as,q1,hb,t2⟩:=Nt .own (c + k)
 have t3:=Nu h ok m om
 obtain ⟨d,as1,a2,nh,hb1,t4⟩:=IC ok om hb (by lia)
 obtain ⟨q,as2,g1,g2,hb2,t5⟩:=Cc hb1 (by lia) 5 (by lia) (by lia)
 have st1:AK 1 (Ak Bx (Aa (opM AH (m2L (Ak A2 (Aa (Ab 0) (Aa (Ab 5) Af))) (Ab 5))) Af)) (eL ns h m x1 (oI k) x6 x7) = some (.next (eL ns h m (oB as) (oI k) x6 x7)):=by
  have v0:(Ak A2 (Aa (Ab 0) (Aa (Ab 5) Af))) (eL ns h m x1 (oI k) x6 x7) = some (.val (.fz (.int c)),(eL ns h m x1 (oI k) x6 x7)):=call_of (cons_of (r:=.ref 0) rfl (cons_of (r:=.val (.fz (.int (k:Int)))) rfl (nil_of _))) rfl rfl t1 rfl
  have v1:=Ap (f:=AH) (AI v0 (m2:=Ab 5) (r2:=.val (.fz (.int (k:Int)))) rfl) rfl rfl
  exact (Bn (call_of (cons_of v1 (nil_of _)) rfl rfl t2 rfl) (by rcases h1 with rfl | ⟨a,rfl⟩ <;> rfl)).trans rfl
 have st2:AK 6 (Ak Bg (Aa (Ab 1) (Aa (Ak AA (Aa (Ab 3) Af)) Af))) (eL ns h m (oB as) (oI k) x6 x7) = some (.next (eL ns h m (oB as1) (oI k) (oF d) x7)):=by
  have v0:(Ak AA (Aa (Ab 3) Af)) (eL ns h m (oB as) (oI k) x6 x7) = some (.val (.fz m.d),(eL ns h m (oB as) (oI k) x6 x7)):=call_of (cons_of (r:=.val (.fz m.d)) rfl (nil_of _)) rfl rfl t3 rfl
  exact (Bn (call_of (cons_of (r:=.ref 1) rfl (cons_of v0 (nil_of _))) rfl rfl t4 rfl) (by rcases h6 with rfl | ⟨a,rfl⟩ <;> rfl)).trans rfl
 have st3:AK 7 (Ak Ag (Aa (Ab 1) (Aa (Ae (.int 5)) Af))) (eL ns h m (oB as1) (oI k) (oF d) x7) = some (.next (eL ns h m (oB as2) (oI k) (oF d) (oI q))):=
  (Bn (call_of (cons_of (r:=.ref 1) rfl (cons_of (r:=.val (.fz (.int 5))) rfl (nil_of _))) rfl rfl t5 rfl) (by rcases h7 with rfl | ⟨a,rfl⟩ <;> rfl)).trans rfl
 have w1:Ak AS (Aa (Ab 2) (Aa (Ab 6) Af)) (eL ns h m (oB as2) (oI k) (oF d) (oI q)) = some (.val (.fz (.bl false)),(eL ns h m (oB as2) (oI k) (oF d) (oI q))):=call_of (cons_of (r:=.val (.fz h.d)) rfl (cons_of (r:=.val (.fz d)) rfl (nil_of _))) rfl rfl nh rfl
 have w2:(Ju BI [.nm 2,.nm 6,.nm 7] "NoMachine") (eL ns h m (oB as2) (oI k) (oF d) (oI q)) = some (.val (.fz (.bl true)),(eL ns h m (oB as2) (oI k) (oF d) (oI q))):=QF rfl (OB nh g1 g2)
 refine ⟨oB as2,oF d,oI q,.inr ⟨_,rfl⟩,.inr ⟨_,rfl⟩,.inr ⟨_,rfl⟩,?_⟩
 refine (Am st1).trans ((Am st2).trans ((Am st3).trans ?_))
 refine (Am ((Ek (BG (Ap (AI w1 (r2:=.val (.fz (.bl false))) rfl) rfl (c:=.fz (.bl false)) rfl))).trans rfl)).trans ?_
 exact (Ek (not_of (BG w2))).trans rfl
theorem RT:∀ (n:Nat) (mv:List (List Int)),F1 (n + 1) (mvD mv) = true:=by
 intro n mv
 induction mv with
 | nil=>rfl
 | cons l mv ih =>
  show (shB (n + 1) (.lst (iL l)) && F1 (n + 1) (mvD mv)) = true
  rw [ih,Bool.and_true]
  exact Nx n l
theorem So (m:Mc):shB 16 m.d = true:=by
 show (shB 15 (.lst (mvD m.mv)) && (shB 15 (.lst (iL m.gd)) && true)) = true
 rw [show shB 15 (.lst (mvD m.mv)) = F1 14 (mvD m.mv) from rfl,show shB 15 (.lst (iL m.gd)) = F1 14 (iL m.gd) from rfl,RT 13,Nx]
 rfl
theorem MM (ns:List Int) (hl:ns.length≤63):∃ as',GA [(.ro,.scr ns)] = some (.fz (.bl true),as'):=by
 obtain ⟨c,c2,t1⟩:=Ko ns 0
 obtain ⟨as,q1,hb,t2⟩:=Nt .own c
 obtain ⟨h,as1,ok,hb1,t3⟩:=OJ hb (by lia)
 obtain ⟨c',c3,t4⟩:=Ko ns 1
 obtain ⟨as2,q2,hb2,t5⟩:=Nt .own c'
 obtain ⟨w,as3,g1,g2,hb3,t6⟩:=Cc hb2 (by lia) 8 (by lia) (by lia)
 have st1:AK 1 (Ak Bx (Aa (Ak A2 (Aa (Ab 0) (Aa (Ae (.int 0)) Af))) Af)) [some (.ro,.scr ns),none,none,none,none,none,none,none] = some (.next [some (.ro,.scr ns),oB as,none,none,none,none,none,none]):=by
  have v0:Ak A2 (Aa (Ab 0) (Aa (Ae (.int 0)) Af)) [some (.ro,.scr ns),none,none,none,none,none,none,none] = some (.val (.fz (.int c)),[some (.ro,.scr ns),none,none,none,none,none,none,none]):=call_of (cons_of (r:=.ref 0) rfl (cons_of (r:=.val (.fz (.int 0))) rfl (nil_of _))) rfl rfl t1 rfl
  exact (Bn (call_of (cons_of v0 (nil_of _)) rfl rfl t2 rfl) rfl).trans rfl
 have st2:AK 2 (Ak Ct (Aa (Ab 1) Af)) [some (.ro,.scr ns),oB as,none,none,none,none,none,none] = some (.next [some (.ro,.scr ns),oB as1,oF h.d,none,none,none,none,none]):=(Bn (call_of (cons_of (r:=.ref 1) rfl (nil_of _)) rfl rfl t3 rfl) rfl).trans rfl
 have st2b:AK 1 (Ak Bx (Aa (Ak A2 (Aa (Ab 0) (Aa (Ae (.int 1)) Af))) Af)) [some (.ro,.scr ns),oB as1,oF h.d,none,none,none,none,none] = some (.next [some (.ro,.scr ns),oB as2,oF h.d,none,none,none,none,none]):=by
  have v0:Ak A2 (Aa (Ab 0) (Aa (Ae (.int 1)) Af)) [some (.ro,.scr ns),oB as1,oF h.d,none,none,none,none,none] = some (.val (.fz (.int c')),[some (.ro,.scr ns),oB as1,oF h.d,none,none,none,none,none]):=call_of (cons_of (r:=.ref 0) rfl (cons_of (r:=.val (.fz (.int 1))) rfl (nil_of _))) rfl rfl t4 rfl
  exact (Bn (call_of (cons_of v0 (nil_of _)) rfl rfl t5 rfl) rfl).trans rfl
 have st3:∃ (m:Mc) (as4:List A),m.Ok h∧AK 3 (Ak BW (Aa (Ab 1) (Aa (Ab 2) (Aa (opM ixA (m2L (lstM (Aa (Ad (Ae (.int 30))) (Aa (Ad (Ae (.int 8))) Af))) (opM Hh (Aa (Ae (.int 1)) (Aa (Ak Ag (Aa (Ab 1) (Aa (Ae (.int 8)) Af))) Af))))) Af)))) [some (.ro,.scr ns),oB as2,oF h.d,none,none,none,none,none] = some (.next [some (.ro,.scr ns),oB as4,oF h.d,oF m.d,none,none,none,none]):=by
  have mo:∃ q:Int,1≤q∧q≤30∧(opM ixA (m2L (lstM (Aa (Ad (Ae (.int 30))) (Aa (Ad (Ae (.int 8))) Af))) (opM Hh (Aa (Ae (.int 1)) (Aa (Ak Ag (Aa (Ab 1) (Aa (Ae (.int 8)) Af))) Af))))) [some (.ro,.scr ns),oB as2,oF h.d,none,none,none,none,none] = some (.val (.fz (.int q)),[some (.ro,.scr ns),oB as3,oF h.d,none,none,none,none,none]):=by
   have v0:(Ak Ag (Aa (Ab 1) (Aa (Ae (.int 8)) Af))) [some (.ro,.scr ns),oB as2,oF h.d,none,none,none,none,none] = some (.val (.fz (.int w)),[some (.ro,.scr ns),oB as3,oF h.d,none,none,none,none,none]):=call_of (cons_of (r:=.ref 1) rfl (cons_of (r:=.val (.fz (.int 8))) rfl (nil_of _))) rfl rfl t6 rfl
   have ls:lstM (Aa (Ad (Ae (.int 30))) (Aa (Ad (Ae (.int 8))) Af)) [some (.ro,.scr ns),oB as2,oF h.d,none,none,none,none,none] = some (.val (.lst (([.int 30,.int 8]:List D).map A.fz)),[some (.ro,.scr ns),oB as2,oF h.d,none,none,none,none,none]):=rfl
   by_cases e:w = 0
   ·subst e
    have v1:=Ap (f:=Hh) (cons_of (m:=Ae (.int 1)) (r:=.val (.fz (.int 1))) rfl (cons_of v0 (nil_of _))) rfl (c:=.fz (.int 0)) rfl
    exact ⟨30,by decide,by decide,Ap (AI ls v1) rfl (ixL rfl)⟩
   ·have v1:=Ap (f:=Hh) (cons_of (m:=Ae (.int 1)) (r:=.val (.fz (.int 1))) rfl (cons_of v0 (nil_of _))) rfl (c:=.fz (.int 1)) (by
     have q:¬ w < 1:=by lia
     simp only [Hh,on2,Bs,fzU,Cu,Option.bind_some,q,if_false])
    exact ⟨8,by decide,by decide,Ap (AI ls v1) rfl (ixL rfl)⟩
  obtain ⟨q,q1,q2,mo⟩:=mo
  obtain ⟨m,as4,b1,b2,om,hb4,t7⟩:=LS ok hb3 (by lia) q1 q2
  refine ⟨m,as4,om,(Bn (call_of (cons_of (r:=.ref 1) rfl (cons_of (r:=.val (.fz h.d)) rfl (cons_of mo (nil_of _)))) rfl rfl t7 rfl) rfl).trans rfl⟩
 obtain ⟨m,as4,om,st3⟩:=st3
 have im:=IB ok om
 have cpy:=Nu h ok m om
 have st4:AK 4 (Ak AA (Aa (Ab 3) Af)) [some (.ro,.scr ns),oB as4,oF h.d,oF m.d,none,none,none,none] = some (.next (eL ns h m (oB as4) none none none)):=(Bn (call_of (cons_of (r:=.val (.fz m.d)) rfl (nil_of _)) rfl rfl cpy rfl) rfl).trans rfl
 have st5:(ifS (orT (AG (opM JY (m2L (Ak AS (Aa (Ab 2) (Aa (Ab 4) Af))) (Ae (.bl true))))) (AG (opM neA (m2L (Ab 4) (Ab 3))))) (retS (Ae (.bl false))) AY) (eL ns h m (oB as4) none none none) = some (.next (eL ns h m (oB as4) none none none)):=by
  have v1:Ak AS (Aa (Ab 2) (Aa (Ab 4) Af)) (eL ns h m (oB as4) none none none) = some (.val (.fz (.bl true)),(eL ns h m (oB as4) none none none)):=call_of (cons_of (r:=.val (.fz h.d)) rfl (cons_of (r:=.val (.fz m.d)) rfl (nil_of _))) rfl rfl im rfl
  have sh:=So m
  have er:=Ei m.d
  exact (Ek (HL (BG (Ap (AI v1 (r2:=.val (.fz (.bl true))) rfl) rfl (c:=.fz (.bl false)) rfl)) (BG (Ap (AI (r1:=.val (.fz m.d)) rfl (r2:=.val (.fz m.d)) rfl) rfl (c:=.fz (.bl false)) (by simp only [neA,on2,J.er,Option.bind_some,sh,if_true,er,Bool.not_true]))))).trans rfl
 have hrg:∃ n:Int,0≤n∧n≤1000000∧(opM N7 (Aa (Ae (.int 5)) (Aa (opM Hh (Aa (opM Bq (Aa (Ab 0) Af)) (Aa (Ae (.int 12)) Af))) Af))) (eL ns h m (oB as4) none none none) = some (.val (.fz (.int n)),(eL ns h m (oB as4) none none none)):=by
  refine ⟨if (if (12:Int) < (ns.length:Int) then 12 else (ns.length:Int)) > 5 then (if (12:Int) < (ns.length:Int) then 12 else (ns.length:Int)) else 5,by split <;> split <;> lia,by split <;> split <;> lia,?_⟩
  clear st1 st2 st2b st3 st4 st5 hl im cpy
  walk_at "eo"
 obtain ⟨n,n0,n1,hn⟩:=hrg
 have rg:=OF (m1:=Ae (.int 2)) (ρ:=(eL ns h m (oB as4) none none none)) rfl hn ⟨by decide,by decide⟩ ⟨n0,n1⟩
 obtain ⟨ρ',f1,f2⟩:=E9 (is:=[5]) (one:=true) (b:=(AL (AK 1 (Ak Bx (Aa (opM AH (m2L (Ak A2 (Aa (Ab 0) (Aa (Ab 5) Af))) (Ab 5))) Af))) (AL (AK 6 (Ak Bg (Aa (Ab 1) (Aa (Ak AA (Aa (Ab 3) Af)) Af)))) (AL (AK 7 (Ak Ag (Aa (Ab 1) (Aa (Ae (.int 5)) Af)))) (AL (ifS (AG (opM JY (m2L (Ak AS (Aa (Ab 2) (Aa (Ab 6) Af))) (Ae (.bl false))))) (retS (Ae (.bl false))) AY) (ifS (C4 (AG (Ju BI [.nm 2,.nm 6,.nm 7] "NoMachine"))) (retS (Ae (.bl false))) AY))))))
  (fun t ρ=>∃ x1 x5 x6 x7,(x1 = none∨∃ a,x1 = some (Own.own,a))∧(x5 = none∨∃ a,x5 = some (Own.own,a))∧(x6 = none∨∃ a,x6 = some (Own.own,a))∧(x7 = none∨∃ a,x7 = some (Own.own,a)) ∧ ρ = (eL ns h m x1 x5 x6 x7)) rg ⟨oB as4,none,none,none,.inr ⟨_,rfl⟩,.inl rfl,.inl rfl,.inl rfl,rfl⟩ (fun t d ρ hd hI=>by
   obtain ⟨x1,x5,x6,x7,h1,h5,h6,h7,rfl⟩:=hI
   obtain ⟨rfl,ht⟩:=EA hd
   obtain ⟨y1,y6,y7,k1,k6,k7,q⟩:=Kr (ns:=ns) ok om (k:=2 + t) h1 h6 h7
   have ec:((2 + t:Nat):Int) = 2 + (t:Int):=by lia
   rw [ec] at q
   refine ⟨(eL ns h m x1 (oI (2 + (t:Int))) x6 x7),_,?_,.inl q,y1,oI (2 + (t:Int)),y6,y7,k1,.inr ⟨_,rfl⟩,k6,k7,rfl⟩
   rcases h5 with rfl | ⟨a,rfl⟩ <;> rfl)
 obtain ⟨x1,x5,x6,x7,_,_,_,_,rfl⟩:=f2
 refine ⟨_,Bb (ρ:=(eL ns h m x1 x5 x6 x7)) rfl ?_⟩
 show H0 [some (.ro,.scr ns),none,none,none,none,none,none,none] = _
 unfold H0
 refine (Am st1).trans ((Am st2).trans ((Am st2b).trans ((Am st3).trans ((Am st4).trans ((Am st5).trans ((Am f1).trans (Bh ?_)))))))
 have w0:(Ak AA (Aa (Ab 3) Af)) (eL ns h m x1 x5 x6 x7) = some (.val (.fz m.d),(eL ns h m x1 x5 x6 x7)):=call_of (cons_of (r:=.val (.fz m.d)) rfl (nil_of _)) rfl rfl cpy rfl
 have w1:=call_of (cons_of (m:=Ab 2) (ρ:=(eL ns h m x1 x5 x6 x7)) (r:=.val (.fz h.d)) rfl (cons_of w0 (nil_of _))) rfl rfl im rfl
 exact Ap (AI w1 (r2:=.val (.fz (.bl true))) rfl) rfl rfl
end Gk03
end
section
namespace Gk03
open PySem PySem.Spec PyProof.Rows L2 J
noncomputable def Fe (K:Frag) (n:Str) (st:Stmt):Prop:=∃ (f:Addr) (fd:FuncData),PySem.W.nsIn K mainGlobals n = some (some (.ref f))∧Fun K n n st f fd
theorem Ri {K:Frag} {n:Str} {st:Stmt} {f:Addr} {oc:Value} {od an:Option Addr} {sl:Array (Option Value)} {kV dc pm cd ct:Value} (a:PySem.W.nsIn K mainGlobals n = some (some (.ref f))) (l:K.lookup f = some ⟨oc,od,.func (PySem.W.fnOf n n (DA st) (BU st) (Aq st) .none kV dc pm an cd ct),sl⟩) (c:PySem.W.codeIn K cd n = true) (k:PySem.W.keepIn K (.ref f) = true):Fe K n st:=⟨f,_,a,Pq l c k⟩
theorem df {CX:CXT} (P:Program) (w:World) {K:Frag} {h:Heap} {mg:Str→Option Value} {N:Nat} {n:Str} {st:Stmt} {ps:List Str} {sp:Sp} (X:K.In h) (G:h.Ns mainGlobals mg) (e:Fe K n st) (ok:∀ {f fd},Fun K n n st f fd→∀ base,FnOk P w K mg base CX N f fd ps sp)
  (hb:∀ (kV doc pm:Value) (an:Option Addr) (cdv ct:Value) (us:List Value),us.length = ps.length→bindArgs (PySem.W.fnOf n n (DA st) (BU st) (Aq st) .none kV doc pm an cdv ct) ⟨us,[]⟩ = pure (ps.zip us)):∀ base,Def P w K mg base CX N n ps sp:=by
 obtain ⟨f,fd,a,F⟩:=e
 exact fun base=>⟨f,fd,PySem.W.mg_of X G a,F.kp,F.binds hb,ok F base⟩
theorem dfL (P:Program) (w:World) {K:Frag} {h:Heap} {mg:Str→Option Value} {N:Nat} {st:Stmt} {ps:List Str} {sp:Sp} (X:K.In h) (G:h.Ns mainGlobals mg) (e:Fe K Bp st) (ok:∀ {f fd},PySem.W.nsIn K mainGlobals Bp = some (some (.ref f))→Fun K Bp Bp st f fd→∀ base,FnOk P w K mg base CX0 N f fd ps sp)
  (hb:∀ (kV doc pm:Value) (an:Option Addr) (cdv ct:Value) (us:List Value),us.length = ps.length→bindArgs (PySem.W.fnOf Bp Bp (DA st) (BU st) (Aq st) .none kV doc pm an cdv ct) ⟨us,[]⟩ = pure (ps.zip us)):∀ base,Def P w K mg base CX0 N Bp ps sp:=by
 obtain ⟨f,fd,a,F⟩:=e
 exact fun base=>⟨f,fd,PySem.W.mg_of X G a,F.kp,F.binds hb,ok a F base⟩
theorem ar1 {α:Type} {P:List α → Prop} (h:∀ a,P [a]) (us:List α) (e:us.length = 1):P us:=by
 obtain ⟨a,rfl⟩:=PX e
 exact h a
theorem ar2 {α:Type} {P:List α → Prop} (h:∀ a b,P [a,b]) (us:List α) (e:us.length = 2):P us:=by
 obtain ⟨a,b,rfl⟩:=Sj e
 exact h a b
theorem ar3 {α:Type} {P:List α → Prop} (h:∀ a b c,P [a,b,c]) (us:List α) (e:us.length = 3):P us:=by
 cases us with
 | nil=>cases e
 | cons a t=>exact ar2 (P:=fun t=>P (a :: t)) (h a) t (Nat.succ.inj e)
theorem ar4 {α:Type} {P:List α → Prop} (h:∀ a b c d,P [a,b,c,d]) (us:List α) (e:us.length = 4):P us:=by
 cases us with
 | nil=>cases e
 | cons a t=>exact ar3 (P:=fun t=>P (a :: t)) (h a) t (Nat.succ.inj e)
noncomputable def xok (K:Frag) (C HE:Addr) (wd:Str):Bool:=
 PySem.W.nsIn K mainGlobals wd == some (some (.ref C)) && PySem.W.excIn K C NG "ValueError.__new__" && PySem.W.nsIn K mainGlobals "HandError" == some (some (.ref HE)) && PySem.W.excIn K HE NG "ValueError.__new__" && PySem.W.mroIn K C (.ref HE) == some true && !(C == HE)
 && PySem.W.findIn K (.ref C) "__getattribute__" == some (some (.builtin "BaseException.__getattribute__")) && PySem.W.findIn K (.ref C) "__getattr__" == some none && PySem.W.findIn K (.ref C) "__class__" == some (some (.builtin "object.__class__")) && PySem.W.mroIn K C (.type "object") == some true && PySem.W.mroIn K C (.type "BaseException") == some true
 && (PySem.W.clsIn K C).isSome && (IM.all fun y=>match PySem.W.nsIn K mainGlobals y with | some (some (.ref a))=>PySem.W.kitOne K (.ref C) (.ref a) == some (y == wd) | _=>false) && PySem.W.nsIn K mainGlobals "ValueError" == some none && PySem.W.kitOne K (.ref C) (.type "ValueError") == some true
theorem Q5 {K:Frag} {h:Heap} {mg:Str→Option Value} {C HE:Addr} {wd:Str} (X:K.In h) (G:h.Ns mainGlobals mg) (e:xok K C HE wd = true):Exc K mg wd C∧mg "HandError" = some (.ref HE)∧(∀ base,K.In base→Above base C HE)∧XW K mg C wd:=by
 simp only [xok,Bool.and_eq_true,beq_iff_eq,Bool.not_eq_true',List.all_eq_true] at e
 obtain ⟨⟨⟨⟨⟨⟨⟨⟨⟨⟨⟨⟨⟨⟨e1,e2⟩,e3⟩,e4⟩,e5⟩,e6⟩,e7⟩,e8⟩,e9⟩,e10⟩,e11⟩,e12⟩,e13⟩,e14⟩,e15⟩:=e
 refine ⟨⟨PySem.W.mg_of X G e1,e2⟩,PySem.W.mg_of X G e3,fun base hK=>L7 hK e2 e4 e5 (by simpa using e6),⟨e7,e8,e9,e10,e11⟩,e12,fun y hy=>?_,PySem.W.mg_none_of X G e14,e15⟩
 have q:=e13 y hy
 split at q
 ·rename_i a ha
  exact ⟨a,PySem.W.mg_of X G ha,by simpa using q⟩
 ·cases q
theorem all_mk {l:PySem.W.OpenLaw} {w:World} {K:Frag} {h:Heap} {mg:Str→Option Value} {fa:Addr} (X:K.In h) (G:h.Ns mainGlobals mg) (hfa:mg "law" = some (.ref fa))
  (e0:Fe K "is_pair" (top 3))
  (e1:Fe K "is_whole" (top 1))
  (e2:Fe K "is_count_of_hands" (top 29))
  (e3:Fe K "is_number_below" (top 2))
  (e4:Fe K "are_numbers_below" (top 5))
  (e5:Fe K "is_list_of_numbers_below" (top 4))
  (e6:Fe K "is_rising_list_below" (top 6))
  (e7:Fe K "is_small_letter" (top 32))
  (e8:Fe K "is_entry" (top 31))
  (e9:Fe K "are_entries" (top 30))
  (e10:Fe K "is_house" (top 28))
  (e11:Fe K "need_house" (top 33))
  (e12:Fe K "are_moves_of_room" (top 42))
  (e13:Fe K "are_moves" (top 41))
  (e14:Fe K "is_machine" (top 40))
  (e15:Fe K "_law_bag" (top 62))
  (e16:Fe K "_law_take" (top 63))
  (e17:Fe K "_law_house" (top 64))
  (e18:Fe K "_law_machine" (top 65))
  (e19:Fe K "_law_machine_copy" (top 67))
  (e20:Fe K "_law_cell" (top 61))
  (e21:Fe K "_law_no_machine" (top 70))
  (e22:Fe K "law" (top 72))
  (e_need_machine:Fe K "need_machine" (top 43))
  (e_least:Fe K "least" (top 48))
  (e_led:Fe K "led" (top 45))
  (e_lets:Fe K "lets" (top 47))
  (e_told_apart:Fe K "told_apart" (top 53))
  (e_judged:Fe K "judged" (top 56))
  (e__law_asked:Fe K "_law_asked" (top 71))
  (e__law_word:Fe K "_law_word" (top 66))
  (e__law_answer:Fe K "_law_answer" (top 68))
  (e__law_refuses:Fe K "_law_refuses" (top 69))
  {t_FEWEST_HANDS:Tok} (i_FEWEST_HANDS:PySem.W.nsIn K mainGlobals "FEWEST_HANDS" = some (some (.int 2 t_FEWEST_HANDS)))
  {t_MOST_HANDS:Tok} (i_MOST_HANDS:PySem.W.nsIn K mainGlobals "MOST_HANDS" = some (some (.int 4 t_MOST_HANDS)))
  {t_MOST_LETTERS:Tok} (i_MOST_LETTERS:PySem.W.nsIn K mainGlobals "MOST_LETTERS" = some (some (.int 6 t_MOST_LETTERS)))
  {t_MOST_ROOMS:Tok} (i_MOST_ROOMS:PySem.W.nsIn K mainGlobals "MOST_ROOMS" = some (some (.int 30 t_MOST_ROOMS)))
  (z_isinstance:PySem.W.nsIn K mainGlobals "isinstance" = some none)
  (z_len:PySem.W.nsIn K mainGlobals "len" = some none)
  (z_all:PySem.W.nsIn K mainGlobals "all" = some none)
  (z_any:PySem.W.nsIn K mainGlobals "any" = some none)
  (z_range:PySem.W.nsIn K mainGlobals "range" = some none)
  (z_list:PySem.W.nsIn K mainGlobals "list" = some none)
  (z_int:PySem.W.nsIn K mainGlobals "int" = some none)
  (z_bool:PySem.W.nsIn K mainGlobals "bool" = some none)
  (z_tuple:PySem.W.nsIn K mainGlobals "tuple" = some none)
  (z_str:PySem.W.nsIn K mainGlobals "str" = some none)
  (z_abs:PySem.W.nsIn K mainGlobals "abs" = some none)
  (z_max:PySem.W.nsIn K mainGlobals "max" = some none)
  (z_min:PySem.W.nsIn K mainGlobals "min" = some none)
  (z_dict:PySem.W.nsIn K mainGlobals "dict" = some none)
  (z_sorted:PySem.W.nsIn K mainGlobals "sorted" = some none)
  (z_set:PySem.W.nsIn K mainGlobals "set" = some none)
  (z_enumerate:PySem.W.nsIn K mainGlobals "enumerate" = some none)
  (z_zip:PySem.W.nsIn K mainGlobals "zip" = some none)
  {c b:Addr} (ht:PySem.W.tabIn K Bp = some (c,b)) (hh:PySem.W.codeHdIn K c b = true)
  {HE:Addr} {C_NoMachine:Addr} (hx_NoMachine:xok K C_NoMachine HE "NoMachine" = true)
  : ∃ fd:FuncData,(∀ (s:Shared) (v:Value),BindsTo s fd ⟨[v],[]⟩ [("_law_script",v)])∧∀ base:Heap,K.In base→base.Ns mainGlobals mg→FnOk l.prog w K mg base CX0 18 fa fd ["_law_script"] (spJ K GA 1):=by
 have z {n:Str} (e:PySem.W.nsIn K mainGlobals n = some none):=PySem.W.mg_none_of X G e
 have B:Blt mg K:=⟨z z_isinstance,z z_len,z z_all,z z_any,z z_range,z z_list,z z_int,z z_bool,z z_tuple,z z_str,z z_abs,z z_max,z z_min,z z_dict⟩
 have B2:Blt2 mg:=⟨z z_sorted,z z_set,z z_enumerate,z z_zip⟩
 have Dq:GInt mg "FEWEST_HANDS" 2:=⟨⟨_,PySem.W.mg_of X G i_FEWEST_HANDS⟩⟩
 have D2:GInt mg "MOST_HANDS" 4:=⟨⟨_,PySem.W.mg_of X G i_MOST_HANDS⟩⟩
 have Dr:GInt mg "MOST_LETTERS" 6:=⟨⟨_,PySem.W.mg_of X G i_MOST_LETTERS⟩⟩
 have D3:GInt mg "MOST_ROOMS" 30:=⟨⟨_,PySem.W.mg_of X G i_MOST_ROOMS⟩⟩
 have Cd:=df l.prog w X G e0 (fun F s=>Kd F B B2) fun _ _ _ _ _ _=>ar1 fun _=>rfl
 have CS:=df l.prog w X G e1 (fun F s=>Jn F B B2) fun _ _ _ _ _ _=>ar1 fun _=>rfl
 have Cn:=df l.prog w X G e2 (fun F s=>Es F B B2 (CS s) Dq D2) fun _ _ _ _ _ _=>ar1 fun _=>rfl
 have CG:=df l.prog w X G e3 (fun F s=>EY F B B2 (CS s)) fun _ _ _ _ _ _=>ar2 fun _ _=>rfl
 have Cm:=df l.prog w X G e4 (fun F s=>Er F B B2 (CG s)) fun _ _ _ _ _ _=>ar2 fun _ _=>rfl
 have AO:=df l.prog w X G e5 (fun F s=>Dd F B B2 (Cm s)) fun _ _ _ _ _ _=>ar2 fun _ _=>rfl
 have A7:=df l.prog w X G e6 (fun F s=>DW F B B2 (AO s)) fun _ _ _ _ _ _=>ar2 fun _ _=>rfl
 have CH:=df l.prog w X G e7 (fun F s=>EZ F B B2) fun _ _ _ _ _ _=>ar1 fun _=>rfl
 have EM:=df l.prog w X G e8 (fun F s=>Jl F B B2 (A7 s) (Cd s) (CH s)) fun _ _ _ _ _ _=>ar2 fun _ _=>rfl
 have DJ:=df l.prog w X G e9 (fun F s=>GO F B B2 (EM s) Dr) fun _ _ _ _ _ _=>ar2 fun _ _=>rfl
 have EN:=df l.prog w X G e10 (fun F s=>Jm F B B2 (Cd s) (Cn s) (DJ s)) fun _ _ _ _ _ _=>ar1 fun _=>rfl
 have DZ:=df l.prog w X G e11 (fun F s=>Hl F B B2 (EN s)) fun _ _ _ _ _ _=>ar1 fun _=>rfl
 have Ck:=df l.prog w X G e12 (fun F s=>Ep F B B2 (AO s)) fun _ _ _ _ _ _=>ar3 fun _ _ _=>rfl
 have Ec:=df l.prog w X G e13 (fun F s=>Ij F B B2 (Ck s) D3) fun _ _ _ _ _ _=>ar2 fun _ _=>rfl
 have BO:=df l.prog w X G e14 (fun F s=>Hk F B B2 (DZ s) (A7 s) (Cd s) (Ec s)) fun _ _ _ _ _ _=>ar2 fun _ _=>rfl
 have Dj:=df l.prog w X G e15 (fun F s=>Jj F B B2) fun _ _ _ _ _ _=>ar1 fun _=>rfl
 have Ay:=df l.prog w X G e16 (fun F s=>Ii F B B2) fun _ _ _ _ _ _=>ar2 fun _ _=>rfl
 have DY:=df l.prog w X G e17 (fun F s=>Hj F B B2 (Ay s)) fun _ _ _ _ _ _=>ar1 fun _=>rfl
 have Dk:=df l.prog w X G e18 (fun F s=>Ge F B B2 (Ay s)) fun _ _ _ _ _ _=>ar3 fun _ _ _=>rfl
 have BE:=df l.prog w X G e19 (fun F s=>Eo F B B2) fun _ _ _ _ _ _=>ar1 fun _=>rfl
 have C2:=df l.prog w X G e20 (fun F s=>Ih F B B2) fun _ _ _ _ _ _=>ar2 fun _ _=>rfl
 have CF:=df l.prog w X G e21 (fun F s=>EX F B B2 (Ay s)) fun _ _ _ _ _ _=>ar2 fun _ _=>rfl
 obtain ⟨X_NoMachine,hHE,hab_NoMachine,W_NoMachine⟩:=Q5 X G hx_NoMachine
 obtain ⟨fw,fdw,aw,Fw⟩:=e__law_word
 obtain ⟨fA,fdA,aA,FA⟩:=e__law_answer
 obtain ⟨fR,fdR,aR,FR⟩:=e__law_refuses
 have R_NoMachine:∀ base,K.In base→Rfs l.prog w K mg base 17 14 C_NoMachine "NoMachine" := fun base hK=>Np FR dK (PySem.W.mg_of X G aR) (Ma (j:=2) FA (PySem.W.mg_of X G aA) hHE (hab_NoMachine base hK) ⟨fw,fdw,PySem.W.mg_of X G aw,Fw.kp,Fw.binds (fun _ _ _ _ _ _=>ar1 fun _=>rfl),Oc Fw B W_NoMachine dK⟩ fun a o q=>Gf q)
 have DR_need_machine:=df (sp:=spR K (fun _=>C_NoMachine) AM 2) l.prog w X G e_need_machine (fun F s=>FN F B B2 (BO s) X_NoMachine) (fun _ _ _ _ _ _=>ar2 fun _ _=>rfl)
 have DR_least:=df (sp:=spR K (fun _=>C_NoMachine) DX 2) l.prog w X G e_least (fun F s=>LD F B B2 (DR_need_machine s)) (fun _ _ _ _ _ _=>ar2 fun _ _=>rfl)
 have DR_led:=df (sp:=spR K (fun _=>C_NoMachine) FZ 4) l.prog w X G e_led (fun F s=>Ob F B B2 (DR_need_machine s)) (fun _ _ _ _ _ _=>ar4 fun _ _ _ _=>rfl)
 have DR_lets:=df (sp:=spR K (fun _=>C_NoMachine) EH 3) l.prog w X G e_lets (fun F s=>MV F B B2 (DR_need_machine s)) (fun _ _ _ _ _ _=>ar3 fun _ _ _=>rfl)
 have DR_told_apart:=df (sp:=spR K (fun _=>C_NoMachine) B0 4) l.prog w X G e_told_apart (fun F s=>GL F B B2 (DR_need_machine s)) (fun _ _ _ _ _ _=>ar4 fun _ _ _ _=>rfl)
 have DR_judged:=df (sp:=spR K (fun _=>C_NoMachine) Di 2) l.prog w X G e_judged (fun F s=>Kc F B B2 (DR_need_machine s)) (fun _ _ _ _ _ _=>ar2 fun _ _=>rfl)
 have DR__law_asked:=df (sp:=spR K (fun _=>C_NoMachine) BI 3) l.prog w X G e__law_asked (fun F s=>GK F B B2 (DR_least s) (DR_led s) (DR_lets s) (DR_told_apart s) (DR_judged s)) (fun _ _ _ _ _ _=>ar3 fun _ _ _=>rfl)
 obtain ⟨f,fd,a,F⟩:=e22
 cases hfa.symm.trans (PySem.W.mg_of X G a)
 refine ⟨fd,?_,fun s hK _=>P8 (XC:=fun _=>C_NoMachine) F a ht hh B B2 (Dj s) (DY s) (Dk s) (BE s) (C2 s) (CF s) (Ay s) (BO s) (DR__law_asked s) (R_NoMachine s hK)⟩
 obtain ⟨_,_,_,_,_,_,_,_,_,rfl,_,_⟩:=F.ex
 exact fun s v=>.of_eq rfl
theorem walk {l:PySem.W.OpenLaw} {q:Program} {loose:List Str} {XP:(Str→Option Value)→Heap→Prop} {YP:World→Heap→Prop} {d:DefRec} {K:Params→Frag} (hn:l.most = some 63) (hdf:d.params.defaults = [])
  (hY:∀ (w:World) (h:Heap),YP w h→(K w.params).In h)
  (F:∀ (w:World) (mg:Str→Option Value) (fa:Addr) (h:Heap),(K w.params).In h→h.Ns mainGlobals mg→mg d.name = some (.ref fa) →
   ∃ fd:FuncData,(∀ (s:Shared) (u:Value),BindsTo s fd ⟨[u],[]⟩ [("_law_script",u)])∧∀ base:Heap,(K w.params).In base→base.Ns mainGlobals mg→FnOk l.prog w (K w.params) mg base CX0 18 fa fd ["_law_script"] (spJ (K w.params) GA 1)) (hT:∀ (w:World) (c b:Addr),PySem.W.tabIn (K w.params) Bp = some (c,b)→(∃ d2,(recsOf q).find? (fun e=>e.name == Bp) = some d2)∧(K w.params).lookup b = none) :
  PySem.W.WalkO q loose XP YP l.row.toRowW d [] (fun f vs=>PySem.call f vs):=
 L2.OX (n:=63) (k:=18) (x := "_law_script") (CX:=fun _=>CX0) (sp:=fun w=>spJ (K w.params) GA 1) hn (by decide) hdf ⟨rfl,by decide,by decide⟩ hY F (fun _ H a ns hl hO hS=>let ⟨_,e⟩:=MM ns hl; PV hl hO hS e) (fun _ _ _ _ _ z=>z) hT
noncomputable def fo (n:Str) (i:Nat) (m:Str) (t:Tok) (c:Addr):Obj:={ cls:=.type "function",data:=.func (PySem.W.fnOf n n (DA (top i)) (BU (top i)) (Aq (top i)) .none .none .none (.str m t) none (.ref c) .none) }
noncomputable def co (n:Str) (t:Nat) (l k:Int) (r:Nat) (x y:Value) (q:Nat) (u:Int) (v:Nat):Obj:={ cls:=.type "code",data:=.fields #[.str n t,.str n (t + 1),.str "/claim/cut.py" (t + 2),.int l 0,.int k 0,.int 0 0,.int 0 0,.int 3 0,.ref r,.bool true,.int 181 0,.ref (r + 1),.none,x,y,.ref q,.int u 0,.int l 0,.str "/claim/cut.py" v] }
noncomputable def en (P:Params) (n:Str) (t:Tok) (v:Value):DictEntry:=⟨PyData.keyHash P n,.str n t,v⟩
noncomputable def kc (n:Str) (bs m:List Value) (ns:Addr) (sb:List Value) (b:Addr) (t u:Tok):Obj:={ cls:=.type "type",data:=.cls { name:=n,bases:=bs,mro:=m ++ [.type "ValueError",.type "Exception",.type "BaseException",.type "object"],ns:=ns,qualname:=n,subclasses:=sb },slots:=#[some (.ref b),none,some (.str n t),some (.str n u),some (.builtin "ValueError.__new__"),some (.bool true)] }
noncomputable def nd (es:Array DictEntry) (ep:Nat):Obj:={ cls:=.type "dict",data:=.dict es ep }
noncomputable def gE (P:Params):List DictEntry:=[en P "__name__" 165 (.str "law_handsapart_k03_machines_known" 781),
 en P "__doc__" 166 .none,
 en P "__package__" 167 .none,
 en P "__loader__" 168 (.builtin "__main__.__loader__#opaque"),
 en P "__spec__" 169 .none,
 en P "__annotations__" 170 (.ref 6),
 en P "__builtins__" 171 (.ref 4),
 en P "__file__" 173 (.str "/claim/cut.py" 172),
 en P "__cached__" 174 .none,
 en P "is_whole" 195 (.ref 21),
 en P "is_number_below" 203 (.ref 28),
 en P "is_pair" 210 (.ref 35),
 en P "is_list_of_numbers_below" 218 (.ref 42),
 en P "are_numbers_below" 224 (.ref 47),
 en P "is_rising_list_below" 230 (.ref 52),
 en P "HandError" 250 (.ref 62),
 en P "NoHouse" 266 (.ref 75),
 en P "NoRow" 282 (.ref 87),
 en P "NoMachine" 298 (.ref 99),
 en P "NoRoom" 314 (.ref 111),
 en P "NoHand" 330 (.ref 123),
 en P "Unlike" 346 (.ref 135),
 en P "NoPast" 362 (.ref 147),
 en P "TooMany" 378 (.ref 159),
 en P "Torn" 405 (.ref 178),
 en P "NoTable" 421 (.ref 190),
 en P "NoSet" 437 (.ref 202),
 en P "Falls" 462 (.ref 221),
 en P "Whole" 478 (.ref 233),
 en P "NoText" 494 (.ref 245),
 en P "NoWord" 510 (.ref 257),
 en P "FEWEST_HANDS" 514 (.int 2 513),
 en P "MOST_HANDS" 516 (.int 4 515),
 en P "MOST_LETTERS" 518 (.int 6 517),
 en P "is_house" 525 (.ref 266),
 en P "is_count_of_hands" 532 (.ref 273),
 en P "are_entries" 538 (.ref 278),
 en P "is_entry" 546 (.ref 285),
 en P "is_small_letter" 553 (.ref 292),
 en P "need_house" 560 (.ref 299),
 en P "letters_of" 566 (.ref 304),
 en P "is_hand_in_both" 572 (.ref 309),
 en P "is_row" 578 (.ref 314),
 en P "need_row" 586 (.ref 321),
 en P "MOST_ROOMS" 590 (.int 30 589),
 en P "is_machine" 598 (.ref 328),
 en P "are_moves" 604 (.ref 333),
 en P "are_moves_of_room" 613 (.ref 340),
 en P "need_machine" 621 (.ref 347),
 en P "need_room" 629 (.ref 354),
 en P "led" 639 (.ref 361),
 en P "room_behind" 651 (.ref 368),
 en P "lets" 660 (.ref 375),
 en P "least" 668 (.ref 382),
 en P "least_of" 674 (.ref 387),
 en P "kinds_of_rooms" 680 (.ref 392),
 en P "parted_kinds" 686 (.ref 397),
 en P "rooms_as_met" 698 (.ref 404),
 en P "told_apart" 708 (.ref 411),
 en P "row_between" 725 (.ref 418),
 en P "judged" 737 (.ref 425),
 en P "torn_rows" 756 (.ref 432),
 en P "rows_to_rooms" 769 (.ref 439),
 en P "free_pairs" 780 (.ref 446),
 en P "_law_cell" 790 (.ref 453),
 en P "_law_bag" 797 (.ref 460),
 en P "_law_take" 806 (.ref 467),
 en P "_law_house" 812 (.ref 472),
 en P "_law_machine" 818 (.ref 477),
 en P "_law_word" 824 (.ref 482),
 en P "_law_machine_copy" 830 (.ref 487),
 en P "_law_answer" 838 (.ref 494),
 en P "_law_refuses" 846 (.ref 501),
 en P "_law_no_machine" 852 (.ref 506),
 en P "_law_asked" 861 (.ref 513),
 en P "law" 875 (.ref 520)]
noncomputable def gD (P:Params):Obj:={ cls:=.type "dict",data:=.dict (gE P).toArray 76 }
noncomputable def Kf:Params→Frag:=fun P=>(nat_lit 3,gD P) ::
 (nat_lit 20,co "is_whole" 189 2 1 15 (.ref 17) (.ref 18) 19 193 194) ::
 (nat_lit 21,fo "is_whole" 1 "handsapart.checks" 187 20) ::
 (nat_lit 27,co "is_number_below" 196 4 2 22 (.ref 24) (.ref 25) 26 201 202) ::
 (nat_lit 28,fo "is_number_below" 2 "handsapart.checks" 187 27) ::
 (nat_lit 34,co "is_pair" 204 6 1 29 (.ref 31) (.ref 32) 33 208 209) ::
 (nat_lit 35,fo "is_pair" 3 "handsapart.checks" 187 34) ::
 (nat_lit 41,co "is_list_of_numbers_below" 211 8 2 36 (.ref 38) (.ref 39) 40 216 217) ::
 (nat_lit 42,fo "is_list_of_numbers_below" 4 "handsapart.checks" 187 41) ::
 (nat_lit 46,co "are_numbers_below" 219 10 2 43 .none .none 45 222 223) ::
 (nat_lit 47,fo "are_numbers_below" 5 "handsapart.checks" 187 46) ::
 (nat_lit 51,co "is_rising_list_below" 225 12 2 48 .none .none 50 228 229) ::
 (nat_lit 52,fo "is_rising_list_below" 6 "handsapart.checks" 187 51) ::
 (nat_lit 61,nd #[en P "__module__" 240 (.str "handsapart.errors" 231),en P "__firstlineno__" 244 (.int 17 243),en P "__static_attributes__" 245 (.ref 60),en P "__weakref__" 247 (.ref 63),en P "__doc__" 248 .none] 3) ::
 (nat_lit 62,kc "HandError" [.type "ValueError"] [.ref 62] 61 [.ref 75,.ref 87,.ref 99,.ref 111,.ref 123,.ref 135,.ref 147,.ref 159,.ref 178,.ref 190,.ref 202,.ref 221,.ref 233,.ref 245,.ref 257] 53 233 241) ::
 (nat_lit 75,kc "NoHouse" [.ref 62] [.ref 75,.ref 62] 74 [] 66 251 259) ::
 (nat_lit 87,kc "NoRow" [.ref 62] [.ref 87,.ref 62] 86 [] 78 267 275) ::
 (nat_lit 98,nd #[en P "__module__" 290 (.str "handsapart.errors" 231),en P "__firstlineno__" 294 (.int 23 293),en P "__static_attributes__" 295 (.ref 97),en P "__doc__" 296 .none] 2) ::
 (nat_lit 99,kc "NoMachine" [.ref 62] [.ref 99,.ref 62] 98 [] 90 283 291) ::
 (nat_lit 111,kc "NoRoom" [.ref 62] [.ref 111,.ref 62] 110 [] 102 299 307) ::
 (nat_lit 123,kc "NoHand" [.ref 62] [.ref 123,.ref 62] 122 [] 114 315 323) ::
 (nat_lit 135,kc "Unlike" [.ref 62] [.ref 135,.ref 62] 134 [] 126 331 339) ::
 (nat_lit 147,kc "NoPast" [.ref 62] [.ref 147,.ref 62] 146 [] 138 347 355) ::
 (nat_lit 159,kc "TooMany" [.ref 62] [.ref 159,.ref 62] 158 [] 150 363 371) ::
 (nat_lit 178,kc "Torn" [.ref 62] [.ref 178,.ref 62] 177 [] 162 379 387) ::
 (nat_lit 190,kc "NoTable" [.ref 62] [.ref 190,.ref 62] 189 [] 181 406 414) ::
 (nat_lit 202,kc "NoSet" [.ref 62] [.ref 202,.ref 62] 201 [] 193 422 430) ::
 (nat_lit 221,kc "Falls" [.ref 62] [.ref 221,.ref 62] 220 [] 205 438 446) ::
 (nat_lit 233,kc "Whole" [.ref 62] [.ref 233,.ref 62] 232 [] 224 463 471) ::
 (nat_lit 245,kc "NoText" [.ref 62] [.ref 245,.ref 62] 244 [] 236 479 487) ::
 (nat_lit 257,kc "NoWord" [.ref 62] [.ref 257,.ref 62] 256 [] 248 495 503) ::
 (nat_lit 265,co "is_house" 519 58 1 260 (.ref 262) (.ref 263) 264 523 524) ::
 (nat_lit 266,fo "is_house" 28 "handsapart.houses" 511 265) ::
 (nat_lit 272,co "is_count_of_hands" 526 62 1 267 (.ref 269) (.ref 270) 271 530 531) ::
 (nat_lit 273,fo "is_count_of_hands" 29 "handsapart.houses" 511 272) ::
 (nat_lit 277,co "are_entries" 533 64 2 274 .none .none 276 536 537) ::
 (nat_lit 278,fo "are_entries" 30 "handsapart.houses" 511 277) ::
 (nat_lit 284,co "is_entry" 539 70 2 279 (.ref 281) (.ref 282) 283 544 545) ::
 (nat_lit 285,fo "is_entry" 31 "handsapart.houses" 511 284) ::
 (nat_lit 291,co "is_small_letter" 547 74 1 286 (.ref 288) (.ref 289) 290 551 552) ::
 (nat_lit 292,fo "is_small_letter" 32 "handsapart.houses" 511 291) ::
 (nat_lit 298,co "need_house" 554 76 1 293 (.ref 295) (.ref 296) 297 558 559) ::
 (nat_lit 299,fo "need_house" 33 "handsapart.houses" 511 298) ::
 (nat_lit 327,co "is_machine" 591 94 2 322 (.ref 324) (.ref 325) 326 596 597) ::
 (nat_lit 328,fo "is_machine" 40 "handsapart.machines" 587 327) ::
 (nat_lit 332,co "are_moves" 599 99 2 329 .none .none 331 602 603) ::
 (nat_lit 333,fo "are_moves" 41 "handsapart.machines" 587 332) ::
 (nat_lit 339,co "are_moves_of_room" 605 103 3 334 (.ref 336) (.ref 337) 338 611 612) ::
 (nat_lit 340,fo "are_moves_of_room" 42 "handsapart.machines" 587 339) ::
 (nat_lit 346,co "need_machine" 614 105 2 341 (.ref 343) (.ref 344) 345 619 620) ::
 (nat_lit 347,fo "need_machine" 43 "handsapart.machines" 587 346) ::
 (nat_lit 360,co "led" 630 111 4 355 (.ref 357) (.ref 358) 359 637 638) ::
 (nat_lit 361,fo "led" 45 "handsapart.machines" 587 360) ::
 (nat_lit 374,co "lets" 652 121 3 369 (.ref 371) (.ref 372) 373 658 659) ::
 (nat_lit 375,fo "lets" 47 "handsapart.machines" 587 374) ::
 (nat_lit 381,co "least" 661 125 2 376 (.ref 378) (.ref 379) 380 666 667) ::
 (nat_lit 382,fo "least" 48 "handsapart.machines" 587 381) ::
 (nat_lit 410,co "told_apart" 699 164 4 405 (.ref 407) (.ref 408) 409 706 707) ::
 (nat_lit 411,fo "told_apart" 53 "handsapart.machines" 587 410) ::
 (nat_lit 424,co "judged" 728 185 2 419 (.ref 421) (.ref 422) 423 735 736) ::
 (nat_lit 425,fo "judged" 56 "handsapart.judging" 726 424) ::
 (nat_lit 452,co "_law_cell" 783 220 2 447 (.ref 449) (.ref 450) 451 788 789) ::
 (nat_lit 453,fo "_law_cell" 61 "law_handsapart_k03_machines_known" 781 452) ::
 (nat_lit 459,co "_law_bag" 791 224 1 454 (.ref 456) (.ref 457) 458 795 796) ::
 (nat_lit 460,fo "_law_bag" 62 "law_handsapart_k03_machines_known" 781 459) ::
 (nat_lit 466,co "_law_take" 798 228 2 461 (.ref 463) (.ref 464) 465 804 805) ::
 (nat_lit 467,fo "_law_take" 63 "law_handsapart_k03_machines_known" 781 466) ::
 (nat_lit 471,co "_law_house" 807 236 1 468 .none .none 470 810 811) ::
 (nat_lit 472,fo "_law_house" 64 "law_handsapart_k03_machines_known" 781 471) ::
 (nat_lit 476,co "_law_machine" 813 250 3 473 .none .none 475 816 817) ::
 (nat_lit 477,fo "_law_machine" 65 "law_handsapart_k03_machines_known" 781 476) ::
 (nat_lit 481,co "_law_word" 819 260 1 478 .none .none 480 822 823) ::
 (nat_lit 482,fo "_law_word" 66 "law_handsapart_k03_machines_known" 781 481) ::
 (nat_lit 486,co "_law_machine_copy" 825 271 1 483 .none .none 485 828 829) ::
 (nat_lit 487,fo "_law_machine_copy" 67 "law_handsapart_k03_machines_known" 781 486) ::
 (nat_lit 493,co "_law_answer" 831 273 1 488 (.ref 490) (.ref 491) 492 836 837) ::
 (nat_lit 494,fo "_law_answer" 68 "law_handsapart_k03_machines_known" 781 493) ::
 (nat_lit 500,co "_law_refuses" 839 278 2 495 (.ref 497) (.ref 498) 499 844 845) ::
 (nat_lit 501,fo "_law_refuses" 69 "law_handsapart_k03_machines_known" 781 500) ::
 (nat_lit 505,co "_law_no_machine" 847 280 2 502 .none .none 504 850 851) ::
 (nat_lit 506,fo "_law_no_machine" 70 "law_handsapart_k03_machines_known" 781 505) ::
 (nat_lit 512,co "_law_asked" 853 301 3 507 (.ref 509) (.ref 510) 511 859 860) ::
 (nat_lit 513,fo "_law_asked" 71 "law_handsapart_k03_machines_known" 781 512) ::
 (nat_lit 519,co "law" 862 311 1 514 (.ref 516) (.ref 517) 518 873 874) ::
 (nat_lit 520,fo "law" 72 "law_handsapart_k03_machines_known" 781 519) :: []
theorem ND (P:Params):PySem.W.tabIn (Kf P) Bp = some (nat_lit 519,nat_lit 515):=by kernel_rfl
theorem Rm (P:Params):PySem.W.codeHdIn (Kf P) (nat_lit 519) (nat_lit 515) = true:=by kernel_rfl
theorem Rr (P:Params):(Kf P).lookup (nat_lit 515) = none:=by kernel_rfl
theorem Hb (P:Params):xok (Kf P) (nat_lit 99) (nat_lit 62) "NoMachine" = true:=by kernel_rfl
end Gk03
def PySem.W.Fast.tw6832297114488771537:Nat:=0
def PySem.W.Fast.tw3735110088853609534:Nat:=0
def PySem.W.Fast.tw17117394346406474790:Nat:=0
def PySem.W.Fast.tw16676253238693395202:Nat:=0
def PySem.W.Fast.tw11466462901967659713:Nat:=0
def PySem.W.Fast.tw13808236004039416457:Nat:=0
def PySem.W.Fast.tw12621993641766757480:Nat:=0
def PySem.W.Fast.tw426638868724803470:Nat:=0
def PySem.W.Fast.tw4103450100012451116:Nat:=0
def PySem.W.Fast.tw15878410400189148218:Nat:=0
def PySem.W.Fast.tw15730230689294827678:Nat:=0
def PySem.W.Fast.tw13864085098323995490:Nat:=0
def PySem.W.Fast.tw4514418707498419183:Nat:=0
def PySem.W.Fast.tw5665115514406496627:Nat:=0
def PySem.W.Fast.tw13956355325932340092:Nat:=0
def PySem.W.Fast.tw13195105658349967043:Nat:=0
def PySem.W.Fast.tw17576756135937314404:Nat:=0
def PySem.W.Fast.tw3470717979320230135:Nat:=0
def PySem.W.Fast.tw12350275723240182427:Nat:=0
def PySem.W.Fast.tw13719400473965738033:Nat:=0
def PySem.W.Fast.tw17706091441258127743:Nat:=0
def PySem.W.Fast.tw15042526160512277099:Nat:=0
open PySem PySem.W PyProof.Rows
set_option maxRecDepth 100000 in
set_option maxHeartbeats 0 in
theorem PySem.Challenge.cw_handsapart_k03_machines_known_holds : PySem.Challenge.rw_handsapart_k03_machines_known.Holds := by
 w_on; o_law; o_head (PySem.W.kHook Gk03.Kf (nat_lit 3 :: nat_lit 20 :: nat_lit 21 :: nat_lit 27 :: nat_lit 28 :: nat_lit 34 :: nat_lit 35 :: nat_lit 41 :: nat_lit 42 :: nat_lit 46 :: nat_lit 47 :: nat_lit 51 :: nat_lit 52 :: nat_lit 61 :: nat_lit 62 :: nat_lit 75 :: nat_lit 87 :: nat_lit 98 :: nat_lit 99 :: nat_lit 111 :: nat_lit 123 :: nat_lit 135 :: nat_lit 147 :: nat_lit 159 :: nat_lit 178 :: nat_lit 190 :: nat_lit 202 :: nat_lit 221 :: nat_lit 233 :: nat_lit 245 :: nat_lit 257 :: nat_lit 265 :: nat_lit 266 :: nat_lit 272 :: nat_lit 273 :: nat_lit 277 :: nat_lit 278 :: nat_lit 284 :: nat_lit 285 :: nat_lit 291 :: nat_lit 292 :: nat_lit 298 :: nat_lit 299 :: nat_lit 327 :: nat_lit 328 :: nat_lit 332 :: nat_lit 333 :: nat_lit 339 :: nat_lit 340 :: nat_lit 346 :: nat_lit 347 :: nat_lit 360 :: nat_lit 361 :: nat_lit 374 :: nat_lit 375 :: nat_lit 381 :: nat_lit 382 :: nat_lit 410 :: nat_lit 411 :: nat_lit 424 :: nat_lit 425 :: nat_lit 452 :: nat_lit 453 :: nat_lit 459 :: nat_lit 460 :: nat_lit 466 :: nat_lit 467 :: nat_lit 471 :: nat_lit 472 :: nat_lit 476 :: nat_lit 477 :: nat_lit 481 :: nat_lit 482 :: nat_lit 486 :: nat_lit 487 :: nat_lit 493 :: nat_lit 494 :: nat_lit 500 :: nat_lit 501 :: nat_lit 505 :: nat_lit 506 :: nat_lit 512 :: nat_lit 513 :: nat_lit 519 :: nat_lit 520 :: []) (fun _=>by kernel_rfl)); (case hw=>w_witness2)
 k_fill
 refine Gk03.walk (l:=PySem.Challenge.rw_handsapart_k03_machines_known) rfl rfl (fun w h Y=>PySem.W.kIn_of Y) ?F (fun w c b e=>by
  rw [Gk03.ND w.params] at e
  cases e
  exact ⟨Option.isSome_iff_exists.mp (by kernel_rfl),Gk03.Rr w.params⟩)
 case F =>
  intro w mg fa h KX G hmg
  refine' Gk03.all_mk KX G hmg ?_ ?_ ?_ ?_ ?_ ?_ ?_ ?_ ?_ ?_ ?_ ?_ ?_ ?_ ?_ ?_ ?_ ?_ ?_ ?_ ?_ ?_ ?_ ?_ ?_ ?_ ?_ ?_ ?_ ?_ ?_ ?_ ?_ ?_ ?_ ?_ ?_ ?_ ?_ ?_ ?_ ?_ ?_ ?_ ?_ ?_ ?_ ?_ ?_ ?_ ?_ ?_ ?_ ?_ ?_ (Gk03.ND w.params) (Gk03.Rm w.params) (Gk03.Hb w.params)
  all_goals first | k_is | (refine' Gk03.Ri ?a ?l ?c ?k; (case a=>k_is); (case l=>k_is); (case c=>k_is); (case k=>k_is)) | skip
end
