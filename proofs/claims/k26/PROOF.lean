import PyProof.Rows.All
import Wide.All
import OpenK.AllK
import Wide.FinOn
import KE.KLam
import KE.KNestM
import Lean
import PyProof.EqAt
import PyProof.EqKinds
import PyProof.TupleCall
import PyProof.StationsW
import PyProof.Rows.Catch
import PyProof.NeKinds
import PyProof.Rows.SortShell
import PyProof.Rows.SortWalk
import PyProof.StrBlockI
import PyProof.Rows.Range3
import KE.KDictOf
import PyProof.AttrMissHeap
import PyProof.ConsumeWalk
import KE.KStateDown
import PyProof.EnumMake
import PyProof.Draws
import PyProof.IsRules
import PyProof.Rows.EnumRows
import PyProof.SetScanFacts
import PyProof.SetKind
import PyProof.DictKinds
import PyProof.CollectWalk
import PyProof.FactsAll.set
import PyProof.MakeMany
import PyProof.Rows.SetFrom
import PyProof.ZipIter
import PyProof.StrWalks
import PyProof.Rows.SortStr
import PyProof.Conv_int_bool
import KE.KRevSl
import KE.KMinKey
import PyProof.Rows.StrRules
import KE.KxWritten
import PyProof.ListRange
import PyProof.Rows.CatchOwn
import PyProof.ExcClass
import KE.KDictList
import PyProof.WalkInts
import PyProof.ExcArgsOwn
import PyProof.IsiH_list
import KE.KIsNot
import KE.KIsAll
import PyProof.ExcAttrAll.ValueError
import PyProof.TupleOfSeq
import KE.KStrOpen
import PySem.Challenge.RW_handsapart_k26_pasts_refused
open PySem.W (Frag)
open Option (bind_eq_some_iff map_eq_some_iff)
set_option Elab.async false
set_option linter.all false
set_option maxRecDepth 100000
set_option maxHeartbeats 4000000
theorem dK {p:Prop} (h:p:=by decide +kernel):p:=h
section
namespace L2
open PySem PySem.Spec PyProof.Rows
noncomputable abbrev Key:=Sum Int Str
noncomputable def Jt:Key→Value→Bool
 | .inl k,v=>Value.isInt k v
 | .inr x,v=>Value.isStrOf x v
noncomputable def WJ (w:World):Key→Int
 | .inl k=>hashInt k
 | .inr x=>hashStr w x
theorem BD:∀ {k:Key} {v:Value},Jt k v = true→(∃ i t,k = Sum.inl i∧v = Value.int i t)∨(∃ x t,k = Sum.inr x∧v = Value.str x t)
 | .inl i,v,h=>by
  obtain ⟨t,e⟩:=Value.isInt_shape (k:=i) (v:=v) h
  exact .inl ⟨i,t,rfl,e⟩
 | .inr x,v,h=>by
  obtain ⟨t,e⟩:=Value.isStrOf_shape (x:=x) (v:=v) h
  exact .inr ⟨x,t,rfl,e⟩
theorem OO (i:Int) (t:Tok):Jt (.inl i) (.int i t) = true:=by simp [Jt,Value.isInt]
theorem OP (x:Str) (t:Tok):Jt (.inr x) (.str x t) = true:=by simp [Jt,Value.isStrOf]
theorem Uj (a b:Int):decide ((Sum.inl a:Key) = Sum.inl b) = (a == b):=by
 by_cases e:a = b
 ·subst e; simp
 ·have h:¬ (Sum.inl a:Key) = Sum.inl b:=fun q=>e (Sum.inl.inj q)
  rw [decide_eq_false h]
  exact (beq_eq_false_iff_ne.mpr e).symm
theorem Um (a b:Str):decide ((Sum.inr a:Key) = Sum.inr b) = decide (a = b):=by
 by_cases e:a = b
 ·subst e; simp
 ·have h:¬ (Sum.inr a:Key) = Sum.inr b:=fun q=>e (Sum.inr.inj q)
  rw [decide_eq_false h,decide_eq_false e]
theorem Uk (a:Int) (b:Str):decide ((Sum.inl a:Key) = Sum.inr b) = false:=decide_eq_false (fun q=>nomatch q)
theorem Ul (a:Str) (b:Int):decide ((Sum.inr a:Key) = Sum.inl b) = false:=decide_eq_false (fun q=>nomatch q)
noncomputable def D5 (prog:Program) (w:World):PySem.KeyKind prog w Key where
 is:=Jt
 hash:=WJ w
 inj:=fun v a b ha hb=>by
  rcases BD ha with ⟨i,t,rfl,rfl⟩ | ⟨x,t,rfl,rfl⟩
  ·rcases BD hb with ⟨j,u,rfl,e⟩ | ⟨y,u,rfl,e⟩
   ·injection e with e1 _; rw [e1]
   ·exact nomatch e
  ·rcases BD hb with ⟨j,u,rfl,e⟩ | ⟨y,u,rfl,e⟩
   ·exact nomatch e
   ·injection e with e1 _; rw [e1]
 byValue:=fun k v h=>by
  rcases BD h with ⟨i,t,rfl,rfl⟩ | ⟨x,t,rfl,rfl⟩ <;> rfl
 pyHash:=fun hv h=>by
  rcases BD hv with ⟨i,t,rfl,rfl⟩ | ⟨x,t,rfl,rfl⟩
  ·exact wpAny_pyHash_int h
  ·exact wpAny_pyHash_str h
 eqBool:=fun hu hv h=>by
  rcases BD hu with ⟨i,t,rfl,rfl⟩ | ⟨x,t,rfl,rfl⟩
  ·rcases BD hv with ⟨j,u,rfl,rfl⟩ | ⟨y,u,rfl,rfl⟩
   ·rw [Uj] at h; exact wpAny_eqBool_int h
   ·rw [Uk] at h; exact SeqAt.EqAt.int_str i t y u _ _ _ _ h
  ·rcases BD hv with ⟨j,u,rfl,rfl⟩ | ⟨y,u,rfl,rfl⟩
   ·rw [Ul] at h; exact SeqAt.EqAt.str_int x t j u _ _ _ _ h
   ·rw [Um] at h; exact wpAny_eqBool_str h
 «strs»:=fun k x t v h=>by
  rcases BD h with ⟨i,u,rfl,e⟩ | ⟨y,u,rfl,e⟩
  ·exact nomatch e
  ·injection e with e1 _
   subst e1
   cases v <;> rfl
theorem LC (prog:Program) (w:World) (i:Int) (t:Tok):(D5 prog w).is (.inl i) (.int i t) = true:=OO i t
theorem LD (prog:Program) (w:World) (x:Str) (t:Tok):(D5 prog w).is (.inr x) (.str x t) = true:=OP x t
end L2
namespace L2
open PySem PySem.Spec PyProof.Rows
inductive V where
 | non | bl (b:Bool) | int (i:Int) | str (x:Str) | byt (b:Array UInt8) | flt (b:UInt64) | ref (a:Addr) | ty (n:String)
 deriving DecidableEq
noncomputable def RelV:V→Value→Prop
 | .non,u=>u = Value.none
 | .bl b,u=>u = Value.bool b
 | .int i,u=>∃ t,u = Value.int i t
 | .str x,u=>∃ t,u = Value.str x t
 | .byt b,u=>∃ t,u = Value.bytes b t
 | .flt b,u=>∃ t,u = Value.float b t
 | .ref a,u=>u = Value.ref a
 | .ty n,u=>u = Value.type n
noncomputable abbrev Vals:List V→List Value→Prop:=Paired RelV
theorem Vals.length {xs:List V} {us:List Value} (r:Vals xs us):xs.length = us.length:=Paired.length r
theorem Vals.get:∀ {xs:List V} {us:List Value} {i:Nat} {x:V},Vals xs us→xs[i]? = some x→∃ u,us[i]? = some u∧RelV x u
 | _,_,_,_,.nil,e=>by simp at e
 | _,_,0,_,.cons r _,e=>by simp at e; subst e; exact ⟨_,rfl,r⟩
 | _,_,i + 1,x,.cons _ t,e=>by
  obtain ⟨u,h1,h2⟩:=Vals.get (i:=i) (x:=x) t (by simpa using e)
  exact ⟨u,by simpa using h1,h2⟩
theorem Vals.set {x:V} {u:Value} (r:RelV x u):∀ {xs:List V} {us:List Value} (i:Nat),Vals xs us→Vals (xs.set i x) (us.set i u)
 | _,_,_,.nil=>.nil
 | _,_,0,.cons _ t=>.cons r t
 | _,_,i + 1,.cons q t=>.cons q (Vals.set r i t)
theorem Vals.append {xs ys:List V} {us ws:List Value} (h:Vals xs us) (s:Vals ys ws):Vals (xs ++ ys) (us ++ ws):=by
 induction h with
 | nil=>exact s
 | cons r t ih=>exact .cons r ih
noncomputable def JC:Option V→Option Value→Prop
 | some v,some u=>RelV v u
 | none,none=>True
 | _,_=>False
noncomputable def KV {κ:Type}:List (κ × V)→List (κ × Value)→Prop:=Paired fun (p : κ × V) (q : κ × Value)=>p.1 = q.1∧RelV p.2 q.2
noncomputable def kV:Key→V
 | .inl i=>.int i
 | .inr x=>.str x
inductive D where
 | non | bl (b:Bool) | int (i:Int) | str (x:Str) | lst (ds:List D) | tup (ds:List D)
mutual
noncomputable def eqS:D→D→Bool
 | .non,.non=>true
 | .bl a,.bl b=>a == b
 | .int a,.int b=>a == b
 | .str a,.str b=>a == b
 | .lst xs,.lst ys=>MF xs ys
 | .tup xs,.tup ys=>MF xs ys
 | _,_=>false
noncomputable def MF:List D→List D→Bool
 | [],[]=>true
 | x :: xs,y :: ys=>eqS x y && MF xs ys
 | _,_=>false
end
mutual
theorem Ll:∀ d,eqS d d = true
 | .non=>rfl
 | .bl a=>by show (a == a) = true; exact beq_self_eq_true a
 | .int a=>by show (a == a) = true; exact beq_self_eq_true a
 | .str a=>by show (a == a) = true; exact beq_self_eq_true a
 | .lst xs=>GO xs
 | .tup xs=>GO xs
theorem GO:∀ ds,MF ds ds = true
 | []=>rfl
 | d :: ds=>by show (eqS d d && MF ds ds) = true; rw [Ll d,GO ds]; rfl
end
mutual
theorem PJ:∀ (d e:D),eqS d e = true→d = e
 | .non,e,h=>by cases e <;> first | rfl | exact nomatch h
 | .bl a,e,h=>by
  cases e with
  | bl b=>rw [eq_of_beq (show (a == b) = true from h)]
  | _=>exact nomatch h
 | .int a,e,h=>by
  cases e with
  | int b=>rw [eq_of_beq (show (a == b) = true from h)]
  | _=>exact nomatch h
 | .str a,e,h=>by
  cases e with
  | str b=>rw [eq_of_beq (show (a == b) = true from h)]
  | _=>exact nomatch h
 | .lst xs,e,h=>by
  cases e with
  | lst ys=>rw [JP xs ys h]
  | _=>exact nomatch h
 | .tup xs,e,h=>by
  cases e with
  | tup ys=>rw [JP xs ys h]
  | _=>exact nomatch h
theorem JP:∀ (xs ys:List D),MF xs ys = true→xs = ys
 | [],ys,h=>by cases ys with | nil=>rfl | cons _ _=>exact nomatch h
 | x :: xs,ys,h=>by
  cases ys with
  | nil=>exact nomatch h
  | cons y ys =>
   have h':(eqS x y && MF xs ys) = true:=h
   rw [Bool.and_eq_true] at h'
   rw [PJ x y h'.1,JP xs ys h'.2]
end
noncomputable instance:DecidableEq D:=fun a b=>decidable_of_iff (eqS a b = true) ⟨PJ a b,fun e=>e ▸ Ll a⟩
mutual
noncomputable def Dv (w:World):D→Int
 | .int i=>hashInt i
 | .str x=>hashStr w x
 | .tup ds=>reduceHash (Builtin.Tuple.tupleHashOf (GR w ds))
 | .non=>0xFCA86420
 | .bl _=>0
 | .lst _=>0
noncomputable def GR (w:World):List D→List Int
 | []=>[]
 | d :: ds=>Dv w d :: GR w ds
end
inductive HO where
 /-- a list -/
 | lst (xs:List V)
 /-- a tuple (never changes) -/
 | tup (xs:List V)
 /-- a dict whose keys are ints and texts; one whose keys are tuples of ints and texts (the empty one is both) -/
 | dK (kvs:List (Key × V)) | dT (kvs:List (D × V))
 /-- a set of ints: its members,its size -/
 | set (S:Int→Bool) (n:Nat)
 /-- an instance of the class at C,its dict at dx,its attributes -/
 | ins (C dx:Addr) (fs:List (Str × V))
 /-- the dict of the instance at x -/
 | own (x:Addr)
 /-- the dict of an exception -/
 | xd (fs:List (Str × V))
 /-- a bound method,f of x -/
 | met (f x:Addr)
 /-- a range object lo,lo + 1,.. below hi -/
 | rng (lo hi:Int)
 /-- a thing that is known to the object (the script; a dict while a loop walks it): read,never written while it is so -/
 | frz (o:Obj) (u:HO)
 /-- a code object's table -/
 | tbl (ps:Array Value)
 /-- any other thing,by what is true of its one object (a def of one's own: SetO a S n:=HO.ext fun h=>..) -/
 | ext (φ : Heap→Prop)
noncomputable abbrev Hp:=Addr→Option HO
noncomputable def upd (H:Hp) (a:Addr) (o:HO):Hp:=fun b=>if b = a then some o else H b
theorem AQ {H:Hp} {a:Addr} {o:HO}:upd H a o a = some o:=by unfold upd; rw [if_pos rfl]
theorem Ax {H:Hp} {a b:Addr} {o:HO} (h:b≠a):upd H a o b = H b:=by unfold upd; rw [if_neg h]
theorem C2 {H:Hp} {a b:Addr} {o:HO} (h:H a = some o) (h':H b = none):a≠b:=by
 intro e; subst e; rw [h] at h'; cases h'
inductive Sh:Nat→D→Prop where
 | non {n:Nat}:Sh n .non
 | bl {n:Nat} (b:Bool):Sh n (.bl b)
 | int {n:Nat} (i:Int):Sh n (.int i)
 | str {n:Nat} (x:Str):Sh n (.str x)
 | lst {n:Nat} {ds:List D} (h:∀ d∈ds,Sh n d):Sh (n + 1) (.lst ds)
 | tup {n:Nat} {ds:List D} (h:∀ d∈ds,Sh n d):Sh (n + 1) (.tup ds)
inductive KR (H:Hp):V→D→Prop where
 | non:KR H .non .non
 | int (i:Int):KR H (.int i) (.int i)
 | str (x:Str) (hx:x.length≤sizeLine):KR H (.str x) (.str x)
 | tup {a:Addr} {vs:List V} {ds:List D} (h:H a = some (.tup vs)) (hz:vs.length≤sizeLine) (hl:vs.length = ds.length) (hr:∀ (i:Nat) v d,vs[i]? = some v→ds[i]? = some d→KR H v d):KR H (.ref a) (.tup ds)
theorem KR.mono {H H':Hp} (t:∀ b xs,H b = some (.tup xs)→H' b = some (.tup xs)) {v:V} {d:D} (r:KR H v d):KR H' v d:=by
 induction r with
 | non=>exact .non
 | int i=>exact .int i
 | str x hx=>exact .str x hx
 | tup h hz hl _ ih=>exact .tup (t _ _ h) hz hl ih
noncomputable def IM (w:World) (x:D × Value × Value):DictEntry:=⟨Dv w x.1,x.2.1,x.2.2⟩
noncomputable abbrev Bi:Str := "law"
noncomputable abbrev HB:Str := "law.<locals>.<lambda>"
noncomputable def VO (H:Hp) (h:Heap) (a:Addr) (ps:Array Value):Prop:=∃ qs:Array Value,h.get? a = some { cls:=.none,data:=.fields qs }∧TriplesOk qs.toList ∧
 ∀ pos c,codeAmong pos qs.toList = some c→∃ c' oc vs t q,c = .ref c'∧H c' = some (.own a)∧h.get? c' = some oc∧oc.data = .fields vs∧vs[1]? = some (.str q t)∧ps[0]? = some (.str q 0)
noncomputable def OB (K:Frag) (H:Hp):Prop:=∀ c P,PySem.W.tabIn K Bi = some (c,P)→∃ ps,H P = some (.tbl ps)∧ps[0]? = some (.str HB 0)
section
variable (P:Program) (w:World)
noncomputable def BH (H:Hp) (h:Heap) (a:Addr):HO→Prop
 | .lst xs=>xs.length≤sizeLine∧∃ (its:List Value) (n:Nat),Vals xs its∧h.get? a = some { cls:=.type "list",data:=.seq its.toArray n }
 | .tup xs=>xs.length≤sizeLine∧∃ its:List Value,Vals xs its∧IsTup h a its.toArray
 | .dK kvs=>kvs.length≤sizeLine∧(a == sysModules) = false∧∃ vs,KV kvs vs∧h.DictOf (D5 P w) a vs
 | .dT kvs=>kvs.length≤sizeLine∧(a == sysModules) = false∧∃ xs:List (D × Value × Value),
   Paired (fun (p:D × V) (q:D × Value × Value)=>p.1 = q.1∧(Sh 8 p.1∧∃ y,KR H y p.1∧RelV y q.2.1)∧RelV p.2 q.2.2) kvs xs ∧
   ∃ o es ep,h.get? a = some o∧o.ExactDict∧o.data = .dict es ep∧es.toList = xs.map (IM w)∧(xs.map (·.1)).Nodup
 | .set S n=>h.SetOf (intKind P w) a S n
 | .ins C dx fs=>H dx = some (.own a)∧fs.length≤1000∧dx≠a∧h.get? a = some (PySem.W.instObj C dx) ∧
   ∃ mA,h.Ns1 dx mA∧(∀ f,JC (fs.lookup f) (mA f))∧PySem.Within mA (fs.map (·.1))
 | .own _=>∃ o,h.get? a = some o
 | .xd fs=>∃ mA,h.Ns1 a mA∧∀ f,JC (fs.lookup f) (mA f)
 | .rng lo hi=>∃ t u v,h.get? a = some { cls:=.type "range",data:=.fields #[.int lo t,.int hi u,.int 1 v] }
 | .frz o u=>h.get? a = some o∧BH H h a u
 | .tbl ps=>VO H h a ps
 | .met f x=>h.get? a = some (PySem.W.methodObj (.ref f) (.ref x))
 | .ext φ=>φ h∧(∃ o,h.get? a = some o)∧∀ h1 h2:Heap,φ h1→(∀ o,h1.get? a = some o→h2.get? a = some o) → φ h2
noncomputable def HOk (H:Hp) (h:Heap):Prop:=∀ a o,H a = some o→BH P w H h a o
end
section
variable {P:Program} {w:World} {H H':Hp} {h h':Heap} {a:Addr} {o:HO}
theorem BH.lt (x:BH P w H h a o):a < h.objs.size:=by
 cases o with
 | lst xs=>obtain ⟨_,_,_,_,e⟩:=x; exact Heap.lt_size e
 | tup xs=>obtain ⟨_,_,_,p⟩:=x; exact p.lt
 | dK kvs=>obtain ⟨_,_,_,_,o,_,_,e,_⟩:=x; exact Heap.lt_size e
 | dT kvs=>obtain ⟨_,_,_,_,o,_,_,e,_⟩:=x; exact Heap.lt_size e
 | set S n=>obtain ⟨o,_,_,_,e,_⟩:=x; exact Heap.lt_size e
 | ins C dx fs=>obtain ⟨_,_,_,e,_⟩:=x; exact Heap.lt_size e
 | own y=>obtain ⟨_,e⟩:=x; exact Heap.lt_size e
 | xd fs=>obtain ⟨_,⟨_,_,_,e,_⟩,_⟩:=x; exact Heap.lt_size e
 | rng lo hi=>obtain ⟨_,_,_,e⟩:=x; exact Heap.lt_size e
 | frz ob u=>obtain ⟨e,_⟩:=x; exact Heap.lt_size e
 | tbl ps=>obtain ⟨_,e,_⟩:=x; exact Heap.lt_size e
 | met f y=>exact Heap.lt_size (show h.get? a = some _ from x)
 | ext φ=>obtain ⟨_,⟨_,e⟩,_⟩:=x; exact Heap.lt_size e
theorem Paired.mapP {α β:Type} {F G:α → β → Prop} {l₁:List α} {l₂:List β} (h:Paired F l₁ l₂) (f:∀ a b,F a b→G a b):Paired G l₁ l₂:=by
 induction h with
 | nil=>exact .nil
 | cons r t ih=>exact .cons (f _ _ r) ih
theorem BH.stay (x:BH P w H h a o) (k:∀ b u,(b = a∨H b = some (.own a))→h.get? b = some u→h'.get? b = some u)
  (ho:∀ b,H b = some (.own a)→H' b = some (.own a)) (ht:∀ b xs,H b = some (.tup xs)→H' b = some (.tup xs)):BH P w H' h' a o:=by
 induction o with
 | lst xs=>obtain ⟨z,its,n,r,e⟩:=x; exact ⟨z,its,n,r,k _ _ (.inl rfl) e⟩
 | tup xs=>obtain ⟨z,its,r,ob,e,c⟩:=x; exact ⟨z,its,r,ob,k _ _ (.inl rfl) e,c⟩
 | dK kvs=>obtain ⟨z,y,vs,r,ob,es,ep,e,c⟩:=x; exact ⟨z,y,vs,r,ob,es,ep,k _ _ (.inl rfl) e,c⟩
 | dT kvs =>
  obtain ⟨z,y,xs,r,ob,es,ep,e,c⟩:=x
  exact ⟨z,y,xs,Paired.mapP r fun p q z=>⟨z.1,⟨z.2.1.1,z.2.1.2.imp fun y yy=>⟨yy.1.mono ht,yy.2⟩⟩,z.2.2⟩,ob,es,ep,k _ _ (.inl rfl) e,c⟩
 | set S n=>obtain ⟨ob,es,ep,t,e,c⟩:=x; exact ⟨ob,es,ep,t,k _ _ (.inl rfl) e,c⟩
 | ins C dx fs =>
  obtain ⟨d,z,ne,e,mA,⟨od,es,ep,e2,c⟩,r⟩:=x
  exact ⟨ho _ d,z,ne,k _ _ (.inl rfl) e,mA,⟨od,es,ep,k _ _ (.inr d) e2,c⟩,r⟩
 | own y=>obtain ⟨ob,e⟩:=x; exact ⟨ob,k _ _ (.inl rfl) e⟩
 | xd fs=>obtain ⟨mA,⟨od,es,ep,e,c⟩,r⟩:=x; exact ⟨mA,⟨od,es,ep,k _ _ (.inl rfl) e,c⟩,r⟩
 | rng lo hi=>obtain ⟨t,u,v,e⟩:=x; exact ⟨t,u,v,k _ _ (.inl rfl) e⟩
 | frz ob u ih=>obtain ⟨e,q⟩:=x; exact ⟨k _ _ (.inl rfl) e,ih q⟩
 | tbl ps =>
  obtain ⟨qs,e,tr,f⟩:=x
  refine ⟨qs,k _ _ (.inl rfl) e,tr,fun pos c hc=>?_⟩
  obtain ⟨c',oc,vs,t,q,e1,e2,e3,e4⟩:=f pos c hc
  exact ⟨c',oc,vs,t,q,e1,ho _ e2,k _ _ (.inr e2) e3,e4⟩
 | met f y =>
  have e:h.get? a = some (PySem.W.methodObj (.ref f) (.ref y)):=x
  show h'.get? a = some (PySem.W.methodObj (.ref f) (.ref y))
  exact k a _ (.inl rfl) e
 | ext φ=>obtain ⟨p,⟨o,e⟩,st⟩:=x; exact ⟨st _ _ p fun o q=>k _ _ (.inl rfl) q,⟨o,k _ _ (.inl rfl) e⟩,st⟩
theorem HOk.lt (x:HOk P w H h) (e:H a = some o):a < h.objs.size:=(x a o e).lt
theorem HOk.fresh (x:HOk P w H h) (e:h.objs.size≤a):H a = none:=by
 cases q:H a with
 | none=>rfl
 | some u=>exact absurd (Nat.lt_of_lt_of_le (x.lt q) e) (Nat.lt_irrefl _)
theorem HOk.kept (x:HOk P w H h) (k:∀ b u,h.get? b = some u→h'.get? b = some u):HOk P w H h':=fun a o e =>
 (x a o e).stay (fun b u _ q=>k b u q) (fun _ q=>q) fun _ _ q=>q
theorem HOk.laid (x:HOk P w H h) (k:∀ b u,h.get? b = some u→h'.get? b = some u) (hp:h.objs.size≤a) (new:BH P w (upd H a o) h' a o):HOk P w (upd H a o) h':=fun b u e=>by
 have hn:=x.fresh hp
 by_cases hb:b = a
 ·subst hb; rw [AQ] at e; cases e; exact new
 ·rw [Ax hb] at e
  exact (x b u e).stay (fun c v _ q=>k c v q) (fun c q=>by rw [Ax (C2 q hn)]; exact q) fun c xs q=>by rw [Ax (C2 q hn)]; exact q
end
noncomputable def Rd (H:Hp) (a:Addr) (u:HO):Prop:=H a = some u∨∃ o,H a = some (.frz o u)
theorem Rd.ok {P:Program} {w:World} {H:Hp} {h:Heap} {a:Addr} {u:HO} (r:Rd H a u) (x:HOk P w H h):BH P w H h a u:=by
 rcases r with r | ⟨o,r⟩
 ·exact x a u r
 ·obtain ⟨_,q⟩:=x a _ r
  exact q
noncomputable def Mut:Option HO→Prop
 | some (.lst _)=>True
 | some (.dK _)=>True
 | some (.dT _)=>True
 | some (.set _ _)=>True
 | some (.ins _ _ _)=>True
 | some (.ext _)=>True
 | _=>False
section
variable {P:Program} {w:World} {H:Hp} {h h':Heap} {x e:Addr} {o':HO}
theorem HOk.write (ok:HOk P w H h) (mu:Mut (H x)) (he:e = x∨H e = some (.own x)) (k:∀ b u,b≠e→h.get? b = some u→h'.get? b = some u) (heo:∃ u,h'.get? e = some u)
  (new:BH P w (upd H x o') h' x o'):HOk P w (upd H x o') h':=fun b u q=>by
 have nown:∀ c y,H c = some (.own y)→c≠x:=fun c y r z=>by subst z; rw [r] at mu; exact mu
 have ntup:∀ c xs,H c = some (.tup xs)→c≠x:=fun c xs r z=>by subst z; rw [r] at mu; exact mu
 by_cases hb:b = x
 ·subst hb; rw [AQ] at q; cases q; exact new
 ·rw [Ax hb] at q
  by_cases hbe:b = e
  ·have q':H b = some (.own x):=by
    rcases he with z | z
    ·exact absurd (hbe.trans z) hb
    ·rw [hbe]; exact z
   rw [q] at q'; cases q'
   obtain ⟨v,hv⟩:=heo
   exact ⟨v,by rw [hbe]; exact hv⟩
  ·refine (ok b u q).stay (fun c v hc r=>k c v ?_ r) (fun c r=>by rw [Ax (nown c b r)]; exact r) fun c xs r=>by rw [Ax (ntup c xs r)]; exact r
   rcases hc with rfl | hc
   ·exact hbe
   ·rintro rfl
    rcases he with z | z
    ·exact nown c b hc z
    ·rw [hc] at z; cases z; exact hb rfl
end
structure Un (fs ex:List Addr) (H H':Hp) (h h':Heap):Prop where
 keep:∀ b o,h.get? b = some o→H b = none→b ∉ fs→b ∉ ex→h'.get? b = some o
 slot:∀ b o,h.get? b = some o→H b = none→b∈fs→b ∉ ex→∃ sl,h'.get? b = some { o with slots:=sl }
 free:∀ b o,h.get? b = some o→H b = none→b ∉ ex→H' b = none
 there:∀ b o,h.get? b = some o→b ∉ ex→∃ o',h'.get? b = some o'
 tups:∀ b xs,H b = some (.tup xs)→H' b = some (.tup xs)
 frzs:∀ b o u,H b = some (.frz o u)→H' b = some (.frz o u)
 tbls:∀ b ps,H b = some (.tbl ps)→∃ more,H' b = some (.tbl (ps ++ more))
section
variable {fs fs' ex ex':List Addr} {H H1 H2:Hp} {h h1 h2 h':Heap} {a x e:Addr} {o:HO}
theorem Un.any (u:Un fs ex H H1 h h1) {b:Addr} {ob:Obj} (q:h.get? b = some ob) (n:H b = none) (hx:b ∉ ex):∃ sl,h1.get? b = some { ob with slots:=sl }:=by
 by_cases hb:b∈fs
 ·exact u.slot b ob q n hb hx
 ·exact ⟨ob.slots,u.keep b ob q n hb hx⟩
theorem Un.kept (k:∀ b u,h.get? b = some u→h'.get? b = some u):Un fs ex H H h h':=
 ⟨fun b ob q _ _ _=>k b ob q,fun b ob q _ _ _=>⟨ob.slots,k b ob q⟩,fun _ _ _ n _=>n,fun b ob q _=>⟨ob,k b ob q⟩,fun _ _ q=>q,fun _ _ _ q=>q,fun _ ps q=>⟨#[],by rw [q]; simp⟩⟩
theorem Un.refl:Un fs ex H H h h:=Un.kept fun _ _ q=>q
theorem Un.laid (k:∀ b u,h.get? b = some u→h'.get? b = some u) (hp:h.objs.size≤a) (hn:H a = none):Un fs ex H (upd H a o) h h' where
 keep:=fun b u q _ _ _=>k b u q
 slot:=fun b u q _ _ _=>⟨u.slots,k b u q⟩
 free:=fun b u q n _=>by rw [Ax (Nat.ne_of_lt (Nat.lt_of_lt_of_le (Heap.lt_size q) hp))]; exact n
 there:=fun b u q _=>⟨u,k b u q⟩
 tups:=fun b xs q=>by rw [Ax (C2 q hn)]; exact q
 frzs:=fun b u xs q=>by rw [Ax (C2 q hn)]; exact q
 tbls:=fun b ps q=>⟨#[],by rw [Ax (C2 q hn),q]; simp⟩
theorem Un.write (mu:Mut (H x)) (he:e = x∨H e = some (.own x)) (k:∀ b u,b≠e→h.get? b = some u→h'.get? b = some u) (heo:∃ u,h'.get? e = some u):Un fs ex H (upd H x o) h h':=by
 have hx:∀ b,H b = none→b≠x:=fun b n z=>by subst z; rw [n] at mu; exact mu
 have hb:∀ b,H b = none→b≠e:=fun b n z=>by
  subst z
  rcases he with r | r
  ·exact hx b n r
  ·rw [n] at r; cases r
 have hm:∀ b u,H b = some u→¬ Mut (some u)→b≠x:=fun b u q nm z=>by subst z; rw [q] at mu; exact nm mu
 refine ⟨fun b u q n _ _=>k b u (hb b n) q,fun b u q n _ _=>⟨u.slots,k b u (hb b n) q⟩,fun b u q n _=>by rw [Ax (hx b n)]; exact n,fun b u q _=>?_,
  fun b xs q=>by rw [Ax (hm b _ q fun z=>z)]; exact q,fun b u xs q=>by rw [Ax (hm b _ q fun z=>z)]; exact q,fun b ps q=>⟨#[],by rw [Ax (hm b _ q fun z=>z),q]; simp⟩⟩
 by_cases hbe:b = e
 ·subst hbe; exact heo
 ·exact ⟨u,k b u hbe q⟩
end
noncomputable def trk (h:Heap) (H:Hp):List Addr:=(List.range h.objs.size).filter fun a=>(H a).isSome
noncomputable def IS (h:Heap) (H:Hp):Heap:=PySem.W.hideAll h (trk h H)
theorem OJ (h:Heap) (H:Hp):(IS h H).objs.size = h.objs.size:=PySem.W.hideAll_size _ _
theorem PZ {h:Heap} {H:Hp} {b:Addr} {o:Obj} (e:h.get? b = some o) (n:H b = none):(IS h H).get? b = some o:=
 PySem.W.hideAll_get _ e fun hm=>by
  have q:(H b).isSome = true:=(List.mem_filter.mp hm).2
  rw [n] at q; simp at q
theorem R0 {h:Heap} {H:Hp} {b:Addr} {o:Obj} (e:(IS h H).get? b = some o):h.get? b = some o∧H b = none:=by
 have e':h.get? b = some o:=PySem.W.of_hideAll (trk h H) e
 refine ⟨e',?_⟩
 cases q:H b with
 | none=>rfl
 | some x =>
  have hm:b∈trk h H:=List.mem_filter.mpr ⟨List.mem_range.mpr (Heap.lt_size e'),by simp [q]⟩
  have z:(IS h H).get? b = none:=PySem.W.hideAll_none (trk h H) hm
  rw [z] at e; cases e
noncomputable def Rw (g h:Heap) (L:Addr):List (Addr × Obj):=(List.range h.objs.size).filterMap fun a=>if a = L∨(g.get? a).isSome = true then none else (h.get? a).map fun o=>(a,o)
noncomputable def rest (g h:Heap) (L d:Addr):List (Addr × Obj):=(Rw g h L).filter fun p=>decide (p.1≠d)
end L2
namespace L2
open PySem PySem.Spec PyProof.Rows
structure Mod (K:Frag) (mg:Str→Option Value) (base:Heap):Prop where
 kin:K.In base
 glob:base.Ns mainGlobals mg
 blt:∃ mb,base.Ns builtinsNs mb∧∀ x:Str,x ≠ "__name__" → mb x = bootBuiltins x
 nolimit:base.NoLimit
 bmain:∃ bm ob,mg "__builtins__" = some (.ref bm)∧bm≠builtinsNs∧base.get? bm = some ob∧ob.cls = .type "module" ∧ ob.dict = some builtinsNs∧ob.data = .plain
structure Cx where
 prog:Program
 w:World
 K:Frag
 mg:Str→Option Value
 base:Heap
 A:Around
 N:List Str
 s₀:Shared
 H₀:Hp
 env:Env
 outer:List Env
 stack:List Env
 ex:List Addr
 fn:Str→Bool
 calm:Bool
 pn:List (Addr × Obj)
 xe:Value→Shared→Prop
noncomputable def frs (l:List Env):List Addr:=l.filterMap (·.frame)
noncomputable abbrev Cx.fs (X:Cx):List Addr:=frs X.outer
noncomputable def Vis (sc:Scope) (x:Str):Prop:=sc.names.lookup x = some .local∨sc.names.lookup x = some .cell∨sc.names.lookup x = some .free
noncomputable def Loc (sc:Scope) (x:Str):Prop:=sc.names.lookup x = some .local∨sc.names.lookup x = some .cell
noncomputable def Look (env:Env) (h:Heap) (m:Str→Option Value) (x:Str) (u:Value):Prop:=
 (env.kindOf x = some .local∧m x = some u)∨((env.kindOf x = some .cell∨env.kindOf x = some .free)∧∃ c,env.cells.lookup x = some c∧h.IsCell c (some u))
structure Cx.Ok (X:Cx):Prop where
 mod:Mod X.K X.mg X.base
 kind:X.env.scope.kind = .function
 glob:X.env.globals = mainGlobals
 blt:X.env.builtins = builtinsNs
 above:X.s₀.heap.objs.size≤X.env.locals
 inj:∀ x y c,X.env.cells.lookup x = some c→X.env.cells.lookup y = some c→x = y
 has:∀ x,(X.env.kindOf x = some .cell∨X.env.kindOf x = some .free)→∃ c,X.env.cells.lookup x = some c
 cab:∀ x c,X.fn x = true→X.env.cells.lookup x = some c→X.s₀.heap.objs.size≤c
 hd:X.calm = true→X.A.handled = none
 frames:X.A.frames = some X.stack
 stk:X.stack = X.outer∨(X.stack = X.env :: X.outer∧X.env.frame = some X.env.locals)
 exf:∀ b∈X.ex,b≠X.env.locals∧∀ x c,X.env.cells.lookup x = some c→c≠b
 bs:∀ b o,X.base.get? b = some o→X.s₀.heap.get? b = some o∧X.H₀ b = none
 bsz:X.base.objs.size≤X.s₀.heap.objs.size
 noex:∀ b o,X.base.get? b = some o→b ∉ X.ex
 exfs:∀ b∈X.ex,b ∉ X.fs
 funs:X.s₀.heap.FunFrames X.base X.outer
 frf:∀ b∈X.fs,X.H₀ b = none
 tb:OB X.K X.H₀
structure Inv (X:Cx) (pins:List (Addr × Obj)) (σ:List (Option V)) (H:Hp) (s:Shared):Prop where
 ok:X.Ok
 os:s.os = X.s₀.os
 bare:AllBare s.gens
 base:Un X.fs X.ex X.H₀ H X.s₀.heap s.heap
 loc:∃ m,s.heap.Ns X.env.locals m∧∀ (i:Nat) (x:Str) (v:V),X.N[i]? = some x → σ[i]? = some (some v)→Vis X.env.scope x→∃ u,RelV v u∧Look X.env s.heap m x u
 cell:∀ x c,X.env.cells.lookup x = some c→∃ v,s.heap.IsCell c v
 free:H X.env.locals = none
 freeC:∀ x c,X.env.cells.lookup x = some c→H c = none
 pin:∀ p∈X.pn ++ pins,s.heap.get? p.1 = some p.2∧H p.1 = none∧p.1≠X.env.locals∧p.1 ∉ X.fs∧∀ v,p.2.data ≠ .cell v
 hok:HOk X.prog X.w H s.heap
 len : σ.length = X.N.length
section
variable {X:Cx} {pins:List (Addr × Obj)} {σ:List (Option V)} {H H':Hp} {s:Shared} {h':Heap}
theorem Cx.Ok.nofr (ok:X.Ok) {b:Addr} {o:Obj} (e:X.base.get? b = some o):b ∉ X.fs:=fun hb=>by
 have:=(ok.funs.mem hb).1
 rw [e] at this; cases this
theorem OB.grow {K:Frag} {H H':Hp} (x:OB K H) (h:∀ b ps,H b = some (.tbl ps)→∃ more,H' b = some (.tbl (ps ++ more))):OB K H':=fun c P e=>by
 obtain ⟨ps,e1,e2⟩:=x c P e
 obtain ⟨more,e3⟩:=h P ps e1
 refine ⟨ps ++ more,e3,?_⟩
 have hl:0 < ps.size:=by
  cases hs:ps[0]? with
  | none=>rw [hs] at e2; cases e2
  | some v=>exact (Array.getElem?_eq_some_iff.mp hs).1
 rw [Array.getElem?_append_left hl]
 exact e2
theorem Inv.tabs (I:Inv X pins σ H s):OB X.K H:=I.ok.tb.grow I.base.tbls
theorem Inv.bs (I:Inv X pins σ H s):∀ b o,X.base.get? b = some o→s.heap.get? b = some o∧H b = none:=fun b o e =>
 ⟨I.base.keep b o (I.ok.bs b o e).1 (I.ok.bs b o e).2 (I.ok.nofr e) (I.ok.noex b o e),I.base.free b o (I.ok.bs b o e).1 (I.ok.bs b o e).2 (I.ok.noex b o e)⟩
theorem Inv.bk (I:Inv X pins σ H s):∀ b o,X.base.get? b = some o→s.heap.get? b = some o:=fun b o e=>(I.bs b o e).1
theorem Inv.mod (I:Inv X pins σ H s):Mod X.K X.mg X.base:=I.ok.mod
theorem Inv.kIn (I:Inv X pins σ H s):X.K.In s.heap:=I.ok.mod.kin.keeps I.bk
theorem Inv.lt (I:Inv X pins σ H s):X.env.locals < s.heap.objs.size:=let ⟨_,hn,_⟩:=I.loc; hn.lt
theorem Inv.sz (I:Inv X pins σ H s):X.s₀.heap.objs.size≤s.heap.objs.size:=Nat.le_trans I.ok.above (Nat.le_of_lt I.lt)
theorem Inv.nofs (I:Inv X pins σ H s) {a:Addr} (h:s.heap.objs.size≤a):a ∉ X.fs:=fun hb=>by
 obtain ⟨_,o,ho,_⟩:=I.ok.funs.mem hb
 exact absurd (Nat.lt_of_lt_of_le (Heap.lt_size ho) (Nat.le_trans I.sz h)) (Nat.lt_irrefl _)
theorem Inv.cne (I:Inv X pins σ H s):∀ x c,X.env.cells.lookup x = some c→c≠X.env.locals:=fun x c e z=>by
 obtain ⟨v,o,ho,hd⟩:=I.cell x c e
 obtain ⟨m,⟨o',es,ep,ho',hd',_⟩,_⟩:=I.loc
 rw [z,ho'] at ho; cases ho; rw [hd'] at hd; cases hd
theorem Inv.funs (I:Inv X pins σ H s):s.heap.FunFrames X.base X.outer:=by
 have all:∀ (l:List Env),(∀ b∈frs l,b∈X.fs)→X.s₀.heap.FunFrames X.base l→s.heap.FunFrames X.base l:=by
  intro l
  induction l with
  | nil=>intro _ _; trivial
  | cons env r ih =>
   intro hs hl
   obtain ⟨hk,⟨L,o,hf,hn,ho,hd⟩,hr⟩:=hl
   have hL:L∈X.fs:=hs L (by unfold frs; rw [List.filterMap_cons,hf]; exact List.mem_cons_self)
   obtain ⟨sl,e⟩:=I.base.slot L o ho (I.ok.frf L hL) hL fun z=>I.ok.exfs L z hL
   exact ⟨hk,⟨L,_,hf,hn,e,hd⟩,ih (fun b hb=>hs b (by unfold frs; rw [List.filterMap_cons,hf]; exact List.mem_cons_of_mem _ hb)) hr⟩
 exact all X.outer (fun _ hb=>hb) I.ok.funs
theorem Inv.stack (I:Inv X pins σ H s):s.heap.FunFrames X.base X.stack:=by
 rcases I.ok.stk with e | ⟨e,hf⟩
 ·rw [e]; exact I.funs
 ·rw [e]
  obtain ⟨m,hn,_⟩:=I.loc
  refine .cons (by rw [I.ok.kind]; decide) hf hn ?_ I.funs
  exact Heap.get?_none_of_le (Nat.le_trans I.ok.bsz I.ok.above)
theorem Inv.stkSub (I:Inv X pins σ H s):∀ b∈frs X.stack,b∈X.env.locals :: X.fs:=fun b hb=>by
 rcases I.ok.stk with e | ⟨e,hf⟩
 ·rw [e] at hb; exact List.mem_cons_of_mem _ hb
 ·rw [e] at hb
  unfold frs at hb
  rw [List.filterMap_cons,hf] at hb
  exact hb
theorem Inv.stkFree (I:Inv X pins σ H s):∀ b∈frs X.stack,H b = none:=fun b hb=>by
 rcases List.mem_cons.mp (I.stkSub b hb) with e | hb
 ·rw [e]; exact I.free
 ·obtain ⟨_,o,ho,_⟩:=I.ok.funs.mem hb
  exact I.base.free b o ho (I.ok.frf b hb) fun z=>I.ok.exfs b z hb
theorem Inv.step {g':Array GenState} {t':Nat} {d':Drawn} {ch:List Addr} (I:Inv X pins σ H s)
  (hch:∀ b∈ch,(b∈X.ex∨X.s₀.heap.objs.size≤b)∧b≠X.env.locals∧(∀ x c,X.env.cells.lookup x = some c→c≠b)∧∀ p∈X.pn ++ pins,p.1≠b)
  (keep:∀ b o,b≠X.env.locals→b ∉ X.fs→b ∉ ch→s.heap.get? b = some o→H b = none→h'.get? b = some o)
  (slot:∀ b o,b≠X.env.locals→b∈X.fs→b ∉ ch→s.heap.get? b = some o→H b = none→∃ sl,h'.get? b = some { o with slots:=sl }) (free:∀ b o,b ∉ ch→s.heap.get? b = some o→H b = none→H' b = none)
  (there:∀ b o,b ∉ ch→s.heap.get? b = some o→∃ o',h'.get? b = some o')
  (tups:∀ b xs,H b = some (.tup xs)→H' b = some (.tup xs)) (frzs:∀ b o u,H b = some (.frz o u)→H' b = some (.frz o u)) (tbls:∀ b ps,H b = some (.tbl ps)→∃ more,H' b = some (.tbl (ps ++ more)))
  (ns:∀ m,s.heap.Ns X.env.locals m→h'.Ns X.env.locals m) (hok:HOk X.prog X.w H' h') (hg:AllBare g') :
  Inv X pins σ H' { s with heap:=h',gens:=g',drawn:=d',toks:=t' }:=by
 have neL:∀ b o,X.s₀.heap.get? b = some o→b≠X.env.locals:=fun b o e=>Nat.ne_of_lt (Nat.lt_of_lt_of_le (Heap.lt_size e) I.ok.above)
 have neC:∀ b o,X.s₀.heap.get? b = some o→b ∉ X.ex→b ∉ ch:=fun b o e hx hb=>by
  rcases (hch b hb).1 with z | z
  ·exact hx z
  ·exact absurd (Nat.lt_of_lt_of_le (Heap.lt_size e) z) (Nat.lt_irrefl _)
 have cellK:∀ x c,X.env.cells.lookup x = some c→∀ v,s.heap.IsCell c v→h'.IsCell c v:=fun x c e v ⟨o,ho,hd⟩=>by
  have nch:c ∉ ch:=fun z=>(hch c z).2.2.1 x c e rfl
  by_cases hc:c∈X.fs
  ·obtain ⟨sl,q⟩:=slot c o (I.cne x c e) hc nch ho (I.freeC x c e)
   exact ⟨_,q,hd⟩
  ·exact ⟨o,keep c o (I.cne x c e) hc nch ho (I.freeC x c e),hd⟩
 refine ⟨I.ok,I.os,hg,⟨fun b o e n hb hx=>?_,fun b o e n hb hx=>?_,fun b o e n hx=>?_,fun b o e hx=>?_,fun b xs e=>tups b xs (I.base.tups b xs e),fun b o xs e=>frzs b o xs (I.base.frzs b o xs e),fun b ps e=>?_⟩,?_,fun x c e=>?_,?_,fun x c e=>?_,fun p hp=>?_,hok,I.len⟩
 ·exact keep b o (neL b o e) hb (neC b o e hx) (I.base.keep b o e n hb hx) (I.base.free b o e n hx)
 ·obtain ⟨sl,e1⟩:=I.base.slot b o e n hb hx
  obtain ⟨sl',e2⟩:=slot b _ (neL b o e) hb (neC b o e hx) e1 (I.base.free b o e n hx)
  exact ⟨sl',e2⟩
 ·obtain ⟨o',e1⟩:=I.base.there b o e hx
  exact free b o' (neC b o e hx) e1 (I.base.free b o e n hx)
 ·obtain ⟨o',e1⟩:=I.base.there b o e hx
  exact there b o' (neC b o e hx) e1
 ·obtain ⟨m1,e1⟩:=I.base.tbls b ps e
  obtain ⟨m2,e2⟩:=tbls b _ e1
  exact ⟨m1 ++ m2,by rw [e2,Array.append_assoc]⟩
 ·obtain ⟨m,hn,hl⟩:=I.loc
  refine ⟨m,ns m hn,fun i x v e1 e2 e3=>?_⟩
  obtain ⟨u,r,l⟩:=hl i x v e1 e2 e3
  refine ⟨u,r,?_⟩
  rcases l with l | ⟨k,c,e,z⟩
  ·exact .inl l
  ·exact .inr ⟨k,c,e,cellK x c e _ z⟩
 ·obtain ⟨v,z⟩:=I.cell x c e
  exact ⟨v,cellK x c e v z⟩
 ·obtain ⟨m,⟨o,_,_,ho,_⟩,_⟩:=I.loc
  exact free _ o (fun z=>(hch _ z).2.1 rfl) ho I.free
 ·obtain ⟨v,o,ho,hd⟩:=I.cell x c e
  exact free c o (fun z=>(hch c z).2.2.1 x c e rfl) ho (I.freeC x c e)
 ·obtain ⟨e,n,ne,nf,d⟩:=I.pin p hp
  have nch:p.1 ∉ ch:=fun z=>(hch p.1 z).2.2.2 p hp rfl
  exact ⟨keep p.1 p.2 ne nf nch e n,free p.1 p.2 nch e n,ne,nf,d⟩
theorem Inv.un {t':Nat} (I:Inv X pins σ H s) (u:Un X.fs [] H H' s.heap h') (hok:HOk X.prog X.w H' h'):Inv X pins σ H' { s with heap:=h',toks:=t' }:=by
 obtain ⟨m,⟨o,es,ep,ho,r⟩,_⟩:=id I.loc
 obtain ⟨sl,hL⟩:=u.any ho I.free (by simp)
 exact I.step (g':=s.gens) (d':=s.drawn) (ch:=[]) (fun _ z=>nomatch z) (fun b o _ hb _ e n=>u.keep b o e n hb (by simp)) (fun b o _ hb _ e n=>u.slot b o e n hb (by simp)) (fun b o _ e n=>u.free b o e n (by simp)) (fun b o _ e=>u.there b o e (by simp)) u.tups u.frzs u.tbls (fun m' hm=>by
  obtain ⟨o',es',ep',ho',r'⟩:=hm
  rw [ho] at ho'; cases ho'
  exact ⟨_,es',ep',hL,r'⟩) hok I.bare
theorem Inv.call {g':Array GenState} {t':Nat} {d':Drawn} {ch:List Addr} (I:Inv X pins σ H s) (u:Un (frs X.stack) ch H H' s.heap h') (hok:HOk X.prog X.w H' h') (hg:AllBare g')
  (hch:∀ b∈ch,(b∈X.ex∨X.s₀.heap.objs.size≤b)∧b≠X.env.locals∧(∀ x c,X.env.cells.lookup x = some c→c≠b)∧∀ p∈X.pn ++ pins,p.1≠b) :
  Inv X pins σ H' { s with heap:=h',gens:=g',drawn:=d',toks:=t' }:=by
 obtain ⟨m,⟨o,es,ep,ho,r⟩,_⟩:=id I.loc
 obtain ⟨sl,hL⟩:=u.any ho I.free fun z=>(hch _ z).2.1 rfl
 exact I.step (ch:=ch) hch (fun b o hL hb hc e n=>u.keep b o e n (fun z=>(List.mem_cons.mp (I.stkSub b z)).elim hL hb) hc) (fun b o _ _ hc e n=>u.any e n hc) (fun b o hc e n=>u.free b o e n hc) (fun b o hc e=>u.there b o e hc) u.tups u.frzs u.tbls (fun m' hm=>by
  obtain ⟨o',es',ep',ho',r'⟩:=hm
  rw [ho] at ho'; cases ho'
  exact ⟨_,es',ep',hL,r'⟩) hok hg
theorem Inv.turned {t':Nat} {it:Addr} (I:Inv X pins σ H s) (k:∀ b o,b≠it→s.heap.get? b = some o→h'.get? b = some o) (hn:H it = none) (hL:it≠X.env.locals)
  (h1:it∈X.ex∨X.s₀.heap.objs.size≤it) (h2:∀ x c,X.env.cells.lookup x = some c→c≠it) (h3:∀ p∈X.pn ++ pins,p.1≠it):Inv X pins σ H { s with heap:=h',toks:=t' }:=by
 have nit:∀ b u,H b = some u→b≠it:=fun b u e z=>by rw [z,hn] at e; cases e
 refine I.step (g':=s.gens) (d':=s.drawn) (ch:=[it]) (fun b hb=>?_) (fun b o _ _ hc e _=>k b o (fun z=>hc (by simp [z])) e) (fun b o _ _ hc e _=>⟨o.slots,k b o (fun z=>hc (by simp [z])) e⟩) (fun _ _ _ _ n=>n)
  (fun b o hc e=>⟨o,k b o (fun z=>hc (by simp [z])) e⟩) (fun _ _ e=>e) (fun _ _ _ e=>e) (fun b ps e=>⟨#[],by rw [e]; simp⟩) (fun m hm=>?_) (fun b u e=>?_) I.bare
 ·have e:b = it:=by simpa using hb
  subst e
  exact ⟨h1,hL,h2,h3⟩
 ·obtain ⟨o,es,ep,ho,r⟩:=hm
  exact ⟨o,es,ep,k _ o (Ne.symm hL) ho,r⟩
 ·refine (I.hok b u e).stay (fun c v hc q=>k c v ?_ q) (fun _ q=>q) fun _ _ q=>q
  rcases hc with z | z
  ·rw [z]; exact nit b u e
  ·exact nit c _ z
theorem Inv.tok (I:Inv X pins σ H s) (t:Nat):Inv X pins σ H { s with toks:=t }:=I.un (h':=s.heap) (t':=t) Un.refl I.hok
theorem Inv.kept {t':Nat} (I:Inv X pins σ H s) (k:∀ b u,s.heap.get? b = some u→h'.get? b = some u):Inv X pins σ H { s with heap:=h',toks:=t' }:=I.un (Un.kept k) (I.hok.kept k)
theorem Inv.laid {a:Addr} {o:HO} {t':Nat} (I:Inv X pins σ H s) (k:∀ b u,s.heap.get? b = some u→h'.get? b = some u) (hp:s.heap.objs.size≤a) (new:BH X.prog X.w (upd H a o) h' a o) :
  Inv X pins σ (upd H a o) { s with heap:=h',toks:=t' }:=I.un (Un.laid k hp (I.hok.fresh hp)) (I.hok.laid k hp new)
theorem Inv.write {x e:Addr} {o:HO} {t':Nat} (I:Inv X pins σ H s) (mu:Mut (H x)) (he:e = x∨H e = some (.own x)) (k:∀ b u,b≠e→s.heap.get? b = some u→h'.get? b = some u) (heo:∃ u,h'.get? e = some u)
  (new:BH X.prog X.w (upd H x o) h' x o):Inv X pins σ (upd H x o) { s with heap:=h',toks:=t' }:=I.un (Un.write mu he k heo) (I.hok.write mu he k heo new)
theorem Inv.pins_of {pins':List (Addr × Obj)} (I:Inv X pins σ H s) (h:∀ p∈pins',s.heap.get? p.1 = some p.2∧H p.1 = none∧p.1≠X.env.locals∧p.1 ∉ X.fs∧∀ v,p.2.data ≠ .cell v):Inv X pins' σ H s:=
 ⟨I.ok,I.os,I.bare,I.base,I.loc,I.cell,I.free,I.freeC,fun p hp=>(List.mem_append.mp hp).elim (fun z=>I.pin p (List.mem_append_left _ z)) (h p),I.hok,I.len⟩
theorem LG {N:List Str} (hN:N.Nodup) {i j:Nat} {x:Str} (a:N[i]? = some x) (b:N[j]? = some x):i = j:=by
 obtain ⟨h1,e1⟩:=List.getElem?_eq_some_iff.mp a
 obtain ⟨h2,e2⟩:=List.getElem?_eq_some_iff.mp b
 exact (List.getElem_inj hN).mp (e1.trans e2.symm)
theorem Pl {M:Model} {A:Around} {E:Value→Shared→Prop} {i:Nat} {x:Str} {v:V} {u:Value} {Q:Unit→Shared→Prop} (I:Inv X pins σ H s) (hN:X.N.Nodup) (hi:X.N[i]? = some x) (hx:Loc X.env.scope x) (r:RelV v u)
  (h:∀ s',Inv X pins (σ.set i (some v)) H s'→(∃ a,Heap.SameBut a s.heap s'.heap∧(a = X.env.locals∨X.env.cells.lookup x = some a))→Q () s') (hf:X.fn x = true∨X.env.scope.names.lookup x = some .local:=by first | exact .inl rfl | exact .inr rfl | assumption):wpAny M A (storeName X.env x u) Q E s:=by
 obtain ⟨m,hn,hl⟩:=id I.loc
 have hcls:(X.env.scope.kind == .class || (X.env.scope.kind == .module && X.env.locals != X.env.globals)) = false:=by rw [I.ok.kind]; rfl
 have hiσ:i < σ.length:=by rw [I.len]; exact (List.getElem?_eq_some_iff.mp hi).1
 have cne:=I.cne
 have tracked:∀ {a:Addr} {h':Heap},(∃ o,s.heap.get? a = some o∧H a = none)→Heap.SameBut a s.heap h'→HOk X.prog X.w H h':=fun {a h'} ha hs b ob e=>by
  obtain ⟨_,_,hfree⟩:=ha
  refine (I.hok b ob e).stay (fun c w' hc q=>(hs.2 c ?_).trans q) (fun _ q=>q) fun _ _ q=>q
  rintro rfl
  rcases hc with rfl | hc
  ·rw [hfree] at e; cases e
  ·rw [hfree] at hc; cases hc
 rcases hx with hk | hk
 ·refine wpAny_storeName_local hk hn (fun h' hn' hs=>?_) hcls
  obtain ⟨oL,_,_,hoL,_⟩:=id hn
  refine h _ ⟨I.ok,I.os,I.bare,⟨fun b o e n hb hx=>?_,fun b o e n hb hx=>?_,I.base.free,fun b o e hx=>?_,I.base.tups,I.base.frzs,I.base.tbls⟩,⟨_,hn',fun j y v' e1 e2 e3=>?_⟩,fun y c e=>?_,I.free,I.freeC,fun p hp=>?_,tracked ⟨oL,hoL,I.free⟩ hs,by simpa using I.len⟩ ⟨_,hs,.inl rfl⟩
  ·exact (hs.2 b (Nat.ne_of_lt (Nat.lt_of_lt_of_le (Heap.lt_size e) I.ok.above))).trans (I.base.keep b o e n hb hx)
  ·obtain ⟨sl,e1⟩:=I.base.slot b o e n hb hx
   exact ⟨sl,(hs.2 b (Nat.ne_of_lt (Nat.lt_of_lt_of_le (Heap.lt_size e) I.ok.above))).trans e1⟩
  ·obtain ⟨o',e1⟩:=I.base.there b o e hx
   exact ⟨o',(hs.2 b (Nat.ne_of_lt (Nat.lt_of_lt_of_le (Heap.lt_size e) I.ok.above))).trans e1⟩
  ·by_cases hj:j = i
   ·subst hj
    rw [hi] at e1; cases e1
    rw [List.getElem?_set_self hiσ] at e2
    cases e2
    exact ⟨u,r,.inl ⟨hk,by simp⟩⟩
   ·rw [List.getElem?_set_ne (Ne.symm hj)] at e2
    obtain ⟨u',r',q⟩:=hl j y v' e1 e2 e3
    refine ⟨u',r',?_⟩
    rcases q with ⟨k,e⟩ | ⟨k,c,e,z⟩
    ·refine .inl ⟨k,?_⟩
     have:y≠x:=fun e=>hj (LG hN e1 (e ▸ hi))
     simp [this,e]
    ·exact .inr ⟨k,c,e,z.sameBut hs (cne y c e)⟩
  ·obtain ⟨w',z⟩:=I.cell y c e
   exact ⟨w',z.sameBut hs (cne y c e)⟩
  ·obtain ⟨e,n,ne,nf,d⟩:=I.pin p hp
   exact ⟨(hs.2 p.1 ne).trans e,n,ne,nf,d⟩
 ·have hfn:X.fn x = true:=by
   rcases hf with z | z
   ·exact z
   ·rw [z] at hk; cases hk
  obtain ⟨c,hc⟩:=I.ok.has x (.inl hk)
  obtain ⟨w',z⟩:=I.cell x c hc
  refine wpAny_storeName_cell I.ok.kind hk hc z (fun h' hc' hs=>?_)
  obtain ⟨oc,hoc,hocd⟩:=id z
  refine h { s with heap:=h' } ⟨I.ok,I.os,I.bare,⟨fun b o e n hb hx=>?_,fun b o e n hb hx=>?_,I.base.free,fun b o e hx=>?_,I.base.tups,I.base.frzs,I.base.tbls⟩,⟨m,hn.sameBut hs (Ne.symm (cne x c hc)),fun j y v' e1 e2 e3=>?_⟩,fun y c' e=>?_,I.free,I.freeC,fun p hp=>?_,tracked ⟨oc,hoc,I.freeC x c hc⟩ hs,by simpa using I.len⟩ ⟨c,hs,.inr hc⟩
  ·exact (hs.2 b (Nat.ne_of_lt (Nat.lt_of_lt_of_le (Heap.lt_size e) (I.ok.cab x c hfn hc)))).trans (I.base.keep b o e n hb hx)
  ·obtain ⟨sl,e1⟩:=I.base.slot b o e n hb hx
   exact ⟨sl,(hs.2 b (Nat.ne_of_lt (Nat.lt_of_lt_of_le (Heap.lt_size e) (I.ok.cab x c hfn hc)))).trans e1⟩
  ·obtain ⟨o',e1⟩:=I.base.there b o e hx
   exact ⟨o',(hs.2 b (Nat.ne_of_lt (Nat.lt_of_lt_of_le (Heap.lt_size e) (I.ok.cab x c hfn hc)))).trans e1⟩
  ·by_cases hj:j = i
   ·subst hj
    rw [hi] at e1; cases e1
    rw [List.getElem?_set_self hiσ] at e2
    cases e2
    exact ⟨u,r,.inr ⟨.inl hk,c,hc,hc'⟩⟩
   ·rw [List.getElem?_set_ne (Ne.symm hj)] at e2
    obtain ⟨u',r',q⟩:=hl j y v' e1 e2 e3
    refine ⟨u',r',?_⟩
    rcases q with q | ⟨k,c',e,z'⟩
    ·exact .inl q
    ·refine .inr ⟨k,c',e,z'.sameBut hs ?_⟩
     rintro rfl
     exact hj (LG hN e1 (I.ok.inj _ _ _ e hc ▸ hi))
  ·by_cases hcc:c' = c
   ·subst hcc; exact ⟨_,hc'⟩
   ·obtain ⟨w2,z2⟩:=I.cell y c' e
    exact ⟨w2,z2.sameBut hs hcc⟩
  ·obtain ⟨e,n,ne,nf,d⟩:=I.pin p hp
   refine ⟨(hs.2 p.1 ?_).trans e,n,ne,nf,d⟩
   intro q
   rw [q,hoc] at e
   have q':oc = p.2:=Option.some.inj e
   exact d w' (by rw [← q']; exact hocd)
theorem EA {M:Model} {A:Around} {E:Value→Shared→Prop} {i:Nat} {x:Str} {v:V} {u:Value} {Q:Unit→Shared→Prop} (I:Inv X pins σ H s) (hN:X.N.Nodup) (hi:X.N[i]? = some x) (hx:Loc X.env.scope x) (r:RelV v u)
  (h:∀ s',Inv X pins (σ.set i (some v)) H s'→Q () s') (hf:X.fn x = true∨X.env.scope.names.lookup x = some .local:=by first | exact .inl rfl | exact .inr rfl | assumption):wpAny M A (storeName X.env x u) Q E s:=
 Pl I hN hi hx r (fun s' I' _=>h s' I') hf
theorem Inv.call' {s':Shared} {ch:List Addr} (I:Inv X pins σ H s) (ho:s'.os = s.os) (u:Un (frs X.stack) ch H H' s.heap s'.heap) (hok:HOk X.prog X.w H' s'.heap) (hg:AllBare s'.gens)
  (hch:∀ b∈ch,(b∈X.ex∨X.s₀.heap.objs.size≤b)∧b≠X.env.locals∧(∀ x c,X.env.cells.lookup x = some c→c≠b)∧∀ p∈X.pn ++ pins,p.1≠b):Inv X pins σ H' s':=by
 obtain ⟨h',g',d',t',o'⟩:=s'
 have e:o' = s.os:=ho
 subst e
 exact I.call (g':=g') (t':=t') (d':=d') u hok hg hch
end
noncomputable abbrev XK:=Value→Option Addr→Hp→Prop
noncomputable abbrev St:=List (Option V)
noncomputable abbrev VK:=V→Hp→Prop
noncomputable abbrev TE:=St→Hp→VK→Prop
noncomputable abbrev TT:=St→Hp→(Bool→Hp→Prop)→Prop
noncomputable abbrev TA:=St→Hp→(List V→Hp→Prop)→Prop
structure Ends where
 nx:St→Hp→Prop
 rt:VK
 bk:St→Hp→Prop:=fun _ _=>False
 ct:St→Hp→Prop:=fun _ _=>False
noncomputable abbrev TS:=Ends→St→Hp→Prop
noncomputable def EP (X:Cx) (pins:List (Addr × Obj)) (σ:St) (Q:VK) (u:Value) (s':Shared):Prop:=∃ v H',Inv X pins σ H' s'∧RelV v u∧Q v H'
noncomputable def TP (X:Cx) (pins:List (Addr × Obj)) (σ:St) (Q:Bool→Hp→Prop) (b:Bool) (s':Shared):Prop:=∃ H',Inv X pins σ H' s'∧Q b H'
noncomputable def AP (X:Cx) (pins:List (Addr × Obj)) (σ:St) (Q:List V→Hp→Prop) (us:List Value) (s':Shared):Prop:=∃ vs H',Inv X pins σ H' s'∧Vals vs us∧Q vs H'
noncomputable def SP (X:Cx) (pins:List (Addr × Obj)) (D:Ends) (f:Flow) (s':Shared):Prop:=
 match f with
 | .next=>∃ σ' H',Inv X pins σ' H' s'∧D.nx σ' H'
 | .brk=>∃ σ' H',Inv X pins σ' H' s'∧D.bk σ' H'
 | .cont=>∃ σ' H',Inv X pins σ' H' s'∧D.ct σ' H'
 | .ret u=>∃ v σ' H',Inv X pins σ' H' s'∧RelV v u∧D.rt v H'
noncomputable def PE (X:Cx) (e:Expr) (t:TE):Prop:=
 ∀ (pins:List (Addr × Obj)) (s:Shared) (σ:St) (H:Hp) (Q:VK),Inv X pins σ H s→t σ H Q→wpAny (model X.prog X.w) X.A (eval e X.env) (EP X pins σ Q) X.xe s
noncomputable def PT (X:Cx) (e:Expr) (t:TT):Prop:=
 ∀ (pins:List (Addr × Obj)) (s:Shared) (σ:St) (H:Hp) (Q:Bool→Hp→Prop),Inv X pins σ H s→t σ H Q→wpAny (model X.prog X.w) X.A (isTrue e X.env (eval e X.env)) (TP X pins σ Q) X.xe s
noncomputable def PW (X:Cx) (e:Expr) (t:TT):Prop:=
 ∀ (whole:Sem Value) (pins:List (Addr × Obj)) (s:Shared) (σ:St) (H:Hp) (Q:Bool→Hp→Prop),Inv X pins σ H s→t σ H Q→wpAny (model X.prog X.w) X.A (isTrue e X.env whole) (TP X pins σ Q) X.xe s
theorem PW.pt {X:Cx} {e:Expr} {t:TT} (h:PW X e t):PT X e t:=h _
noncomputable def PA (X:Cx) (es:List Expr) (t:TA):Prop:=
 ∀ (pos:Pos) (pins:List (Addr × Obj)) (s:Shared) (σ:St) (H:Hp) (Q:List V→Hp→Prop),Inv X pins σ H s→t σ H Q→wpAny (model X.prog X.w) X.A (spliced (backTo pos (starEach es X.env))) (AP X pins σ Q) X.xe s
noncomputable def PS (X:Cx) (st:Stmt) (t:TS):Prop:=
 ∀ (pins:List (Addr × Obj)) (s:Shared) (σ:St) (H:Hp) (D:Ends),Inv X pins σ H s→t D σ H→wpAny (model X.prog X.w) X.A (exec st X.env) (SP X pins D) X.xe s
noncomputable def PSs (X:Cx) (st:List Stmt) (t:TS):Prop:=
 ∀ (pins:List (Addr × Obj)) (s:Shared) (σ:St) (H:Hp) (D:Ends),Inv X pins σ H s→t D σ H→wpAny (model X.prog X.w) X.A (execs st X.env) (SP X pins D) X.xe s
theorem thn {α:Type} {t:Sem α} {Q Q':α → Shared→Prop} {M:Model} {A:Around} {E:Value→Shared→Prop} {s:Shared} (h:wpAny M A t Q E s) (hQ:∀ a s,Q a s→Q' a s):wpAny M A t Q' E s:=wpAny_mono h hQ fun _ _ x=>x
end L2
namespace L2
open PySem PySem.Spec PyProof.Rows
section
variable {X:Cx}
noncomputable def Rh (i:Nat):TE:=fun σ H Q=>∃ v,σ[i]? = some (some v)∧Q v H
noncomputable def tC (v:V):TE:=fun _ H Q=>Q v H
theorem Kw {i:Nat} {x:Str} {pos:Pos} (hN:X.N[i]? = some x) (hv:Vis X.env.scope x) (hd:(x == ("__debug__" : Str)) = false:=by decide) (hcd:(x == ("__classdict__" : Str)) = false:=by decide):PE X (.Name x pos) (Rh i):=by
 intro pins s σ H Q I h
 obtain ⟨v,e,h⟩:=h
 obtain ⟨m,hn,hl⟩:=I.loc
 obtain ⟨u,r,l⟩:=hl i x v hN e hv
 have fin:EP X pins σ Q u s:=⟨v,H,I,r,h⟩
 rcases l with ⟨hk,hm⟩ | ⟨hk,c,hc,hcell⟩
 ·exact wpAny_Name (wpAny_loadName_local I.ok.kind hk hn hm fin) hd
 ·rcases hk with hk | hk
  ·exact wpAny_Name (wpAny_loadName_cell I.ok.kind hk hc hcell fin) hd
  ·exact wpAny_Name (wpAny_loadName_free I.ok.kind hk hc hcell fin hcd) hd
theorem UP {i j pos}:PE X (.Constant (.int i) j pos) (tC (.int i)):=fun _ _ _ H _ I h=>wpAny_Constant_int ⟨.int i,H,I.tok _,⟨_,rfl⟩,h⟩
theorem Wc {b j pos}:PE X (.Constant (.bool b) j pos) (tC (.bl b)):=fun _ _ _ H _ I h=>Constant_bool ⟨.bl b,H,I,rfl,h⟩
theorem UY {j pos}:PE X (.Constant .none j pos) (tC .non):=fun _ _ _ H _ I h=>Constant_none ⟨.non,H,I,rfl,h⟩
theorem U1 {x j pos}:PE X (.Constant (.str x) j pos) (tC (.str x)):=fun _ _ _ H _ I h=>Calls.Constant_str ⟨.str x,H,I.tok _,⟨_,rfl⟩,h⟩
noncomputable def Gl (X:Cx) (x:Str):Prop:=X.env.kindOf x = some .globalImplicit
theorem HC {E:Value→Shared→Prop} {pins:List (Addr × Obj)} {s:Shared} {σ:St} {H:Hp} {x:Str} {u:Value} {pos:Pos} {Q:Value→Shared→Prop} (I:Inv X pins σ H s) (hg:Gl X x) (hm:X.mg x = some u) (h:Q u s)
  (hd:(x == ("__debug__" : Str)) = false:=by decide):wpAny (model X.prog X.w) X.A (eval (.Name x pos) X.env) Q E s:=
 Calls.Name_function_global I.ok.kind hg (Calls.loadGlobal_global (by rw [I.ok.glob]; exact I.mod.glob.keeps I.bk) hm h) hd
theorem F2 {E:Value→Shared→Prop} {pins:List (Addr × Obj)} {s:Shared} {σ:St} {H:Hp} {x:Str} {u:Value} {pos:Pos} {Q:Value→Shared→Prop} (I:Inv X pins σ H s) (hg:Gl X x) (hm:X.mg x = none) (hv:bootBuiltins x = some u) (h:Q u s)
  (hn:x ≠ "__name__" := by decide) (hd:(x == ("__debug__" : Str)) = false:=by decide):wpAny (model X.prog X.w) X.A (eval (.Name x pos) X.env) Q E s:=by
 obtain ⟨mb,h1,h2⟩:=I.mod.blt
 exact Calls.Name_function_global I.ok.kind hg (Calls.loadGlobal_builtin (by rw [I.ok.glob]; exact I.mod.glob.keeps I.bk) hm (by rw [I.ok.blt]; exact h1.keeps I.bk) ((h2 x hn).trans hv) h) hd
theorem Oc {x:Str} {v:V} {u:Value} {pos:Pos} (hg:Gl X x) (hm:X.mg x = some u) (r:RelV v u) (hd:(x == ("__debug__" : Str)) = false:=by decide):PE X (.Name x pos) (tC v):=
 fun _ _ _ H _ I h=>HC I hg hm ⟨v,H,I,r,h⟩ hd
theorem Fy {x:Str} {v:V} {u:Value} {pos:Pos} (hg:Gl X x) (hm:X.mg x = none) (hv:bootBuiltins x = some u) (r:RelV v u) (hn:x ≠ "__name__" := by decide) (hd:(x == ("__debug__" : Str)) = false:=by decide):PE X (.Name x pos) (tC v):=
 fun _ _ _ H _ I h=>F2 I hg hm hv ⟨v,H,I,r,h⟩ hn hd
variable {a b:Expr} {ta tb:TE} {pos:Pos}
noncomputable def tB (t:TE):TT:=fun σ H Q=>t σ H fun x H1=>∃ c,x = .bl c∧Q c H1
theorem QX {e:Expr} {t:TE} (h:PE X e t) (he:∀ whole,isTrue e X.env whole = (do let v ← whole; standAt e.pos; holding [v] (truthy v)):=by intro _; rfl):PT X e (tB t):=by
 intro pins s σ H Q I hw
 refine isTrue_plain (thn (h pins s σ H _ I hw) fun v s1 ⟨x,H1,I1,r1,q1⟩=>?_) (he _)
 obtain ⟨d,rfl,q⟩:=q1
 cases r1
 exact wpAny_truthy_bool ⟨H1,I1,q⟩
variable {tA tB':TT} {rest:List Expr}
noncomputable def tOr (t u:TT):TT:=fun σ H Q=>t σ H fun c H1=>if c = true then Q true H1 else u σ H1 Q
noncomputable def WS (t:TT):TT:=fun σ H Q=>t σ H fun c H1=>Q (!c) H1
theorem U9 (ha:PT X a tA):PW X (.BoolOp .Or [a] pos) tA:=by
 intro wh pins s σ H Q I h
 refine isTrue_or (thn (ha pins s σ H Q I h) fun c s1 e=>?_)
 cases c with
 | false=>exact isTrue_or_nil e
 | true=>exact e
theorem Wh (ha:PT X a tA) (hb:PW X (.BoolOp .Or (b :: rest) pos) tB'):PW X (.BoolOp .Or (a :: b :: rest) pos) (tOr tA tB'):=by
 intro wh pins s σ H Q I h
 refine isTrue_or (thn (ha pins s σ H _ I h) fun c s1 yy=>?_)
 obtain ⟨H1,I1,q1⟩:=yy
 cases c with
 | true=>exact ⟨H1,I1,q1⟩
 | false=>exact hb wh pins s1 σ H1 Q I1 q1
theorem QW (ha:PT X a tA):PT X (.UnaryOp .Not a pos) (WS tA):=by
 intro pins s σ H Q I h
 exact isTrue_not (ha pins s σ H (fun c H1=>Q (!c) H1) I h)
noncomputable def Wq (ta tb:TE):TE:=fun σ H Q=>ta σ H fun x H1=>∃ c,x = .bl c∧if c = true then tb σ H1 Q else Q (.bl false) H1
noncomputable def Wu (ta:TE):TE:=fun σ H Q=>ta σ H fun x H1=>∃ c,x = .bl c∧Q (.bl (!c)) H1
theorem U0 {op} {t:TE} (h:PE X a t):PE X (.BoolOp op [a] pos) t:=fun pins s σ H Q I hw=>BoolOp_one (h pins s σ H Q I hw)
theorem UO (ha:PE X a ta) (hb:PE X (.BoolOp .And (b :: rest) pos) tb):PE X (.BoolOp .And (a :: b :: rest) pos) (Wq ta tb):=by
 intro pins s σ H Q I h
 refine BoolOp_and (thn (ha pins s σ H _ I h) fun v s1 yy=>?_)
 obtain ⟨x,H1,I1,r1,q1⟩:=yy
 obtain ⟨c,rfl,q1⟩:=q1
 cases r1
 refine wpAny_truthy_bool ?_
 cases c with
 | true=>exact hb pins s1 σ H1 Q I1 q1
 | false=>exact ⟨.bl false,H1,I1,rfl,q1⟩
theorem UZ (ha:PE X a ta):PE X (.UnaryOp .Not a pos) (Wu ta):=by
 intro pins s σ H Q I h
 refine UnaryOp_ (thn (ha pins s σ H _ I h) fun v s1 yy=>?_)
 obtain ⟨x,H1,I1,r1,q1⟩:=yy
 obtain ⟨c,rfl,q1⟩:=q1
 cases r1
 exact not_of (wpAny_truthy_bool ⟨.bl (!c),H1,I1,rfl,q1⟩)
end
end L2
namespace L2
open PySem PySem.Spec PyProof.Rows
noncomputable def SqL (K:Frag) (H:Hp) (a:Addr) (xs:List V):Prop:=
 Rd H a (.lst xs) ∨
  ∃ (o:Obj) (its:Array Value) (n:Nat),K.lookup a = some o∧o.cls = .type "list" ∧ o.dict = none∧o.data = .seq its n∧its.size≤sizeLine∧Vals xs its.toList
noncomputable def SqT (K:Frag) (H:Hp) (a:Addr) (xs:List V):Prop:=
 Rd H a (.tup xs) ∨
  ∃ (o:Obj) (its:Array Value) (n:Nat),K.lookup a = some o∧o.cls = .type "tuple" ∧ o.data = .seq its n∧its.size≤sizeLine∧Vals xs its.toList
noncomputable def WD:Value→Option V
 | .none=>some .non
 | .bool b=>some (.bl b)
 | .int i _=>some (.int i)
 | .str x _=>some (.str x)
 | .bytes b _=>some (.byt b)
 | .float b _=>some (.flt b)
 | .ref a=>some (.ref a)
 | .type n=>some (.ty n)
 | _=>none
theorem RelV.abs {x:V} {u:Value} (r:RelV x u):WD u = some x:=by
 cases x with
 | non=>cases r; rfl
 | bl _=>cases r; rfl
 | int _=>obtain ⟨t,rfl⟩:=r; rfl
 | str _=>obtain ⟨t,rfl⟩:=r; rfl
 | byt _=>obtain ⟨t,rfl⟩:=r; rfl
 | flt _=>obtain ⟨t,rfl⟩:=r; rfl
 | ref _=>cases r; rfl
 | ty _=>cases r; rfl
theorem RelV.inj {x y:V} {u:Value} (r:RelV x u) (q:RelV y u):x = y:=Option.some.inj (r.abs.symm.trans q.abs)
theorem Vals.inj {xs ys:List V} {us:List Value} (h:Vals xs us):Vals ys us→xs = ys:=by
 induction h generalizing ys with
 | nil=>intro q; cases q; rfl
 | cons r t ih =>
  intro q
  cases q with
  | cons r' t'=>rw [r.inj r',ih t']
section
variable {X:Cx} {pins:List (Addr × Obj)} {σ:St} {H:Hp} {s:Shared} {a:Addr} {xs ys:List V}
theorem Inv.list (I:Inv X pins σ H s) (h:SqL X.K H a xs):∃ its:List Value,Vals xs its∧PlainL s.heap a its.toArray∧xs.length≤sizeLine:=by
 rcases h with h | ⟨o,its,n,hk,hc,hd,hs,hz,r⟩
 ·obtain ⟨z,its,n,r,e⟩:=h.ok I.hok
  exact ⟨its,r,⟨_,n,e,rfl,rfl,rfl⟩,z⟩
 ·refine ⟨its.toList,r,⟨o,n,I.kIn a o hk,hc,hd,by simpa using hs⟩,?_⟩
  have e:=r.length
  simp only [Array.length_toList] at e
  lia
theorem Inv.tuple (I:Inv X pins σ H s) (h:SqT X.K H a xs):∃ its:List Value,Vals xs its∧IsTup s.heap a its.toArray∧xs.length≤sizeLine:=by
 rcases h with h | ⟨o,its,n,hk,hc,hs,hz,r⟩
 ·obtain ⟨z,its,r,p⟩:=h.ok I.hok
  exact ⟨its,r,p,z⟩
 ·refine ⟨its.toList,r,⟨o,I.kIn a o hk,hc,n,by simpa using hs⟩,?_⟩
  have e:=r.length
  simp only [Array.length_toList] at e
  lia
theorem Inv.list_inj (I:Inv X pins σ H s) (h:SqL X.K H a xs) (h':SqL X.K H a ys):xs = ys:=by
 obtain ⟨its,r,⟨o,n,e,_,_,d⟩,_⟩:=I.list h
 obtain ⟨its',r',⟨o',n',e',_,_,d'⟩,_⟩:=I.list h'
 rw [e] at e'; cases e'
 rw [d] at d'
 injection d' with d1 _
 have:its = its':=by simpa using congrArg Array.toList d1
 subst this
 exact r.inj r'
theorem Inv.tuple_inj (I:Inv X pins σ H s) (h:SqT X.K H a xs) (h':SqT X.K H a ys):xs = ys:=by
 obtain ⟨its,r,⟨o,e,_,n,d⟩,_⟩:=I.tuple h
 obtain ⟨its',r',⟨o',e',_,n',d'⟩,_⟩:=I.tuple h'
 rw [e] at e'; cases e'
 rw [d] at d'
 injection d' with d1 _
 have:its = its':=by simpa using congrArg Array.toList d1
 subst this
 exact r.inj r'
end
noncomputable abbrev Cx.wish (X:Cx) (E:Value→Shared→Prop):Cx:={ X with xe:=E }
noncomputable abbrev Cx.nox (X:Cx):Cx:=X.wish fun _ _=>False
theorem Cx.Ok.wish {X:Cx} (ok:X.Ok) (E:Value→Shared→Prop):(X.wish E).Ok:=
 ⟨ok.mod,ok.kind,ok.glob,ok.blt,ok.above,ok.inj,ok.has,ok.cab,ok.hd,ok.frames,ok.stk,ok.exf,ok.bs,ok.bsz,ok.noex,ok.exfs,ok.funs,ok.frf,ok.tb⟩
theorem Cx.Ok.unwish {X:Cx} {E:Value→Shared→Prop} (ok:(X.wish E).Ok):X.Ok:=
 ⟨ok.mod,ok.kind,ok.glob,ok.blt,ok.above,ok.inj,ok.has,ok.cab,ok.hd,ok.frames,ok.stk,ok.exf,ok.bs,ok.bsz,ok.noex,ok.exfs,ok.funs,ok.frf,ok.tb⟩
section
variable {X:Cx} {pins:List (Addr × Obj)} {σ:St} {H:Hp} {s:Shared} {E:Value→Shared→Prop}
theorem Inv.wish (I:Inv X pins σ H s) (E:Value→Shared→Prop):Inv (X.wish E) pins σ H s:=⟨I.ok.wish E,I.os,I.bare,I.base,I.loc,I.cell,I.free,I.freeC,I.pin,I.hok,I.len⟩
theorem Inv.unwish (I:Inv (X.wish E) pins σ H s):Inv X pins σ H s:=⟨I.ok.unwish,I.os,I.bare,I.base,I.loc,I.cell,I.free,I.freeC,I.pin,I.hok,I.len⟩
theorem SP.unwish {D:Ends} {f:Flow} {s':Shared} (h:SP (X.wish E) pins D f s'):SP X pins D f s':=by
 cases f with
 | next=>obtain ⟨σ',H',I,q⟩:=h; exact ⟨σ',H',I.unwish,q⟩
 | brk=>obtain ⟨σ',H',I,q⟩:=h; exact ⟨σ',H',I.unwish,q⟩
 | cont=>obtain ⟨σ',H',I,q⟩:=h; exact ⟨σ',H',I.unwish,q⟩
 | ret u=>obtain ⟨v,σ',H',I,r,q⟩:=h; exact ⟨v,σ',H',I.unwish,r,q⟩
theorem PSs.nox {st:List Stmt} {t:TS} (h:PSs X.nox st t):PSs X st t:=fun pins s σ H D I hw =>
 wpAny_mono (h pins s σ H D (I.wish _) hw) (fun _ _ q=>q.unwish) fun _ _ z=>False.elim z
end
section
variable {X:Cx} {st:Stmt} {rest:List Stmt} {t u:TS} {e:Expr} {te:TE} {pos:Pos}
noncomputable def To:TS:=fun D σ H=>D.nx σ H
noncomputable def VD (t u:TS):TS:=fun D σ H=>t { D with nx:=u D } σ H
theorem Su:PSs X [] To:=fun _ _ σ H _ I h=>wpAny_execs_nil ⟨σ,H,I,h⟩
theorem Ir (h1:PS X st t) (h2:PSs X rest u):PSs X (st :: rest) (VD t u):=by
 intro pins s σ H D I h
 refine wpAny_execs_cons (thn (h1 pins s σ H { D with nx:=u D } I h) fun f s1 q=>?_)
 cases f with
 | next =>
  obtain ⟨σ',H',I',q⟩:=q
  exact h2 pins s1 σ' H' D I' q
 | ret v=>exact q
 | brk=>exact q
 | cont=>exact q
theorem Sv (h1:PS X st t):PSs X [st] t:=by
 intro pins s σ H D I h
 refine wpAny_execs_cons (thn (h1 pins s σ H D I h) fun f s1 q=>?_)
 cases f with
 | next=>exact wpAny_execs_nil q
 | ret v=>exact q
 | brk=>exact q
 | cont=>exact q
theorem Inv.quiet {pins:List (Addr × Obj)} {σ:St} {H:Hp} {s:Shared} (I:Inv X pins σ H s):interactive X.env = false:=by simp [interactive,I.ok.kind]
noncomputable def Mj (te:TE):TS:=fun D σ H=>te σ H fun _ H1=>D.nx σ H1
theorem GH (he:PE X e te) (hs:swapsWith e none pos.line X.env = pure false:=by rfl):PS X (.Expr e pos) (Mj te):=by
 intro pins s σ H D I h
 exact wpAny_Expr_any (thn (he pins s σ H _ I h) fun v s1 ⟨x,H1,I1,r1,q1⟩=>⟨σ,H1,I1,q1⟩) I.quiet hs
noncomputable def Wx (te:TE):TS:=fun D σ H=>te σ H D.rt
theorem QR (he:PE X e te):PS X (.Return (some e) pos) (Wx te):=by
 intro pins s σ H D I h
 exact wpAny_Return_some (thn (he pins s σ H _ I h) fun v s1 ⟨x,H1,I1,r1,q1⟩=>⟨x,σ,H1,I1,r1,q1⟩)
noncomputable def Vt (c:TT) (t u:TS):TS:=fun D σ H=>c σ H fun b H1=>if b = true then t D σ H1 else u D σ H1
theorem Og {c:Expr} {a b:List Stmt} {tc:TT} (hc:PT X c tc) (ha:PSs X a t) (hb:PSs X b u):PS X (.If c a b pos) (Vt tc t u):=by
 intro pins s σ H D I h
 refine wpAny_If (thn (hc pins s σ H _ I h) fun d s1 yy=>?_)
 obtain ⟨H1,I1,q1⟩:=yy
 cases d with
 | true=>exact ha pins s1 σ H1 D I1 q1
 | false=>exact hb pins s1 σ H1 D I1 q1
end
noncomputable abbrev TG:=V→St→Hp→(St→Hp→Prop)→Prop
noncomputable abbrev TGs:=List V→St→Hp→(St→Hp→Prop)→Prop
noncomputable def PG (X:Cx) (target:Expr) (t:TG):Prop:=
 ∀ (pins:List (Addr × Obj)) (s:Shared) (σ:St) (H:Hp) (v:V) (u:Value) (Q:St→Hp→Prop),Inv X pins σ H s→RelV v u→t v σ H Q →
  wpAny (model X.prog X.w) X.A (assign target X.env u) (fun _ s'=>∃ σ' H',Inv X pins σ' H' s'∧Q σ' H') X.xe s
noncomputable def PGs (X:Cx) (ts:List Expr) (t:TGs):Prop:=
 ∀ (pins:List (Addr × Obj)) (s:Shared) (σ:St) (H:Hp) (vs:List V) (us:List Value) (Q:St→Hp→Prop),Inv X pins σ H s→Vals vs us→t vs σ H Q →
  wpAny (model X.prog X.w) X.A (assignInOrder ((assignEach ts X.env).map (·.2)) us) (fun _ s'=>∃ σ' H',Inv X pins σ' H' s'∧Q σ' H') X.xe s
noncomputable abbrev Tt:=V→V→V→Hp→(Hp→Prop)→Prop
noncomputable def VL (X:Cx) (t:Tt):Prop:=
 ∀ (pins:List (Addr × Obj)) (s:Shared) (σ:St) (H:Hp) (o i v:V) (ov iv u:Value) (Q:Hp→Prop),Inv X pins σ H s→RelV o ov→RelV i iv→RelV v u→t o i v H Q →
  wpAny (model X.prog X.w) X.A (setItem ov iv u) (fun _ s'=>∃ H',Inv X pins σ H' s'∧Q H') X.xe s
section
variable {X:Cx} {pos:Pos}
noncomputable def Gu (i:Nat):TG:=fun v σ H Q=>Q (σ.set i (some v)) H
theorem Oe {i:Nat} {x:Str} (hN:X.N.Nodup) (hi:X.N[i]? = some x) (hx:Loc X.env.scope x) (hf:X.fn x = true∨X.env.scope.names.lookup x = some .local:=by first | exact .inl rfl | exact .inr rfl | assumption):PG X (.Name x pos) (Gu i):=by
 intro pins s σ H v u Q I r h
 exact wpAny_assign_Name (EA I hN hi hx r (fun s' I'=>⟨_,H,I',h⟩) hf)
noncomputable def VV:TGs:=fun vs σ H Q=>vs = []∧Q σ H
noncomputable def S8 (t:TG) (u:TGs):TGs:=fun vs σ H Q=>∃ v r,vs = v :: r∧t v σ H fun σ' H'=>u r σ' H' Q
theorem Sm:PGs X [] VV:=by
 intro pins s σ H vs us Q I r h
 obtain ⟨e,h⟩:=h
 subst e
 cases r
 exact assignInOrder_nil ⟨σ,H,I,h⟩
theorem QN {e:Expr} {es:List Expr} {t:TG} {u:TGs} (h1:PG X e t) (h2:PGs X es u)
  (hs:(assignEach (e :: es) X.env).map (·.2) = assign e X.env :: (assignEach es X.env).map (·.2):=by rfl):PGs X (e :: es) (S8 t u):=by
 intro pins s σ H vs us Q I r h
 obtain ⟨v,vr,e1,h⟩:=h
 subst e1
 cases r with
 | cons r rr =>
  rw [hs]
  refine assignInOrder_cons (thn (h1 pins s σ H _ _ _ I r h) fun _ s1 yy=>?_)
  obtain ⟨σ1,H1,I1,q1⟩:=yy
  exact h2 pins s1 σ1 H1 _ _ Q I1 rr q1
noncomputable def TQ (K:Frag) (n:Nat) (t:TGs):TG:=fun v σ H Q=>∃ a xs,v = .ref a∧SqT K H a xs∧xs.length = n∧t xs σ H Q
theorem U4 {es:List Expr} {k:Nat} {t:TGs} {n:Nat} (hc:X.calm = true) (h:PGs X es t)
  (hn:(assignEach es X.env).length = n:=by rfl) (hst:(assignEach es X.env).findIdx? (·.1) = none:=by rfl):PG X (.Tuple es k pos) (TQ X.K n t):=by
 intro pins s σ H v u Q I r hw
 obtain ⟨a,xs,e1,hq,hl,hw⟩:=hw
 subst e1
 cases r
 obtain ⟨its,rv,ht,hz⟩:=I.tuple hq
 refine assign_Tuple_tuple (I.ok.hd hc) ht (by simp [hn,← hl,rv.length]) hst fun h' hx=>?_
 have I1:Inv X pins σ H { s with heap:=h' }:=I.kept (t':=s.toks) fun b o e=>hx b o (Nat.ne_of_lt (Heap.lt_size e)) e
 exact h pins _ σ H xs _ Q I1 (by simpa using rv) hw
noncomputable def VW (to ti:TE) (t:Tt):TG:=fun v σ H Q=>to σ H fun o H1=>ti σ H1 fun i H2=>t o i v H2 fun H3=>Q σ H3
theorem U3 {o i:Expr} {to ti:TE} {t:Tt} (ho:PE X o to) (hi:PE X i ti) (hs:VL X t)
  (ha:∀ v,assign (.Subscript o i pos) X.env v = (do
   let ov ← holding [v] (eval o X.env)
   let iv ← holding [v,ov] (eval i X.env)
   standAt pos
   holding [v,ov,iv] (setItem ov iv v)
   release [v,ov,iv] []):=by intro _; rfl):PG X (.Subscript o i pos) (VW to ti t):=by
 intro pins s σ H v u Q I r h
 rw [ha]
 refine wpAny_bind (wpAny_holding (thn (ho pins s σ H _ I h) fun ov s1 yy=>?_))
 obtain ⟨x,H1,I1,r1,q1⟩:=yy
 refine wpAny_bind (wpAny_holding (thn (hi pins s1 σ H1 _ I1 q1) fun iv s2 yy=>?_))
 obtain ⟨y,H2,I2,r2,q2⟩:=yy
 refine wpAny_bind (wpAny_standAt (wpAny_bind (wpAny_holding (thn (hs pins s2 σ H2 x y v ov iv u _ I2 r1 r2 r q2) fun _ s3 yy=>?_))))
 obtain ⟨H3,I3,q3⟩:=yy
 exact wpAny_release ⟨σ,H3,I3,q3⟩
noncomputable def ND (te:TE) (g:TG):TS:=fun D σ H=>te σ H fun x H1=>g x σ H1 D.nx
theorem QP {tg e:Expr} {te:TE} {g:TG} (he:PE X e te) (hg:PG X tg g) (hs:swapsWithSole [tg] e pos.line X.env = pure false:=by rfl) (hw:swappedStores [tg] e X.env = pure none:=by rfl)
  (h1:(assignEach [tg] X.env).map (·.2) = [assign tg X.env]:=by rfl):PS X (.Assign [tg] e pos) (ND te g):=by
 intro pins s σ H D I h
 refine wpAny_Assign_stores (thn (he pins s σ H _ I h) fun v s1 yy=>?_) hs hw
 obtain ⟨x,H1,I1,r1,q1⟩:=yy
 rw [h1]
 exact thn (hg pins s1 σ H1 x v _ I1 r1 q1) fun _ s2 q=>q
theorem U8 {i:Nat} {x:Str} {e:Expr} {te:TE} {pos':Pos} (hN:X.N.Nodup) (hi:X.N[i]? = some x) (hx:Loc X.env.scope x) (he:PE X e te) (hs:swapsWith e (some (.Name x pos')) pos.line X.env = pure false:=by rfl) (hf:X.fn x = true∨X.env.scope.names.lookup x = some .local:=by first | exact .inl rfl | exact .inr rfl | assumption) :
  PS X (.Assign [.Name x pos'] e pos) (ND te (Gu i)):=by
 intro pins s σ H D I h
 refine wpAny_Assign_Name (thn (he pins s σ H _ I h) fun v s1 yy=>?_) hs
 obtain ⟨y,H1,I1,r1,q1⟩:=yy
 exact EA I1 hN hi hx r1 (fun s2 I2=>⟨_,H1,I2,q1⟩) hf
end
section
variable {X:Cx} {pos:Pos}
end
structure It where
 go:Nat→Hp→Prop
 yld:Nat→Hp→V→Hp→Prop
 stop:Nat→Hp→Prop
noncomputable def Eb (X:Cx) (pins:List (Addr × Obj)) (H:Hp) (b:Addr):Prop:=
 H b = none∧b≠X.env.locals∧b ∉ X.fs∧(b∈X.ex∨X.s₀.heap.objs.size≤b)∧(∀ x c,X.env.cells.lookup x = some c→c≠b)∧∀ p∈X.pn ++ pins,p.1≠b
theorem Inv.fpOk {X:Cx} {pins:List (Addr × Obj)} {σ:St} {H H':Hp} {s:Shared} {b:Addr} (I:Inv X pins σ H s) (hb:s.heap.objs.size≤b) (hn:H' b = none):Eb X pins H' b:=by
 refine ⟨hn,Nat.ne_of_gt (Nat.lt_of_lt_of_le I.lt hb),I.nofs hb,.inr (Nat.le_trans I.sz hb),fun x c e z=>?_,fun p hp z=>?_⟩
 ·obtain ⟨v,q⟩:=I.cell x c e
  exact absurd (Nat.lt_of_lt_of_le q.lt (by rw [z]; exact hb)) (Nat.lt_irrefl _)
 ·exact absurd (Nat.lt_of_lt_of_le (Heap.lt_size (I.pin p hp).1) (by rw [z]; exact hb)) (Nat.lt_irrefl _)
structure Turn (P:Program) (w:World) (K:Frag) (tg:Expr) (J:It) (fp:List Addr) (it:Addr) (tn:Nat→Heap→Prop):Prop where
 mem:it∈fp
 obj:∀ i h,tn i h→∀ b∈fp,∃ o,h.get? b = some o∧∀ v,o.data ≠ .cell v
 keep:∀ i h h',tn i h→(∀ b∈fp,∀ o,h.get? b = some o→h'.get? b = some o)→tn i h'
 item:∀ (X:Cx),X.prog = P→X.w = w→X.K = K→X.calm = true→∀ (i:Nat) (pins:List (Addr × Obj)) (s:Shared) (σ:St) (H:Hp) (E:Value→Shared→Prop),Inv X pins σ H s→(∀ b∈fp,Eb X pins H b)→tn i s.heap→J.go i H →
  wpAny (model P w) X.A (pyNext (.ref it)) (fun r s1=>∃ u,r = some u ∧
   wpAny (model P w) X.A (letOwnedTupleGo tg (.ref it) u) (fun _ s2=>∃ x H',Inv X pins σ H' s2∧RelV x u∧J.yld i H x H'∧tn (i + 1) s2.heap∧∀ b∈fp,H' b = none) E s1) E s
 done:∀ (X:Cx),X.prog = P→X.w = w→X.K = K→X.calm = true→∀ (i:Nat) (pins:List (Addr × Obj)) (s:Shared) (σ:St) (H:Hp) (E:Value→Shared→Prop),Inv X pins σ H s→(∀ b∈fp,Eb X pins H b)→tn i s.heap→J.stop i H →
  wpAny (model P w) X.A (pyNext (.ref it)) (fun r s1=>r = none∧Inv X pins σ H s1) E s
 self:∀ (A:Around) (i:Nat) (s:Shared) (Q:Value→Shared→Prop) (E:Value→Shared→Prop),tn i s.heap→Q (.ref it) s→wpAny (model P w) A (pyIter (.ref it)) Q E s
noncomputable abbrev TI:=St→Hp→(It→Hp→Prop)→Prop
noncomputable def PIE (X:Cx) (pins:List (Addr × Obj)) (σ:St) (tg:Expr) (R:It→Hp→Prop) (itv:Value) (s2:Shared):Prop:=
 ∃ (it:Addr) (fp:List Addr) (tn:Nat→Heap→Prop) (J:It) (H':Hp),itv = .ref it∧Inv X pins σ H' s2∧Turn X.prog X.w X.K tg J fp it tn∧tn 0 s2.heap∧(∀ b∈fp,Eb X pins H' b)∧R J H'
noncomputable def PI (X:Cx) (tg iter:Expr) (wi:TI):Prop:=
 ∀ (pins:List (Addr × Obj)) (s:Shared) (σ:St) (H:Hp) (R:It→Hp→Prop),Inv X pins σ H s→wi σ H R →
  wpAny (model X.prog X.w) X.A (eval iter X.env) (fun v s1=>wpAny (model X.prog X.w) X.A (pyIter v) (PIE X pins σ tg R) X.xe s1) X.xe s
theorem Jp {M:Model} {A:Around} {E:Value→Shared→Prop} {s:Shared} {tg:Expr} {it:Addr} {u:Value} {o:Obj} {n:String} {vs:Array Value} {Q:Unit→Shared→Prop} (ho:s.heap.get? it = some o) (hc:o.cls = .type n) (hd:o.data = .fields vs)
  (hn:["enumerate","zip","dict_itemiterator","dict_reverseitemiterator","odict_iterator","itertools.zip_longest","itertools.pairwise"].contains n = false) (hQ:Q () s):wpAny M A (letOwnedTupleGo tg (.ref it) u) Q E s:=by
 unfold letOwnedTupleGo
 cases tg <;> first
  | exact wpAny_pure hQ
  | (cases u <;> first
    | exact wpAny_pure hQ
    | (refine wpAny_bind (wpAny_load ho ?_)
       rw [hc,hd]
       show wpAny M A (if (["enumerate","zip","dict_itemiterator","dict_reverseitemiterator","odict_iterator","itertools.zip_longest","itertools.pairwise"].contains n && vs[0]? == some (rawInt _)) = true then _ else _) Q E s
       rw [if_neg (by intro h; rw [hn,Bool.false_and] at h; cases h)]
       exact wpAny_pure hQ))
noncomputable def Itl (K:Frag) (a:Addr):It:=
 ⟨fun i H=>∃ xs x,SqL K H a xs∧xs[i]? = some x,fun i H x H'=>H' = H∧∀ xs,SqL K H a xs→xs[i]? = some x,fun i H=>∃ xs,SqL K H a xs∧xs.length≤i⟩
noncomputable def Itt (K:Frag) (a:Addr):It:=
 ⟨fun i H=>∃ xs x,SqT K H a xs∧xs[i]? = some x,fun i H x H'=>H' = H∧∀ xs,SqT K H a xs→xs[i]? = some x,fun i H=>∃ xs,SqT K H a xs∧xs.length≤i⟩
noncomputable def Itr (lo:Int) (n:Nat):It:=⟨fun i _=>i < n,fun i H x H'=>H' = H∧x = .int (lo + i),fun i _=>n≤i⟩
theorem Po {P:Program} {w:World} {K:Frag} {tg:Expr} (a it:Addr):Turn P w K tg (Itl K a) [it] it (fun i h=>h.IsListIter it a i) where
 mem:=by simp
 obj:=fun i h st b hb=>by
  have e:b = it:=by simpa using hb
  subst e
  obtain ⟨o,e,c,d⟩:=st
  exact ⟨o,e,fun v z=>by rw [d] at z; cases z⟩
 keep:=fun i h h' st k=>st.at fun o e=>k it (by simp) o e
 item:=by
  intro X hP hw hK hc i pins s σ H E I hf st hg
  subst hP hw hK
  obtain ⟨xs,x,hq,hx⟩:=hg
  obtain ⟨its,rv,p,hz⟩:=I.list hq
  obtain ⟨u,hu,ru⟩:=rv.get hx
  obtain ⟨f0,f1,f2,f3,f4,f5⟩:=hf it (by simp)
  refine wpAny_pyNext_list_item st p.isList (x:=u) (by simpa using hu) fun h' st' sb=>?_
  have I1:Inv X pins σ H { s with heap:=h' }:=I.turned (t':=s.toks) (fun b o hb e=>(sb.2 b hb).trans e) f0 f1 f3 f4 f5
  obtain ⟨o,e,c,d⟩:=id st'
  exact ⟨u,rfl,Jp (s:={ s with heap:=h' }) e c d (by decide) ⟨x,H,I1,ru,⟨rfl,fun ys hy=>by rw [I.list_inj hy hq]; exact hx⟩,st',fun b hb=>(hf b hb).1⟩⟩
 done:=by
  intro X hP hw hK hc i pins s σ H E I hf st hg
  subst hP hw hK
  obtain ⟨xs,hq,hx⟩:=hg
  obtain ⟨its,rv,p,hz⟩:=I.list hq
  obtain ⟨f0,f1,f2,f3,f4,f5⟩:=hf it (by simp)
  have hl:=rv.length
  exact wpAny_pyNext_list_end (I.ok.hd hc) st p.isList (by simp; lia) fun h' eb=>⟨rfl,I.turned (t':=s.toks) (fun b o hb e=>eb b o hb e) f0 f1 f3 f4 f5⟩
 self:=fun _ _ _ _ _ st h=>wpAny_pyIter_listiter st h
theorem NJ {P:Program} {w:World} {K:Frag} {tg:Expr} (a it:Addr):Turn P w K tg (Itt K a) [it] it (fun i h=>h.IsTupleIter it a i) where
 mem:=by simp
 obj:=fun i h st b hb=>by
  have e:b = it:=by simpa using hb
  subst e
  obtain ⟨o,e,c,d⟩:=st
  exact ⟨o,e,fun v z=>by rw [d] at z; cases z⟩
 keep:=fun i h h' st k=>st.at fun o e=>k it (by simp) o e
 item:=by
  intro X hP hw hK hc i pins s σ H E I hf st hg
  subst hP hw hK
  obtain ⟨xs,x,hq,hx⟩:=hg
  obtain ⟨its,rv,p,hz⟩:=I.tuple hq
  obtain ⟨u,hu,ru⟩:=rv.get hx
  obtain ⟨f0,f1,f2,f3,f4,f5⟩:=hf it (by simp)
  refine wpAny_pyNext_tuple_item st (show s.heap.IsTuple a its.toArray from p) (x:=u) (by simpa using hu) fun h' st' sb=>?_
  have I1:Inv X pins σ H { s with heap:=h' }:=I.turned (t':=s.toks) (fun b o hb e=>(sb.2 b hb).trans e) f0 f1 f3 f4 f5
  obtain ⟨o,e,c,d⟩:=id st'
  exact ⟨u,rfl,Jp (s:={ s with heap:=h' }) e c d (by decide) ⟨x,H,I1,ru,⟨rfl,fun ys hy=>by rw [I.tuple_inj hy hq]; exact hx⟩,st',fun b hb=>(hf b hb).1⟩⟩
 done:=by
  intro X hP hw hK hc i pins s σ H E I hf st hg
  subst hP hw hK
  obtain ⟨xs,hq,hx⟩:=hg
  obtain ⟨its,rv,p,hz⟩:=I.tuple hq
  obtain ⟨f0,f1,f2,f3,f4,f5⟩:=hf it (by simp)
  have hl:=rv.length
  exact wpAny_pyNext_tuple_end (I.ok.hd hc) st (show s.heap.IsTuple a its.toArray from p) (by simp; lia) fun h' eb=>⟨rfl,I.turned (t':=s.toks) (fun b o hb e=>eb b o hb e) f0 f1 f3 f4 f5⟩
 self:=fun _ _ _ _ _ st h=>wpAny_pyIter_tupleiter st h
theorem NI {P:Program} {w:World} {K:Frag} {tg:Expr} (it:Addr) (lo:Int) (n:Nat):Turn P w K tg (Itr lo n) [it] it (fun i h=>IsRangeIter h it (lo + (i:Nat) * 1) ((n:Int) - (i:Nat)) 1) where
 mem:=by simp
 obj:=fun i h st b hb=>by
  have e:b = it:=by simpa using hb
  subst e
  exact ⟨_,st,fun v z=>by
   have z':Data.fields _ = Data.cell v:=z
   cases z'⟩
 keep:=fun i h h' st k=>k it (by simp) _ st
 item:=by
  intro X hP hw hK hc i pins s σ H E I hf st hg
  subst hP hw hK
  obtain ⟨f0,f1,f2,f3,f4,f5⟩:=hf it (by simp)
  have W:=Walks.range (prog:=X.prog) (w:=X.w) (I.ok.hd hc) it lo 1 n
  refine W.item i s _ _ hg st fun v h' tk hv st' kk=>?_
  obtain ⟨t,rfl⟩:=hv
  have I1:Inv X pins σ H { s with heap:=h',toks:=tk }:=I.turned (fun b o hb e=>kk b o (by simpa using hb) e) f0 f1 f3 f4 f5
  refine ⟨_,rfl,Jp (s:={ s with heap:=h',toks:=tk }) (n := "range_iterator") st' rfl rfl (by decide) ⟨.int (lo + i),H,I1,⟨t,?_⟩,⟨rfl,rfl⟩,st',fun b hb=>(hf b hb).1⟩⟩
  rw [Int.mul_one]
 done:=by
  intro X hP hw hK hc i pins s σ H E I hf st hg
  subst hP hw hK
  obtain ⟨f0,f1,f2,f3,f4,f5⟩:=hf it (by simp)
  exact wpAny_pyNext_range_end (I.ok.hd hc) st (by have:n≤i:=hg; lia) fun h' eb=>⟨rfl,I.turned (t':=s.toks) (fun b o hb e=>eb b o hb e) f0 f1 f3 f4 f5⟩
 self:=fun _ _ _ _ _ st h=>wpAny_pyIter_rangeiter st h
end L2
namespace L2
open PySem PySem.Spec PyProof.Rows
section
variable {X:Cx} {tg:Expr}
theorem Q0 {pins:List (Addr × Obj)} {σ:St} {H:Hp} {s:Shared} {R:It→Hp→Prop} {E:Value→Shared→Prop} {lo hi:Int} {t u v:Tok} {tk:Nat} (I:Inv X pins σ H s) (h1 : -(2 ^ 62)≤lo) (h2:lo < 2 ^ 62) (h3 : -(2 ^ 62)≤hi) (h4:hi < 2 ^ 62)
  (q:R (Itr lo (hi - lo).toNat) H):wpAny (model X.prog X.w) X.A (pyIter (.ref s.heap.objs.size)) (PIE X pins σ tg R) E { s with heap:=s.heap.push { cls:=.type "range",data:=.fields #[.int lo t,.int hi u,.int 1 v] },toks:=tk }:=by
 refine wpAny_pyIter_range (IsRange.new ..) (small_one h1 h2 h3 h4) ?_
 have I1:Inv X pins σ H { s with heap:=s.heap.push { cls:=.type "range",data:=.fields #[.int lo t,.int hi u,.int 1 v] },toks:=tk }:=I.kept fun b o e=>Heap.get?_push_of_some _ e
 refine ⟨(s.heap.push { cls:=.type "range",data:=.fields #[.int lo t,.int hi u,.int 1 v] }).objs.size,[(s.heap.push { cls:=.type "range",data:=.fields #[.int lo t,.int hi u,.int 1 v] }).objs.size],_,_,H,rfl,
  I1.kept (t':=tk) fun b o e=>Heap.get?_push_of_some _ e,NI _ lo (hi - lo).toNat,?_,fun b hb=>?_,q⟩
 ·have e1:lo + ((0:Nat):Int) * 1 = lo:=by simp
  have e2:(((hi - lo).toNat:Nat):Int) - ((0:Nat):Int) = Builtin.Range.rangeSize lo hi 1:=by rw [rangeSize_one]; split <;> lia
  show IsRangeIter _ _ (lo + ((0:Nat):Int) * 1) ((((hi - lo).toNat:Nat):Int) - ((0:Nat):Int)) 1
  rw [e1,e2]
  exact Heap.get?_push_size _ rfl
 ·have e:b = (s.heap.push { cls:=.type "range",data:=.fields #[.int lo t,.int hi u,.int 1 v] }).objs.size:=by simpa using hb
  subst e
  exact I1.fpOk (Nat.le_refl _) (I1.hok.fresh (Nat.le_refl _))
noncomputable def P0 (ta:TA):TI:=fun σ H R=>ta σ H fun vs H1=>∃ j:Int,vs = [.int j] ∧ -(2 ^ 62)≤j∧j < 2 ^ 62∧R (Itr 0 j.toNat) H1
theorem O8 {a:Expr} {ta:TA} {p pos:Pos} (hg:Gl X "range") (hm:X.mg "range" = none) (ha:PA X [a] ta) (hs:starEach [a] X.env = [(false,eval a X.env)]:=by rfl):PI X tg (.Call (.Name "range" p) [a] [] pos) (P0 ta):=by
 intro pins s σ H R I h
 refine Call_ (F2 I hg hm boot_range (PyProof.Rows.callWith_type1 (thn (ha pos pins s σ H _ I h) fun us s1 ⟨vs,H1,I1,r1,q1⟩=>?_) hs rfl))
 obtain ⟨j,e,q1,q2,q⟩:=q1
 subst e
 cases r1 with
 | cons r rr =>
  cases rr
  obtain ⟨t,rfl⟩:=r
  exact call_range_1 (Q0 I1 (by lia) (by lia) q1 q2 (by simpa using q))
noncomputable def Ws (wi:TI) (g:TG) (tb:TS):TS:=fun D σ H=>wi σ H fun J H1=>∃ W:Nat→Nat→St→Hp→Prop,(∃ m,W 0 m σ H1)∧∀ i m σ H,W i m σ H →
 (J.stop i H∧D.nx σ H)∨(J.go i H∧∃ N:St→Hp→Prop,(∀ σ' H',N σ' H'→∃ m',m' < m∧W (i + 1) m' σ' H')∧∀ x H',J.yld i H x H'→g x σ H' fun σ2 H2=>tb { D with nx:=N,ct:=N,bk:=D.nx } σ2 H2)
noncomputable def G7 (fp:List Addr) (h:Heap):List (Addr × Obj):=fp.filterMap fun b=>(h.get? b).map fun o=>(b,o)
theorem C1 {fp:List Addr} {h:Heap} {b:Addr} {o:Obj} (hb:b∈fp) (e:h.get? b = some o):(b,o)∈G7 fp h:=List.mem_filterMap.mpr ⟨b,hb,by rw [e]; rfl⟩
theorem OW {fp:List Addr} {h:Heap} {p:Addr × Obj} (hp:p∈G7 fp h):p.1∈fp∧h.get? p.1 = some p.2:=by
 obtain ⟨b,hb,e⟩:=List.mem_filterMap.mp hp
 cases q:h.get? b with
 | none=>rw [q] at e; cases e
 | some o =>
  rw [q] at e
  have e':(b,o) = p:=Option.some.inj e
  subst e'
  exact ⟨hb,q⟩
theorem Inv.pinned {pins:List (Addr × Obj)} {σ:St} {H:Hp} {s:Shared} {fp:List Addr} (I:Inv X pins σ H s) (hf:∀ b∈fp,Eb X pins H b) (ho:∀ b∈fp,∃ o,s.heap.get? b = some o∧∀ v,o.data ≠ .cell v):Inv X (pins ++ G7 fp s.heap) σ H s:=
 I.pins_of fun p hp=>(List.mem_append.mp hp).elim (fun z=>I.pin p (List.mem_append_right _ z)) fun z=>by
  obtain ⟨hb,e⟩:=OW z
  obtain ⟨f0,f1,f2,_⟩:=hf p.1 hb
  obtain ⟨o,e',d⟩:=ho p.1 hb
  rw [e] at e'; cases e'
  exact ⟨e,f0,f1,f2,d⟩
theorem Inv.unpinned {pins pl:List (Addr × Obj)} {σ:St} {H:Hp} {s:Shared} (I:Inv X (pins ++ pl) σ H s):Inv X pins σ H s:=I.pins_of fun p hp=>I.pin p (List.mem_append_right _ (List.mem_append_left _ hp))
theorem U7 {iter:Expr} {body:List Stmt} {wi:TI} {g:TG} {tb:TS} {pos:Pos} (hp:PassesOwn (model X.prog X.w) X.A X.env X.xe) (hc:X.calm = true) (hi:PI X tg iter wi) (hg:PG X tg g) (hb:PSs X body tb)
  (hs:∀ x,foldedSetIterable iter X.env x = pure x:=by intro _; rfl):PS X (.For tg iter body [] pos) (Ws wi g tb):=by
 intro pins s σ H D I h
 refine wpAny_For (thn (hi pins s σ H _ I h) fun v s1 h1=>thn h1 fun itv s2 h2=>?_) hs
 obtain ⟨it,fp,tn,J,H2,e,I2,T,st2,f2,W,⟨m0,w0⟩,turn⟩:=h2
 subst e
 -- what stays true of the iterator's objects through the loop
 have stat:∀ {H':Hp},(∀ b∈fp,H' b = none)→∀ b∈fp,Eb X pins H' b:=fun hn b hb=>⟨hn b hb,(f2 b hb).2⟩
 refine codeAny_forLoop_any (fun n s'=>∃ i σ' H',Inv X pins σ' H' s'∧tn i s'.heap∧(∀ b∈fp,H' b = none)∧W i n σ' H') ?_ m0 ⟨0,σ,H2,I2,st2,fun b hb=>(f2 b hb).1,w0⟩
 rintro n s3 ⟨i,σ3,H3,I3,st3,fr3,w3⟩
 rcases turn i n σ3 H3 w3 with ⟨stop,qn⟩ | ⟨go,N,hN,step⟩
 ·refine wpAny_passesOwn hp (thn (T.done X rfl rfl rfl hc i pins s3 σ3 H3 X.xe I3 (stat fr3) st3 stop) fun r s4 yy=>?_)
  obtain ⟨hr,I4⟩:=yy
  subst hr
  exact wpAny_execs_nil ⟨σ3,H3,I4,qn⟩
 ·refine wpAny_passesOwn hp (thn (T.item X rfl rfl rfl hc i pins s3 σ3 H3 X.xe I3 (stat fr3) st3 go) fun r s4 yy=>?_)
  obtain ⟨u,hr,h4⟩:=yy
  subst hr
  refine wpAny_passesOwn hp (thn h4 fun _ s5 yy=>?_)
  obtain ⟨x,H5,I5,r5,y5,st5,fr5⟩:=yy
  have I5':=I5.pinned (stat fr5) (T.obj _ _ st5)
  refine wpAny_passesOwn hp (thn (hg _ s5 σ3 H5 x u _ I5' r5 (step x H5 y5)) fun _ s6 yy=>?_)
  obtain ⟨σ6,H6,I6,q6⟩:=yy
  refine wpAny_passesOwn hp (thn (hb _ s6 σ6 H6 _ I6 q6) fun f s7 q7=>?_)
  have again:∀ {σ7:St} {H7:Hp},Inv X (pins ++ G7 fp s5.heap) σ7 H7 s7→N σ7 H7→∃ m,m < n∧∃ i σ' H',Inv X pins σ' H' s7∧tn i s7.heap∧(∀ b∈fp,H' b = none)∧W i m σ' H':=fun {σ7 H7} I7 n7=>by
   obtain ⟨m',hm,w7⟩:=hN σ7 H7 n7
   refine ⟨m',hm,i + 1,σ7,H7,I7.unpinned,T.keep _ _ _ st5 fun b hb o e=>(I7.pin (b,o) (List.mem_append_right _ (List.mem_append_right _ (C1 hb e)))).1,fun b hb=>?_,w7⟩
   obtain ⟨o,e,d⟩:=T.obj _ _ st5 b hb
   exact (I7.pin (b,o) (List.mem_append_right _ (List.mem_append_right _ (C1 hb e)))).2.1
  cases f with
  | next=>obtain ⟨σ7,H7,I7,n7⟩:=q7; exact again I7 n7
  | cont=>obtain ⟨σ7,H7,I7,n7⟩:=q7; exact again I7 n7
  | brk=>obtain ⟨σ7,H7,I7,q7⟩:=q7; exact ⟨σ7,H7,I7.unpinned,q7⟩
  | ret v=>obtain ⟨x7,σ7,H7,I7,r7,q7⟩:=q7; exact ⟨x7,σ7,H7,I7.unpinned,r7,q7⟩
end
end L2
namespace L2
open PySem PySem.Spec PyProof.Rows
noncomputable abbrev R2:=V→V→Hp→VK→Prop
noncomputable def OpR (X:Cx) (f:Value→Value→Sem Value) (r:R2):Prop:=
 ∀ (pins:List (Addr × Obj)) (s:Shared) (σ:St) (H:Hp) (x y:V) (v u:Value) (Q:VK),Inv X pins σ H s→RelV x v→RelV y u→r x y H Q →
  wpAny (model X.prog X.w) X.A (f v u) (EP X pins σ Q) X.xe s
noncomputable def UnR (X:Cx) (f:Value→Sem Value) (r:V→Hp→VK→Prop):Prop:=
 ∀ (pins:List (Addr × Obj)) (s:Shared) (σ:St) (H:Hp) (x:V) (v:Value) (Q:VK),Inv X pins σ H s→RelV x v→r x H Q →
  wpAny (model X.prog X.w) X.A (f v) (EP X pins σ Q) X.xe s
noncomputable def Cc (X:Cx) (f:Value) (r:List V→Hp→VK→Prop):Prop:=
 ∀ (pins:List (Addr × Obj)) (s:Shared) (σ:St) (H:Hp) (xs:List V) (us:List Value) (Q:VK),Inv X pins σ H s→Vals xs us→r xs H Q →
  wpAny (model X.prog X.w) X.A (call f us) (EP X pins σ Q) X.xe s
noncomputable def tOp (r:R2) (ta tb:TE):TE:=fun σ H Q=>ta σ H fun x H1=>tb σ H1 fun y H2=>r x y H2 Q
noncomputable def tUn (r:V→Hp→VK→Prop) (ta:TE):TE:=fun σ H Q=>ta σ H fun x H1=>r x H1 Q
noncomputable def rI (C:Int→Int→Prop) (g:Int→Int→V):R2:=fun x y H Q=>∃ i j,x = .int i∧y = .int j∧C i j∧Q (g i j) H
noncomputable def rI0 (g:Int→Int→V):R2:=fun x y H Q=>∃ i j,x = .int i∧y = .int j∧Q (g i j) H
noncomputable def rU (g:Int→V):V→Hp→VK→Prop:=fun x H Q=>∃ i,x = .int i∧Q (g i) H
section
variable {X:Cx} {a b c:Expr} {ta tb tc:TE} {pos:Pos}
theorem Tx (ha:PE X a ta) (hb:PE X b tb) {pins:List (Addr × Obj)} {s:Shared} {σ:St} {H:Hp} {R:V→V→Hp→Prop} (I:Inv X pins σ H s)
  (h:ta σ H fun x H1=>tb σ H1 fun y H2=>R x y H2) {Q:Value→Shared→Prop} {f:Value→Value→Sem Value}
  (hf:∀ v u s2 x y H2,Inv X pins σ H2 s2→RelV x v→RelV y u→R x y H2→wpAny (model X.prog X.w) X.A (f v u) Q X.xe s2) :
  wpAny (model X.prog X.w) X.A (eval a X.env) (fun v s₁=>wpAny (model X.prog X.w) X.A (eval b X.env) (fun u s₂=>wpAny (model X.prog X.w) X.A (f v u) Q X.xe s₂) X.xe s₁) X.xe s:=by
 refine thn (ha pins s σ H _ I h) fun v s1 yy=>?_
 obtain ⟨x,H1,I1,r1,q1⟩:=yy
 refine thn (hb pins s1 σ H1 _ I1 q1) fun u s2 yy=>?_
 obtain ⟨y,H2,I2,r2,q2⟩:=yy
 exact hf v u s2 x y H2 I2 r1 r2 q2
theorem Wf {op:Operator} {r:R2} (ho:OpR X (binaryOp op) r) (ha:PE X a ta) (hb:PE X b tb):PE X (.BinOp a op b pos) (tOp r ta tb):=by
 intro pins s σ H Q I h
 exact wpAny_BinOp (Tx ha hb I h fun v u s2 x y H2 I2 rx ry q=>ho pins s2 σ H2 x y v u Q I2 rx ry q)
theorem Wg {op:UnaryOp} {r:V→Hp→VK→Prop} (ho:UnR X (unaryOp op) r) (ha:PE X a ta):PE X (.UnaryOp op a pos) (tUn r ta):=by
 intro pins s σ H Q I h
 exact UnaryOp_ (thn (ha pins s σ H _ I h) fun v s1 ⟨x,H1,I1,r1,q1⟩=>ho pins s1 σ H1 x v Q I1 r1 q1)
theorem opI {f:Value→Value→Sem Value} {C:Int→Int→Prop} {g:Int→Int→Int}
  (rule:∀ (i j:Int) (t u:Tok) (s:Shared) (Q:Value→Shared→Prop) (E:Value→Shared→Prop),C i j→Q (.int (g i j) s.toks) { s with toks:=s.toks + 1 }→wpAny (model X.prog X.w) X.A (f (.int i t) (.int j u)) Q E s) :
  OpR X f (rI C fun i j=>.int (g i j)):=by
 intro pins s σ H x y v u Q I rx ry h
 obtain ⟨i,j,rfl,rfl,hc,q⟩:=h
 obtain ⟨t,rfl⟩:=rx
 obtain ⟨t',rfl⟩:=ry
 exact rule i j t t' s _ _ hc ⟨.int (g i j),H,I.tok _,⟨_,rfl⟩,q⟩
theorem R8 {f:Value→Value→Sem Value} {g:Int→Int→Int}
  (rule:∀ (i j:Int) (t u:Tok) (s:Shared) (Q:Value→Shared→Prop) (E:Value→Shared→Prop),Q (.int (g i j) s.toks) { s with toks:=s.toks + 1 }→wpAny (model X.prog X.w) X.A (f (.int i t) (.int j u)) Q E s) :
  OpR X f (rI0 fun i j=>.int (g i j)):=by
 intro pins s σ H x y v u Q I rx ry h
 obtain ⟨i,j,rfl,rfl,q⟩:=h
 obtain ⟨t,rfl⟩:=rx
 obtain ⟨t',rfl⟩:=ry
 exact rule i j t t' s _ _ ⟨.int (g i j),H,I.tok _,⟨_,rfl⟩,q⟩
theorem R7 {f:Value→Value→Sem Value} {g:Int→Int→Bool}
  (rule:∀ (i j:Int) (t u:Tok) (s:Shared) (Q:Value→Shared→Prop) (E:Value→Shared→Prop),Q (.bool (g i j)) s→wpAny (model X.prog X.w) X.A (f (.int i t) (.int j u)) Q E s) :
  OpR X f (rI0 fun i j=>.bl (g i j)):=by
 intro pins s σ H x y v u Q I rx ry h
 obtain ⟨i,j,rfl,rfl,q⟩:=h
 obtain ⟨t,rfl⟩:=rx
 obtain ⟨t',rfl⟩:=ry
 exact rule i j t t' s _ _ ⟨.bl (g i j),H,I,rfl,q⟩
theorem fdB {x y:Int} (h:y.natAbs < 1099511627776):Builtin.divisionGoesByPylong x y = false:=PyProof.noPylong_of_log2 (by
 by_cases h0:y.natAbs = 0
 ·rw [h0]; decide
 ·have h1:y.natAbs < 2 ^ 40:=by simpa using h
  have:=(Nat.log2_lt h0).mpr h1
  omega)
noncomputable def Tq (i j:Int):Prop:=0 < j∧j < 1099511627776
noncomputable def OA (i j:Int):Prop:=0≤j∧j≤1000000∧i.natAbs < 2 ^ 64
noncomputable def Rt (i j:Int):Prop:=(-(2 ^ 64) < i∧i < 2 ^ 64)∨(-(2 ^ 64) < j∧j < 2 ^ 64)
theorem Rt.ok {i j:Int} (h:Rt i j):IntMulOk i j:=by
 rcases h with ⟨h1,h2⟩ | ⟨h1,h2⟩
 ·exact .of_left (intBits_le_64 h1 h2)
 ·exact .of_right (intBits_le_64 h1 h2)
theorem NK (k:Nat):(0:Int)≤2 ^ k:=by
 rw [two_pow_cast]
 exact Int.natCast_nonneg _
theorem UH:OpR X (binaryOp .Add) (rI0 fun i j=>.int (i + j)):=R8 fun _ _ _ _ _ _ _ q=>add_int q
theorem G3:OpR X (binaryOp .Sub) (rI0 fun i j=>.int (i - j)):=R8 fun _ _ _ _ _ _ _ q=>sub_int q
theorem Kt:OpR X (binaryOp .Mult) (rI Rt fun i j=>.int (i * j)):=opI fun _ _ _ _ _ _ _ hc q=>mul_int q hc.ok
theorem N9:OpR X (binaryOp .FloorDiv) (rI Tq fun i j=>.int (i / j)):=opI fun i j _ _ _ _ _ hc q=>by
 have h1:(0:Int) < j:=hc.1
 have h2:j < 1099511627776:=hc.2
 exact floordiv_int (by lia) (by rw [Int.fdiv_eq_ediv_of_nonneg i (by lia)]; exact q) (.inl (fdB (by lia)))
theorem Ij:OpR X (binaryOp .Mod) (rI (fun _ j=>0 < j) fun i j=>.int (i % j)):=opI fun i j _ _ _ _ _ hc q=>by
 have h1:(0:Int) < j:=hc
 exact mod_int' (by lia) (by rw [Int.fmod_eq_emod_of_nonneg i (by lia)]; exact q)
theorem UL:OpR X (binaryOp .Pow) (rI OA fun i j=>.int (i ^ j.toNat)):=opI fun _ _ _ _ _ _ _ hc q=>pow_int_small hc.1 hc.2.1 hc.2.2 q
theorem Nh:OpR X (binaryOp .LShift) (rI OA fun i j=>.int (i * 2 ^ j.toNat)):=opI fun _ _ _ _ _ _ _ hc q=>lshift_int_small hc.1 hc.2.1 hc.2.2 q
theorem UM:OpR X (binaryOp .RShift) (rI (fun _ j=>0≤j) fun i j=>.int (i / 2 ^ j.toNat)):=opI fun i j _ _ _ _ _ hc q =>
 rshift_int hc (by rw [Int.fdiv_eq_ediv_of_nonneg i (NK _)]; exact q)
theorem UI:OpR X (binaryOp .BitAnd) (rI0 fun i j=>.int (Builtin.bitAnd i j)):=R8 fun _ _ _ _ _ _ _ q=>and_int q
theorem Wa:OpR X (binaryOp .BitOr) (rI0 fun i j=>.int (Builtin.bitOr i j)):=R8 fun _ _ _ _ _ _ _ q=>or_int q
theorem unI {f:Value→Sem Value} {g:Int→Int}
  (rule:∀ (i:Int) (t:Tok) (s:Shared) (Q:Value→Shared→Prop) (E:Value→Shared→Prop),Q (.int (g i) s.toks) { s with toks:=s.toks + 1 }→wpAny (model X.prog X.w) X.A (f (.int i t)) Q E s) :
  UnR X f (rU fun i=>.int (g i)):=by
 intro pins s σ H x v Q I rx h
 obtain ⟨i,rfl,q⟩:=h
 obtain ⟨t,rfl⟩:=rx
 exact rule i t s _ _ ⟨.int (g i),H,I.tok _,⟨_,rfl⟩,q⟩
theorem K5:UnR X (unaryOp .USub) (rU fun i=>.int (-i)):=unI fun _ _ _ _ _ q=>neg_int q
end
section
variable {X:Cx} {a b c:Expr} {ta tb tc:TE} {pos:Pos}
theorem MG {pins:List (Addr × Obj)} {σ:St} {H:Hp} {s:Shared} {Q:VK} {k k':Bool} (I:Inv X pins σ H s) (q:Q (.bl k) H) (e:k = k'):EP X pins σ Q (.bool k') s:=by
 subst e
 exact ⟨.bl k,H,I,rfl,q⟩
theorem V9:OpR X (compareOp .Lt) (rI0 fun i j=>.bl (decide (i < j))):=R7 fun _ _ _ _ _ _ _ q=>lt_int q
theorem V8:OpR X (compareOp .LtE) (rI0 fun i j=>.bl (decide (i≤j))):=R7 fun _ _ _ _ _ _ _ q=>le_int q
theorem Tg:OpR X (compareOp .Gt) (rI0 fun i j=>.bl (decide (j < i))):=R7 fun _ _ _ _ _ _ _ q=>gt_int q
theorem V7:OpR X (compareOp .GtE) (rI0 fun i j=>.bl (decide (j≤i))):=R7 fun _ _ _ _ _ _ _ q=>ge_int q
theorem O4:OpR X (compareOp .Lt) (fun x y H Q=>∃ i j,x = .str i∧y = .str j∧Q (.bl (decide (i.cps.toList < j.cps.toList))) H):=by
 intro pins s σ H x y v u Q I rx ry h
 obtain ⟨i,j,rfl,rfl,q⟩:=h
 obtain ⟨t,rfl⟩:=rx
 obtain ⟨t',rfl⟩:=ry
 exact lt_str (MG I q rfl)
theorem O2:OpR X (compareOp .In) (fun x y H Q=>∃ i j,x = .str i∧y = .str j∧Q (.bl (!(Builtin.Str.occurrences j i 0 j.length 1).isEmpty)) H):=by
 intro pins s σ H x y v u Q I rx ry h
 obtain ⟨i,j,rfl,rfl,q⟩:=h
 obtain ⟨t,rfl⟩:=rx
 obtain ⟨t',rfl⟩:=ry
 exact in_str (MG I q rfl)
theorem OpR.or {f:Value→Value→Sem Value} {r r':R2} (h:OpR X f r) (h':OpR X f r'):OpR X f (fun x y H Q=>r x y H Q∨r' x y H Q):=by
 intro pins s σ H x y v u Q I rx ry q
 rcases q with q | q
 ·exact h pins s σ H x y v u Q I rx ry q
 ·exact h' pins s σ H x y v u Q I rx ry q
theorem Bm (b:Expr) {op:CmpOp} (h:op ≠ .In:=by decide) (h2:op ≠ .NotIn:=by decide):behindInMarks op b = false:=by
 have e1:(op == CmpOp.In) = false:=by cases op <;> first | rfl | exact absurd rfl h
 have e2:(op == CmpOp.NotIn) = false:=by cases op <;> first | rfl | exact absurd rfl h2
 cases b with
 | Set elts k pos =>
  show (k == 0 && (op == .In || op == .NotIn) && elts.all (constantsAlone 8)) = false
  rw [e1,e2,Bool.or_self,Bool.and_false,Bool.false_and]
 | _=>rfl
theorem Si {op:CmpOp} {r:R2} (ho:OpR X (compareOp op) r) (ha:PE X a ta) (hb:PE X b tb) (hm:behindInMarks op b = false):PE X (.Compare a [op] [b] pos) (tOp r ta tb):=by
 intro pins s σ H Q I h
 exact wpAny_Compare1 (Tx ha hb I h fun v u s2 x y H2 I2 rx ry q=>ho pins s2 σ H2 x y v u Q I2 rx ry q) hm
noncomputable def Tp (t:TE):TT:=fun σ H Q=>t σ H fun x H'=>∃ k,x = .bl k∧Q k H'
theorem Oh {op:CmpOp} {r:R2} (ho:OpR X (compareOp op) r) (ha:PE X a ta) (hb:PE X b tb) (hm:behindInMarks op b = false):PT X (.Compare a [op] [b] pos) (Tp (tOp r ta tb)):=by
 intro pins s σ H Q I h
 refine wpAny_isTrue_Compare1 (thn (ha pins s σ H _ I h) fun v s1 yy=>?_) hm
 obtain ⟨x,H1,I1,r1,q1⟩:=yy
 refine thn (hb pins s1 σ H1 _ I1 q1) fun u s2 yy=>?_
 obtain ⟨y,H2,I2,r2,q2⟩:=yy
 refine thn (ho pins s2 σ H2 x y v u _ I2 r1 r2 q2) fun c s3 yy=>?_
 obtain ⟨z,H3,I3,r3,k,e,q3⟩:=yy
 subst e
 cases r3
 exact wpAny_truthy_bool ⟨H3,I3,q3⟩
noncomputable def NF (r r':R2) (ta tb tc:TE):TE:=fun σ H Q=>ta σ H fun x H1=>tb σ H1 fun y H2=>r x y H2 fun z H3=>∃ k,z = .bl k ∧
 (if k = true then tc σ H3 fun w' H4=>r' y w' H4 Q else Q (.bl false) H3)
theorem QK {op op':CmpOp} {r r':R2} (ho:OpR X (compareOp op) r) (ho':OpR X (compareOp op') r') (ha:PE X a ta) (hb:PE X b tb) (hc:PE X c tc)
  (hm:lastMarks [op,op'] [b,c] = false:=by with_unfolding_all rfl):PE X (.Compare a [op,op'] [b,c] pos) (NF r r' ta tb tc):=by
 intro pins s σ H Q I h
 refine Compare_chain (thn (ha pins s σ H _ I h) fun v s1 yy=>?_) hm
 obtain ⟨x,H1,I1,r1,q1⟩:=yy
 refine chain_link (thn (hb pins s1 σ H1 _ I1 q1) fun u s2 yy=>?_)
 obtain ⟨y,H2,I2,r2,q2⟩:=yy
 refine thn (ho pins s2 σ H2 x y v u _ I2 r1 r2 q2) fun d s3 yy=>?_
 obtain ⟨z,H3,I3,r3,k,e,q3⟩:=yy
 subst e
 cases r3
 refine wpAny_truthy_bool ?_
 cases k with
 | false=>exact ite_ff ⟨.bl false,H3,I3,rfl,q3⟩
 | true=>exact ite_tt (chain_last (thn (hc pins s3 σ H3 _ I3 q3) fun w' s4 ⟨z',H4,I4,r4,q4⟩=>ho' pins s4 σ H4 y z' u w' Q I4 r2 r4 q4))
theorem QV {op op':CmpOp} {r r':R2} (ho:OpR X (compareOp op) r) (ho':OpR X (compareOp op') r') (ha:PE X a ta) (hb:PE X b tb) (hc:PE X c tc)
  (hm:lastMarks [op,op'] [b,c] = false:=by with_unfolding_all rfl):PT X (.Compare a [op,op'] [b,c] pos) (Tp (NF r r' ta tb tc)):=by
 intro pins s σ H Q I h
 refine isTrue_chain (thn (ha pins s σ H _ I h) fun v s1 yy=>?_) hm
 obtain ⟨x,H1,I1,r1,q1⟩:=yy
 refine test_link (thn (hb pins s1 σ H1 _ I1 q1) fun u s2 yy=>?_)
 obtain ⟨y,H2,I2,r2,q2⟩:=yy
 refine thn (ho pins s2 σ H2 x y v u _ I2 r1 r2 q2) fun d s3 yy=>?_
 obtain ⟨z,H3,I3,r3,k,e,q3⟩:=yy
 subst e
 cases r3
 refine wpAny_truthy_bool ?_
 cases k with
 | false =>
  obtain ⟨k',e',q'⟩:=q3
  cases e'
  exact ite_ff ⟨H3,I3,q'⟩
 | true =>
  refine ite_tt (test_last (thn (hc pins s3 σ H3 _ I3 q3) fun w' s4 ⟨z',H4,I4,r4,q4⟩=>thn (ho' pins s4 σ H4 y z' u w' _ I4 r2 r4 q4) fun d' s5 yy=>?_))
  obtain ⟨z2,H5,I5,r5,k2,e2,q5⟩:=yy
  subst e2
  cases r5
  exact wpAny_truthy_bool ⟨H5,I5,q5⟩
theorem GV:(sizeLine:Nat) < 2 ^ 63:=by rw [sizeLine_eq]; decide
theorem Nd:OpR X (binaryOp .Add) (fun x y H Q=>∃ i j,x = .str i∧y = .str j∧i.length + j.length≤sizeLine∧Q (.str (i ++ j)) H):=by
 intro pins s σ H x y v u Q I rx ry h
 obtain ⟨i,j,rfl,rfl,hz,q⟩:=h
 obtain ⟨t,rfl⟩:=rx
 obtain ⟨t',rfl⟩:=ry
 exact add_str (fun t' tk=>⟨.str (i ++ j),H,I.tok _,⟨_,rfl⟩,q⟩) hz
theorem vals1 {x:V} {us:List Value} (r:Vals [x] us):∃ u,us = [u]∧RelV x u:=by
 cases r with
 | cons r1 r2=>cases r2; exact ⟨_,rfl,r1⟩
theorem vals2 {x y:V} {us:List Value} (r:Vals [x,y] us):∃ u w',us = [u,w']∧RelV x u∧RelV y w':=by
 cases r with
 | cons r1 r2 =>
  cases r2 with
  | cons r3 r4=>cases r4; exact ⟨_,_,rfl,r1,r3⟩
theorem Lf:Cc X (.builtin "abs") (fun xs H Q=>∃ i,xs = [.int i]∧Q (.int (if i < 0 then -i else i)) H):=by
 intro pins s σ H xs us Q I r h
 obtain ⟨i,rfl,q⟩:=h
 obtain ⟨u,rfl,t,rfl⟩:=vals1 r
 exact call_abs_int fun u tk=>⟨.int (if i < 0 then -i else i),H,I.tok _,⟨_,rfl⟩,q⟩
theorem OF (hc:X.calm = true):Cc X (.builtin "max") (fun xs H Q=>∃ i j,xs = [.int i,.int j]∧Q (.int (if j > i then j else i)) H):=by
 intro pins s σ H xs us Q I r h
 obtain ⟨i,j,rfl,q⟩:=h
 obtain ⟨u,w',rfl,⟨t,rfl⟩,⟨t',rfl⟩⟩:=vals2 r
 refine max_two_ints (I.ok.hd hc) fun h' tk k=>⟨_,H,I.kept k,?_,q⟩
 by_cases hj:j > i
 ·rw [if_pos hj,if_pos hj]; exact ⟨_,rfl⟩
 ·rw [if_neg hj,if_neg hj]; exact ⟨_,rfl⟩
theorem OG (hc:X.calm = true):Cc X (.builtin "min") (fun xs H Q=>∃ i j,xs = [.int i,.int j]∧Q (.int (if j < i then j else i)) H):=by
 intro pins s σ H xs us Q I r h
 obtain ⟨i,j,rfl,q⟩:=h
 obtain ⟨u,w',rfl,⟨t,rfl⟩,⟨t',rfl⟩⟩:=vals2 r
 refine min_two_ints (I.ok.hd hc) fun h' tk k=>⟨_,H,I.kept k,?_,q⟩
 by_cases hj:j < i
 ·rw [if_pos hj,if_pos hj]; exact ⟨_,rfl⟩
 ·rw [if_neg hj,if_neg hj]; exact ⟨_,rfl⟩
end
end L2
namespace L2
open PySem PySem.Spec PyProof.Rows
structure ObjM (h:Heap) (x dx C:Addr) (mA:Str→Option Value):Prop where
 obj:h.get? x = some (PySem.W.instObj C dx)
 ns:h.Ns1 dx mA
 ne:dx≠x
theorem OS {h:Heap} {dx:Addr} {mA:Str→Option Value} (n:h.Ns1 dx mA):∃ od,h.get? dx = some od∧∀ name,PySem.W.lookIn name od = some (mA name):=by
 obtain ⟨o,es,ep,ho,hd,hk,_,hm⟩:=n
 refine ⟨o,ho,fun name=>?_⟩
 have e:=hm name
 unfold nsFind findBy at e
 rw [← Array.find?_toList] at e
 unfold PySem.W.lookIn
 rw [hd]
 dsimp only
 split
 ·rename_i y q
  rw [q] at e
  exact congrArg some e
 ·rename_i q
  rw [q] at e
  have a:es.toList.any (·.refKey) = false:=by
   rw [List.any_eq_false]
   intro y hy
   obtain ⟨z,t,hkey⟩:=hk y (Array.mem_toList_iff.mp hy)
   simp [DictEntry.refKey,hkey]
  have a':¬ es.toList.any (·.refKey) = true:=by rw [a]; exact Bool.false_ne_true
  rw [if_neg a']
  exact congrArg some e
theorem ObjM.look {h:Heap} {x dx C:Addr} {mA:Str→Option Value} (I:ObjM h x dx C mA):∃ od,PySem.W.InstAt h x (PySem.W.instObj C dx) C (some od)∧∀ name,PySem.W.lookIn name od = some (mA name):=
 let ⟨od,ho,hl⟩:=OS I.ns
 ⟨od,⟨I.obj,rfl,rfl,ho⟩,hl⟩
section
variable {prog:Program} {w:World} {A:Around} {E:Value→Shared→Prop} {s:Shared} {K:Frag} {x dx C f:Addr} {mA:Str→Option Value} {name:Str} {v:Value}
end
theorem JC.some_of {v:V} {o:Option Value} (r:JC (some v) o):∃ u,o = some u∧RelV v u:=by
 cases o with
 | none=>exact (show False from r).elim
 | some u=>exact ⟨u,rfl,r⟩
section
variable {P:Program} {w:World} {H H':Hp} {h h':Heap} {a C dx:Addr} {fs fs':List (Str × V)}
theorem RK (hok:HOk P w H h) (e:H a = some (.ins C dx fs)):∃ mA,ObjM h a dx C mA∧(∀ f,JC (fs.lookup f) (mA f))∧PySem.Within mA (fs.map (·.1))∧fs.length≤1000∧H dx = some (.own a):=by
 obtain ⟨d,z,ne,ob,mA,n,r,q⟩:=(show BH P w H h a (.ins C dx fs) from hok a _ e)
 exact ⟨mA,⟨ob,n,ne⟩,r,q,z,d⟩
end
structure Cls (K:Frag) (C:Addr):Prop where
 pg:PySem.W.plainGet K C Str.empty = true
 hd:PySem.W.hasDictIn K C = true
 po:PySem.W.plainOver K C = true
 sa:PySem.W.findIn K (.ref C) "__setattr__" = some (some (.builtin "object.__setattr__"))
theorem Cls.get {K:Frag} {C:Addr} (c:Cls K C) (f:Str):PySem.W.plainGet K C f = true:=c.pg
section
variable {X:Cx} {pins:List (Addr × Obj)} {σ:St} {H:Hp} {s:Shared} {a C dx:Addr} {fs:List (Str × V)} {f:Str} {v:V} {A:Around} {E:Value→Shared→Prop}
end
section
variable {X:Cx} {o e value:Expr} {f:Str} {pos pos' tpos:Pos} {ta tv:TE}
end
section
variable {X:Cx} {pins:List (Addr × Obj)} {σ:St} {H:Hp} {s:Shared} {A:Around} {E:Value→Shared→Prop} {Q:Value→Shared→Prop} {c:Value} {b:Bool}
inductive TyOf (K:Frag) (H:Hp):V→Value→Prop where
 | non:TyOf K H .non (.type "NoneType")
 | bl (x:Bool):TyOf K H (.bl x) (.type "bool")
 | int (i:Int):TyOf K H (.int i) (.type "int")
 | str (x:Str):TyOf K H (.str x) (.type "str")
 | flt (x:UInt64):TyOf K H (.flt x) (.type "float")
 | lst {a:Addr} {xs:List V} (e:H a = some (.lst xs)):TyOf K H (.ref a) (.type "list")
 | frz {a:Addr} {o:Obj} {xs:List V} (e:H a = some (.frz o (.lst xs))):TyOf K H (.ref a) (.type "list")
 | tup {a:Addr} {xs:List V} (e:H a = some (.tup xs)):TyOf K H (.ref a) (.type "tuple")
 | dK {a:Addr} {kvs:List (Key × V)} (e:H a = some (.dK kvs)):TyOf K H (.ref a) (.type "dict")
 | dT {a:Addr} {kvs:List (D × V)} (e:H a = some (.dT kvs)):TyOf K H (.ref a) (.type "dict")
 | ins {a C dx:Addr} {fs:List (Str × V)} (e:H a = some (.ins C dx fs)) (cl:Cls K C) (ha:PySem.W.findIn K (.ref C) "__class__" = some (some (.builtin "object.__class__")))
   (hn:PySem.W.specialIn K (.builtin "object.__class__") "__get__" = some (some (.builtin "getset_descriptor.__get__"))) (htk:PySem.W.takesIn K (.builtin "object.__class__") = some true)
   (hm:PySem.W.mroIn K C (.type "object") = some true):TyOf K H (.ref a) (.ref C)
theorem OL {x:V} {u t:Value} (I:Inv X pins σ H s) (rx:RelV x u) (ty:TyOf X.K H x t) (e:PySem.W.kitOne X.K t c = some b) (h:∀ tk,Q (.bool b) { s with toks:=tk }) :
  wpAny (model X.prog X.w) A (call (.builtin "isinstance") [u,c]) Q E s:=by
 cases ty with
 | non=>cases (show u = Value.none from rx); exact PySem.W.kia_one PySem.W.kitx_none I.kIn True.intro e (fun z=>nomatch z) h
 | bl y=>cases (show u = Value.bool y from rx); exact PySem.W.kia_one PySem.W.kitx_bool I.kIn True.intro e (fun z=>nomatch z) h
 | int i=>obtain ⟨t,q⟩:=(show ∃ t,u = Value.int i t from rx); cases q; exact PySem.W.kia_one PySem.W.kitx_int I.kIn True.intro e (fun z=>nomatch z) h
 | str y=>obtain ⟨t,q⟩:=(show ∃ t,u = Value.str y t from rx); cases q; exact PySem.W.kia_one PySem.W.kitx_str I.kIn True.intro e (fun z=>nomatch z) h
 | flt y=>obtain ⟨t,q⟩:=(show ∃ t,u = Value.float y t from rx); cases q; exact PySem.W.kia_one PySem.W.kitx_float I.kIn True.intro e (fun z=>nomatch z) h
 | @lst a xs ea =>
  cases (show u = Value.ref a from rx)
  obtain ⟨_,_,n,_,h1⟩:=(show BH X.prog X.w H s.heap a (.lst xs) from I.hok a _ ea)
  exact PySem.W.kia_one PySem.W.kitx_list I.kIn ⟨_,h1,rfl⟩ e (fun z=>nomatch z) h
 | @frz a ob xs ea =>
  cases (show u = Value.ref a from rx)
  obtain ⟨_,_,_,n,_,h1⟩:=(show BH X.prog X.w H s.heap a (.frz ob (.lst xs)) from I.hok a _ ea)
  exact PySem.W.kia_one PySem.W.kitx_list I.kIn ⟨_,h1,rfl⟩ e (fun z=>nomatch z) h
 | @tup a xs ea =>
  cases (show u = Value.ref a from rx)
  obtain ⟨_,_,_,p⟩:=(show BH X.prog X.w H s.heap a (.tup xs) from I.hok a _ ea)
  obtain ⟨o,h1,h2,_⟩:=p
  exact PySem.W.kia_one PySem.W.kitx_tuple I.kIn ⟨o,h1,h2⟩ e (fun z=>nomatch z) h
 | @dK a kvs ea =>
  cases (show u = Value.ref a from rx)
  obtain ⟨_,_,vs,_,p⟩:=(show BH X.prog X.w H s.heap a (.dK kvs) from I.hok a _ ea)
  obtain ⟨o,es,ep,h1,h2,_⟩:=p
  exact PySem.W.kia_one PySem.W.kitx_dict I.kIn ⟨o,h1,h2.1⟩ e (fun z=>nomatch z) h
 | @dT a kvs ea =>
  cases (show u = Value.ref a from rx)
  obtain ⟨_,_,xs,_,o,es,ep,h1,h2,_⟩:=(show BH X.prog X.w H s.heap a (.dT kvs) from I.hok a _ ea)
  exact PySem.W.kia_one PySem.W.kitx_dict I.kIn ⟨o,h1,h2.1⟩ e (fun z=>nomatch z) h
 | @ins a C dx fs ea cl ha hn htk hm =>
  cases (show u = Value.ref a from rx)
  obtain ⟨mA,O,_⟩:=RK I.hok ea
  obtain ⟨od,J,_⟩:=O.look
  exact PySem.W.kia_one (PySem.W.kitx_own (cl.get _) cl.hd ha hn htk hm) I.kIn J e (fun z=>nomatch z) h
end
end L2
namespace L2
open PySem PySem.Spec PyProof.Rows
structure Room (k:Nat) (A:Around):Prop where
 hd:A.handled = none
 dp:A.depth + 3 * k + 5 < recursionLimit
 un:A.units + 16 * k + 200 < cLine
theorem Room.mono {j k:Nat} {A:Around} (r:Room k A) (h:j≤k):Room j A:=⟨r.hd,by have:=r.dp; lia,by have:=r.un; lia⟩
theorem Room.deeper {k:Nat} {A:Around} (r:Room (k + 1) A) (env:Env):Room k (A.deeper env):=
 ⟨r.hd,by have:=r.dp; show A.depth + 1 + 3 * k + 5 < _; lia,by have:=r.un; show A.units + 3 + 16 * k + 200 < _; lia⟩
theorem Room.depth {k:Nat} {A:Around} (r:Room k A):A.depth < recursionLimit:=by have:=r.dp; lia
theorem Room.units {k:Nat} {A:Around} (r:Room k A):A.units + 64 < cLine:=by have:=r.un; lia
noncomputable def FF:TA:=fun _ H Q=>Q [] H
noncomputable def B0 (ta:TE) (tr:TA):TA:=fun σ H Q=>ta σ H fun x H1=>tr σ H1 fun xs H2=>Q (x :: xs) H2
section
variable {X:Cx} {e:Expr} {es:List Expr} {te:TE} {t:TA} {pos:Pos}
theorem Eg:PA X [] FF:=fun _ _ _ _ H Q I h=>Calls.spliced_nil ⟨[],H,I,.nil,h⟩
theorem Cp (ha:PE X e te) (hr:PA X es t) (hs:starEach (e :: es) X.env = (false,eval e X.env) :: starEach es X.env:=by rfl):PA X (e :: es) (B0 te t):=by
 intro pos pins s σ H Q I h
 rw [hs]
 show wpAny _ _ (spliced ((false,eval e X.env) :: backTo pos (starEach es X.env))) _ _ s
 refine Calls.spliced_cons (thn (ha pins s σ H _ I h) fun u s1 yy=>?_)
 obtain ⟨x,H1,I1,r1,q1⟩:=yy
 exact thn (hr pos pins s1 σ H1 _ I1 q1) fun us s2 ⟨xs,H2,I2,r2,q2⟩=>⟨x :: xs,H2,I2,.cons r1 r2,q2⟩
noncomputable def WA (t:TA):TE:=fun σ H Q=>t σ H fun xs H1=>xs.length≤sizeLine∧∀ p,H1 p = none→Q (.ref p) (upd H1 p (.tup xs))
noncomputable def Wt (t:TA):TE:=fun σ H Q=>t σ H fun xs H1=>xs.length≤sizeLine∧∀ p,H1 p = none→Q (.ref p) (upd H1 p (.lst xs))
theorem U2 {x1} (h:PA X es t):PE X (.Tuple es x1 pos) (WA t):=by
 intro pins s σ H Q I hq
 refine wpAny_Tuple_spliced (thn (h pos pins s σ H _ I hq) fun us s1 ⟨xs,H1,I1,r,z,q⟩=>⟨by rw [← r.length]; exact z,?_⟩)
 have hf:H1 s1.heap.objs.size = none:=I1.hok.fresh (Nat.le_refl _)
 refine ⟨.ref s1.heap.objs.size,upd H1 s1.heap.objs.size (.tup xs),I1.laid (t':=s1.toks) (fun b u e=>Heap.get?_push_of_some _ e) (Nat.le_refl _) ?_,rfl,q _ hf⟩
 exact ⟨z,us,r,⟨_,Heap.get?_push_size _ rfl,rfl,_,rfl⟩⟩
theorem UX (h:PA X es t):PE X (.List es pos) (Wt t):=by
 intro pins s σ H Q I hq
 refine wpAny_List_spliced (thn (h pos pins s σ H _ I hq) fun us s1 ⟨xs,H1,I1,r,z,q⟩=>⟨by rw [← r.length]; exact z,?_⟩)
 have hf:H1 s1.heap.objs.size = none:=I1.hok.fresh (Nat.le_refl _)
 refine ⟨.ref s1.heap.objs.size,upd H1 s1.heap.objs.size (.lst xs),I1.laid (t':=s1.toks) (fun b u e=>Heap.get?_push_of_some _ e) (Nat.le_refl _) ?_,rfl,q _ hf⟩
 exact ⟨z,us,0,r,Heap.get?_push_size _ rfl⟩
end
noncomputable abbrev Sp:=List V→Hp→VK→XK→Prop
noncomputable abbrev CXT:=List Env→Hp→Shared→XK→Value→Shared→Prop
structure Env0 (P:Program) (w:World) (K:Frag) (mg:Str→Option Value) (base:Heap) (A:Around) (outer:List Env) (s:Shared) (H:Hp):Prop where
 frames:A.frames = some outer
 mod:Mod K mg base
 bs:∀ b o,base.get? b = some o→s.heap.get? b = some o∧H b = none
 bsz:base.objs.size≤s.heap.objs.size
 funs:s.heap.FunFrames base outer
 frf:∀ b∈frs outer,H b = none
 hok:HOk P w H s.heap
 bare:AllBare s.gens
 tb:OB K H
noncomputable def CE (outer:List Env) (P:Program) (w:World) (H:Hp) (s:Shared) (Q:VK) (u:Value) (s':Shared):Prop:=
 ∃ v H',s'.os = s.os∧AllBare s'.gens∧Un (frs outer) [] H H' s.heap s'.heap∧HOk P w H' s'.heap∧RelV v u∧Q v H'
noncomputable def CR (CX:CXT) (outer:List Env) (P:Program) (w:World) (H:Hp) (s:Shared) (Q:VK) (E:XK) (r:Result) (s':Shared):Prop:=
 match r with
 | .ok (.ret u)=>CE outer P w H s Q u s'
 | .ok _=>False
 | .error e=>CX outer H s E e s'
structure FnOk (P:Program) (w:World) (K:Frag) (mg:Str→Option Value) (base:Heap) (CX:CXT) (k:Nat) (f:Addr) (fd:FuncData) (ps:List Str) (sp:Sp):Prop where
 len:∀ vs H Q E,sp vs H Q E→vs.length = ps.length
 run:∀ (A:Around) (outer:List Env) (s:Shared) (H:Hp) (args:Args) (us:List Value) (vs:List V) (Q:VK) (E:XK),Room k A→Env0 P w K mg base A outer s H→BindsTo s fd args (ps.zip us)→Vals vs us→sp vs H Q E →
  codeAny (model P w) A (.call (.ref f) args) (CR CX outer P w H s Q E) s
section
variable {X:Cx} {pins:List (Addr × Obj)} {σ:St} {H:Hp} {s s':Shared}
theorem Inv.env0 (I:Inv X pins σ H s):Env0 X.prog X.w X.K X.mg X.base X.A X.stack s H:=
 ⟨I.ok.frames,I.ok.mod,I.bs,Nat.le_trans I.ok.bsz I.sz,I.stack,I.stkFree,I.hok,I.bare,I.tabs⟩
theorem Inv.after {Q:VK} {u:Value} (I:Inv X pins σ H s) (h:CE X.stack X.prog X.w H s Q u s'):EP X pins σ Q u s':=by
 obtain ⟨v,H',os,bare,un,hok,r,q⟩:=h
 obtain ⟨hh,g,d,t,os'⟩:=s'
 obtain rfl:os' = s.os:=os
 exact ⟨v,H',I.call (h':=hh) (g':=g) (d':=d) (t':=t) (ch:=[]) un hok bare (fun b z=>absurd z (by simp)),r,q⟩
end
noncomputable def Mi (sp:Sp) (dvs:List V) (E:XK) (t:TA):TE:=fun σ H Q=>t σ H fun vs H1=>sp (vs ++ dvs) H1 Q E
noncomputable def Binds (K:Frag) (fd:FuncData) (ps:List Str) (ds:List Value):Prop:=
 ∀ (s:Shared) (us:List Value),K.In s.heap→(us ++ ds).length = ps.length→BindsTo s fd ⟨us,[]⟩ (ps.zip (us ++ ds))
theorem Binds.all {K:Frag} {fd:FuncData} {ps:List Str} (h:∀ us:List Value,us.length = ps.length→bindArgs fd ⟨us,[]⟩ = pure (ps.zip us)):Binds K fd ps []:=fun s us _ hl=>by
 rw [List.append_nil] at hl ⊢
 exact .of_eq (h us hl)
noncomputable def Passes (CX:CXT) (X:Cx) (E:XK):Prop:=∀ (pins:List (Addr × Obj)) (σ:St) (H:Hp) (s:Shared) (e:Value) (s':Shared),Inv X pins σ H s→CX X.stack H s E e s'→X.xe e s'
section
variable {X:Cx} {CX:CXT} {k:Nat} {f C:Addr} {fd:FuncData} {ps:List Str} {sp:Sp} {dvs:List V} {ds:List Value} {E:XK} {x m:Str} {p pos apos:Pos} {e o:Expr} {es:List Expr} {ta:TE} {t:TA}
theorem Ve {pins:List (Addr × Obj)} {σ:St} {H:Hp} {s:Shared} {Q:VK} {us:List Value} {vs:List V} (F:FnOk X.prog X.w X.K X.mg X.base CX k f fd ps sp) (hr:Room k X.A) (hb:Binds X.K fd ps ds) (hd:Vals dvs ds) (hx:Passes CX X E)
  (I:Inv X pins σ H s) (r:Vals vs us) (h:sp (vs ++ dvs) H Q E):wpAny (model X.prog X.w) X.A (call (.ref f) us) (EP X pins σ Q) X.xe s:=by
 have r2:Vals (vs ++ dvs) (us ++ ds):=r.append hd
 have hl:(us ++ ds).length = ps.length:=by rw [← r2.length]; exact F.len _ _ _ _ h
 refine wpAny_call (codeAny_mono (F.run X.A X.stack s H ⟨us,[]⟩ (us ++ ds) (vs ++ dvs) Q E hr I.env0 (hb s us I.kIn hl) r2 h) fun r s' hq=>?_)
 cases r with
 | error e=>exact hx pins σ H s e s' I hq
 | ok fl =>
  cases fl with
  | ret u=>exact I.after hq
  | next=>exact False.elim hq
  | brk=>exact False.elim hq
  | cont=>exact False.elim hq
theorem Sf (F:FnOk X.prog X.w X.K X.mg X.base CX k f fd ps sp) (hr:Room k X.A) (hg:Gl X x) (hm:X.mg x = some (.ref f)) (hk:PySem.W.keepIn X.K (.ref f) = true) (hb:Binds X.K fd ps ds) (hd:Vals dvs ds) (hx:Passes CX X E)
  (ha:PA X (e :: es) t) (hdb:(x == ("__debug__" : Str)) = false:=by decide) (he:starEach (e :: es) X.env = (false,eval e X.env) :: starEach es X.env:=by rfl) (hpl:(backTo pos (starEach es X.env)).any (·.1) = false:=by rfl) :
  PE X (.Call (.Name x p) (e :: es) [] pos) (Mi sp dvs E t):=by
 intro pins s σ H Q I h
 refine wpAny_Call_Name_kw (HC I hg hm ?_ hdb)
 refine PySem.W.callWith_K (h₀:=X.base) I.ok.mod.kin hk (thn (ha pos pins s σ H _ I h) fun us s1 ⟨vs,H1,I1,r,q⟩=>⟨I1.kIn,?_⟩) he hpl
 exact Ve F hr hb hd hx I1 r q
end
section
variable {X:Cx} {CX:CXT} {k:Nat} {f C:Addr} {fd:FuncData} {ps ks:List Str} {sp:Sp} {E:XK} {x m:Str} {p pos apos kpos:Pos} {e o:Expr} {es:List Expr} {kws:List Keyword} {te ta:TE} {t tk:TA} {nm:Option Str}
variable {g:List Value→List Value→List Value} {gV:List V→List V→List V}
end
structure FnScope (N P:List Str) (sc:Scope):Prop where
 kind:sc.kind = .function
 co:sc.isCoroutine = false
 gen:sc.isGenerator = false
 nd:N.Nodup
 pre:N.take P.length = P
 par:∀ x∈P,sc.names.lookup x = some .local∨sc.names.lookup x = some .cell
 nofree:∀ y∈sc.names,y.2 ≠ .free
theorem Jl {kindOf:Str→Option NameKind} {x:Str}:∀ {binds:List (Str × Value)} {m:Str→Option Value},(∀ v,(x,v) ∉ binds)→bindL kindOf binds m x = m x
 | [],_,_=>rfl
 | (n,v) :: r,m,h=>by
  unfold bindL
  rw [Jl fun w hw=>h w (List.mem_cons_of_mem _ hw)]
  split
  ·have:x≠n:=by rintro rfl; exact h v List.mem_cons_self
   simp [this]
  ·rfl
theorem Jj {kindOf:Str→Option NameKind} {x:Str}:∀ {binds:List (Str × Value)} {m:Str→Option Value},(∀ v,(x,v) ∉ binds)→bindC kindOf binds m x = m x
 | [],_,_=>rfl
 | (n,v) :: r,m,h=>by
  unfold bindC
  rw [Jj fun w hw=>h w (List.mem_cons_of_mem _ hw)]
  split
  ·rfl
  ·have:x≠n:=by rintro rfl; exact h v List.mem_cons_self
   simp [this]
theorem Jk {kindOf:Str→Option NameKind} {x:Str} {v:Value}:∀ {P:List Str} {vs:List Value} {i:Nat} {m:Str→Option Value},P.Nodup→P[i]? = some x→vs[i]? = some v→kindOf x = some .local →
  bindL kindOf (P.zip vs) m x = some v
 | [],_,_,_,_,h,_,_=>by simp at h
 | _ :: _,[],_,_,_,_,h,_=>by simp at h
 | p :: P,w :: vs,0,m,nd,h1,h2,hk=>by
  simp at h1 h2; subst h1; subst h2
  show bindL kindOf ((p,w) :: P.zip vs) m p = _
  unfold bindL
  rw [Jl fun v hv=>(List.nodup_cons.mp nd).1 (List.of_mem_zip hv).1,if_pos hk]
  simp
 | p :: P,w :: vs,i + 1,m,nd,h1,h2,hk=>by
  show bindL kindOf ((p,w) :: P.zip vs) m x = _
  unfold bindL
  exact Jk (i:=i) (List.nodup_cons.mp nd).2 (by simpa using h1) (by simpa using h2) hk
theorem Ji {kindOf:Str→Option NameKind} {x:Str} {v:Value}:∀ {P:List Str} {vs:List Value} {i:Nat} {m:Str→Option Value},P.Nodup→P[i]? = some x→vs[i]? = some v→kindOf x≠some .local →
  bindC kindOf (P.zip vs) m x = some v
 | [],_,_,_,_,h,_,_=>by simp at h
 | _ :: _,[],_,_,_,_,h,_=>by simp at h
 | p :: P,w :: vs,0,m,nd,h1,h2,hk=>by
  simp at h1 h2; subst h1; subst h2
  show bindC kindOf ((p,w) :: P.zip vs) m p = _
  unfold bindC
  rw [Jj fun v hv=>(List.nodup_cons.mp nd).1 (List.of_mem_zip hv).1,if_neg hk]
  simp
 | p :: P,w :: vs,i + 1,m,nd,h1,h2,hk=>by
  show bindC kindOf ((p,w) :: P.zip vs) m x = _
  unfold bindC
  exact Ji (i:=i) (List.nodup_cons.mp nd).2 (by simpa using h1) (by simpa using h2) hk
noncomputable def start (N:List Str) (vs:List V):St:=vs.map some ++ List.replicate (N.length - vs.length) none
noncomputable def AI (CX:CXT) (P:Program) (w:World) (K:Frag) (mg:Str→Option Value) (base:Heap) (N:List Str) (qual:Str) (scope:Scope) (f:Addr) (cd:Value) (A:Around) (outer:List Env) (s:Shared) (H:Hp) (E:XK):Cx where
 prog:=P
 w:=w
 K:=K
 mg:=mg
 base:=base
 A:=A.deeper (envOfC qual scope s.heap.objs.size f cd)
 N:=N
 s₀:=s
 H₀:=H
 env:=envOfC qual scope s.heap.objs.size f cd
 outer:=outer
 stack:=envOfC qual scope s.heap.objs.size f cd :: outer
 ex:=[]
 calm:=true
 fn:=fun _=>true
 pn:=[]
 xe:=fun e s'=>wpAny (model P w) (A.deeper (envOfC qual scope s.heap.objs.size f cd)) (leaving (envOfC qual scope s.heap.objs.size f cd) e) (fun _ s''=>CX outer H s E e s'') (fun e' s''=>CX outer H s E e' s'') s'
theorem Lg {sc:Scope} {n:Nat} {x:Str} (h:sc.names.lookup x = some .cell):∃ c,(cellsFrom n sc.names []).lookup x = some c:=by
 have q:=PySem.W.cellsFrom_some sc.names n [] (.inl h)
 exact Option.isSome_iff_exists.mp q
theorem GS {CX:CXT} {P:Program} {w:World} {K:Frag} {mg:Str→Option Value} {base:Heap} {N ps:List Str} {qual:Str} {scope:Scope} {f:Addr} {cd:Value} {A:Around} {outer:List Env} {s s1:Shared} {H:Hp} {E:XK} {us:List Value} {vs:List V}
  (S:FnScope N ps scope) (hd:A.handled = none) (e0:Env0 P w K mg base A outer s H) (hl:vs.length = ps.length) (r:Vals vs us)
  (x:InCallC s s.heap.objs.size (bindL (envOfC qual scope s.heap.objs.size f cd).kindOf (ps.zip us) fun _=>none) (cellsFrom (s.heap.objs.size + 1) scope.names []) (bindC (envOfC qual scope s.heap.objs.size f cd).kindOf (ps.zip us) fun _=>none) s1) :
  Inv (AI CX P w K mg base N qual scope f cd A outer s H E) [] (start N vs) H s1:=by
 have hpl:ps.length≤N.length:=by have:=congrArg List.length S.pre; rw [List.length_take] at this; lia
 obtain ⟨h1,tk,rfl,hk⟩:=x.done
 have noA:∀ b:Addr,b ∉ (AI CX P w K mg base N qual scope f cd A outer s H E).ex:=fun b z=>absurd (show b∈([]:List Addr) from z) (by simp)
 refine ⟨⟨e0.mod,S.kind,rfl,rfl,Nat.le_refl _,fun y z c h1 h2=>?_,fun y hy=>?_,fun y c _ h=>?_,fun _=>hd,Around.frames_deeper e0.frames,.inr ⟨rfl,rfl⟩,fun b z=>absurd z (noA b),e0.bs,e0.bsz,fun b _ _=>noA b,fun b z=>absurd z (noA b),e0.funs,e0.frf,e0.tb⟩,
  rfl,e0.bare,Un.kept hk,⟨_,x.toInCall.ns,fun i y v h1 h2 h3=>?_⟩,fun y c h=>⟨_,x.cell y c h⟩,e0.hok.fresh (Nat.le_refl _),fun y c h=>?_,fun p hp=>absurd (show p∈([]:List (Addr × Obj)) from hp) (by simp),e0.hok.kept hk,?_⟩
 ·exact name_of_addr x.apart (PySem.mem_of_lookup h1) (PySem.mem_of_lookup h2)
 ·have hy:scope.names.lookup y = some .cell∨scope.names.lookup y = some .free:=hy
  rcases hy with hy | hy
  ·exact Lg hy
  ·exact absurd rfl (S.nofree _ (PySem.mem_of_lookup hy))
 ·exact Nat.le_of_lt (x.above y c (PySem.mem_of_lookup h))
 ·have hi:i < vs.length:=by
   unfold start at h2
   by_cases hi:i < vs.length
   ·exact hi
   ·rw [List.getElem?_append_right (by simpa using hi)] at h2
    rw [List.getElem?_replicate] at h2
    split at h2 <;> cases h2
  have ha:vs[i]? = some v:=by
   unfold start at h2
   rw [List.getElem?_append_left (by simpa using hi),List.getElem?_map] at h2
   cases e:vs[i]? with
   | none=>rw [e] at h2; cases h2
   | some a=>rw [e] at h2; cases h2; rfl
  obtain ⟨u,hu,rv⟩:=r.get ha
  have hp:ps[i]? = some y:=by
   rw [← S.pre,List.getElem?_take_of_lt (by lia)]; exact h1
  have ndP:ps.Nodup:=by rw [← S.pre]; exact S.nd.sublist (List.take_sublist _ _)
  refine ⟨u,rv,?_⟩
  rcases S.par y (List.mem_of_getElem? hp) with k | k
  ·exact .inl ⟨k,Jk ndP hp hu k⟩
  ·obtain ⟨c,e⟩:=Lg (n:=s.heap.objs.size + 1) k
   refine .inr ⟨.inl k,c,e,?_⟩
   have q:=x.cell y c e
   rw [Ji ndP hp hu (by show scope.names.lookup y≠_; rw [k]; decide)] at q
   exact q
 ·exact e0.hok.fresh (Nat.le_of_lt (x.above y c (PySem.mem_of_lookup h)))
 ·unfold start
  show _ = N.length
  rw [List.length_append,List.length_map,List.length_replicate]
  lia
theorem PN {CX:CXT} {P:Program} {w:World} {K:Frag} {mg:Str→Option Value} {base:Heap} {k:Nat} {f:Addr} {name qual:Str} {params:Arguments} {body:List Stmt} {scope:Scope} {dV kV doc pm cdv ct oc:Value} {an od:Option Addr}
  {osl:Array (Option Value)} {N ps:List Str} {sp:Sp} (lk:K.lookup f = some ⟨oc,od,.func (PySem.W.fnOf name qual params body scope dV kV doc pm an cdv ct),osl⟩) (hcd:PySem.W.codeIn K cdv qual = true) (S:FnScope N ps scope)
  (len:∀ vs H Q E,sp vs H Q E→vs.length = ps.length)
  (hbody:∀ (A:Around) (outer:List Env) (s:Shared) (H:Hp) (vs:List V) (Q:VK) (E:XK),Room k (A.deeper (envOfC qual scope s.heap.objs.size f cdv))→sp vs H Q E →
   ∃ t,PSs (AI CX P w K mg base N qual scope f cdv A outer s H E) body t∧t { nx:=fun _ H'=>Q .non H',rt:=Q } (start N vs) H) :
  FnOk P w K mg base CX (k + 1) f (PySem.W.fnOf name qual params body scope dV kV doc pm an cdv ct) ps sp:=by
 refine ⟨len,fun A outer s H args us vs Q E hr e0 hb r hsp=>?_⟩
 have hl:=len _ _ _ _ hsp
 have KX:K.In s.heap:=e0.mod.kin.keeps fun b o e=>(e0.bs b o e).1
 have lim:s.heap.NoLimit:=e0.mod.nolimit.keeps fun b o e=>(e0.bs b o e).1
 have hkind:∀ y∈ps.zip us,scope.names.lookup y.1 = some .local∨(scope.names.lookup y.1 = some .cell∧((cellsFrom (s.heap.objs.size + 1) scope.names []).lookup y.1).isSome = true):=fun ⟨n,v⟩ hy=>by
  rcases S.par n (List.of_mem_zip hy).1 with q | q
  ·exact .inl q
  ·exact .inr ⟨q,PySem.W.cellsFrom_some _ _ _ (.inl q)⟩
 refine codeAny_call_function hr.depth (KX _ _ lk) rfl S.co S.gen rfl (PySem.W.codeRec_of KX hcd) (hb _ _ _ _ ?_)
 refine wpAny_newFunctionEnv_cells S.kind hkind fun env he s1 x=>?_
 subst he
 refine ⟨lim.keeps x.toInCall.keep,codeAny_func ?_⟩
 obtain ⟨t,ht,hq⟩:=hbody A outer s H vs Q E (hr.deeper _) hsp
 have I:Inv (AI CX P w K mg base N qual scope f cdv A outer s H E) [] (start N vs) H s1:=GS S hr.hd e0 hl r x
 refine wpAny_mono (ht [] s1 (start N vs) H _ I hq) (fun fl s' hs=>?_) fun e s' hs=>hs
 have fin:∀ {σ':St} {H':Hp} {v:V} {u:Value},Inv (AI CX P w K mg base N qual scope f cdv A outer s H E) [] σ' H' s'→RelV v u→Q v H'→CE outer P w H s Q u s':=
  fun {σ' H' v u} J rv q=>⟨v,H',J.os,J.bare,J.base,J.hok,rv,q⟩
 cases fl with
 | ret u =>
  obtain ⟨v,σ',H',J,rv,q⟩:=hs
  exact fin J rv q
 | next =>
  obtain ⟨σ',H',J,q⟩:=hs
  exact fin (v:=V.non) (u:=Value.none) J rfl q
 | brk =>
  obtain ⟨_,_,_,q⟩:=hs
  exact False.elim q
 | cont =>
  obtain ⟨_,_,_,q⟩:=hs
  exact False.elim q
end L2
namespace L2
open PySem PySem.Spec PyProof.Rows
section
variable {X:Cx} {x:Str} {p pos:Pos} {e:Expr} {es:List Expr} {t:TA} {id T:String} {r:List V→Hp→VK→Prop}
noncomputable def tCB (r:List V→Hp→VK→Prop) (t:TA):TE:=fun σ H Q=>t σ H fun vs H1=>r vs H1 Q
theorem Io (hc:Cc X (.builtin id) r) (hg:Gl X x) (hm:X.mg x = none) (hv:bootBuiltins x = some (.builtin id)) (ha:PA X (e :: es) t) (hn:x ≠ "__name__" := by decide) (hdb:(x == ("__debug__" : Str)) = false:=by decide)
  (he:starEach (e :: es) X.env = (false,eval e X.env) :: starEach es X.env:=by rfl) (hpl:(backTo pos (starEach es X.env)).any (·.1) = false:=by rfl):PE X (.Call (.Name x p) (e :: es) [] pos) (tCB r t):=by
 intro pins s σ H Q I h
 refine wpAny_Call_Name_kw (F2 I hg hm hv ?_ hn hdb)
 exact PyProof.Rows.callWith_builtin1 (thn (ha pos pins s σ H _ I h) fun us s1 ⟨vs,H1,I1,r1,q1⟩=>hc pins s1 σ H1 vs us Q I1 r1 q1) he hpl
theorem O7 (hc:Cc X (.type T) r) (hg:Gl X x) (hm:X.mg x = none) (hv:bootBuiltins x = some (.type T)) (ha:PA X (e :: es) t) (hn:x ≠ "__name__" := by decide) (hdb:(x == ("__debug__" : Str)) = false:=by decide)
  (he:starEach (e :: es) X.env = (false,eval e X.env) :: starEach es X.env:=by rfl) (hpl:(backTo pos (starEach es X.env)).any (·.1) = false:=by rfl):PE X (.Call (.Name x p) (e :: es) [] pos) (tCB r t):=by
 intro pins s σ H Q I h
 refine wpAny_Call_Name_kw (F2 I hg hm hv ?_ hn hdb)
 exact PyProof.Rows.callWith_type1 (thn (ha pos pins s σ H _ I h) fun us s1 ⟨vs,H1,I1,r1,q1⟩=>hc pins s1 σ H1 vs us Q I1 r1 q1) he hpl
end
end L2
namespace HT
open PySem PyProof.Rows
section
open PySem.SeqAt
open PySem.AutoSeq1 (wpAny_loadPart')
open PySem.MeetsSeq PySem.MeetsSeq2 PySem.MeetsSeq3
end
section
variable {prog:Program} {w:World} {A:Around} {E:Value→Shared→Prop} {s:Shared}
end
end HT
namespace L2
open PySem PySem.Spec PyProof.Rows
noncomputable abbrev TO:=St→Hp→(Option Int→Hp→Prop)→Prop
noncomputable def PO (X:Cx) (e:Option Expr) (t:TO):Prop:=
 ∀ (pins:List (Addr × Obj)) (s:Shared) (σ:St) (H:Hp) (Q:Option Int→Hp→Prop),Inv X pins σ H s→t σ H Q →
  wpAny (model X.prog X.w) X.A (evalPart e X.env) (fun u s'=>∃ o H',Inv X pins σ H' s'∧IsPart u o∧Q o H') X.xe s
noncomputable def SY:TO:=fun _ H Q=>Q none H
noncomputable def Wv (t:TE):TO:=fun σ H Q=>t σ H fun x H1=>∃ i,x = .int i∧Q (some i) H1
section
variable {X:Cx} {e:Expr} {te:TE} {lo hi:Option Expr} {tl th:TO} {pos p2:Pos}
theorem So:PO X none SY:=by
 intro pins s σ H Q I h
 rw [evalPart_none]
 exact wpAny_pure ⟨none,H,I,.none,h⟩
theorem Sq (h:PE X e te):PO X (some e) (Wv te):=by
 intro pins s σ H Q I hw
 rw [evalPart_some]
 refine thn (h pins s σ H _ I hw) fun u s1 yy=>?_
 obtain ⟨x,H1,I1,r1,q1⟩:=yy
 obtain ⟨i,rfl,q⟩:=q1
 obtain ⟨t,rfl⟩:=r1
 exact ⟨some i,H1,I1,.int i t,q⟩
noncomputable def SlR (X:Cx) (r:V→Option Int→Option Int→Hp→VK→Prop):Prop:=
 ∀ (pins:List (Addr × Obj)) (s:Shared) (σ:St) (H:Hp) (x:V) (v vl vu:Value) (lo hi:Option Int) (sl:Addr) (Q:VK),Inv X pins σ H s→RelV x v→s.heap.IsSliceOf sl vl vu .none→IsPart vl lo→IsPart vu hi→r x lo hi H Q →
  ∃ T id,typeLookup (.type T) "__getitem__" = pure (some (.builtin id))∧s.TypeIs v T∧wpAny (model X.prog X.w) X.A (getItem v (.ref sl)) (EP X pins σ Q) X.xe s
noncomputable def tSl (r:V→Option Int→Option Int→Hp→VK→Prop) (te:TE) (tl th:TO):TE:=fun σ H Q=>te σ H fun x H1=>tl σ H1 fun l H2=>th σ H2 fun u H3=>r x l u H3 Q
theorem QM {r:V→Option Int→Option Int→Hp→VK→Prop} (hr:SlR X r) (he:PE X e te) (hl:PO X lo tl) (hu:PO X hi th):PE X (.Subscript e (.Slice lo hi none p2) pos) (tSl r te tl th):=by
 intro pins s σ H Q I h
 refine Subscript_ (thn (he pins s σ H _ I h) fun v s1 yy=>?_)
 obtain ⟨x,H1,I1,r1,q1⟩:=yy
 refine wpAny_Slice (thn (hl pins s1 σ H1 _ I1 q1) fun vl s2 ⟨l,H2,I2,pl,q2⟩=>thn (hu pins s2 σ H2 _ I2 q2) fun vu s3 yy=>?_)
 obtain ⟨u,H3,I3,pu,q3⟩:=yy
 rw [evalPart_none]
 refine wpAny_pure ?_
 have I4:Inv X pins σ H3 { s3 with heap:=s3.heap.push { cls:=.type "slice",data:=.fields #[vl,vu,.none] } }:=I3.kept (t':=s3.toks) fun b ob q=>Heap.get?_push_of_some _ q
 obtain ⟨T,id,hT,ht,hg⟩:=hr pins { s3 with heap:=s3.heap.push { cls:=.type "slice",data:=.fields #[vl,vu,.none] } } σ H3 x v vl vu l u s3.heap.objs.size Q I4 r1 (Heap.IsSliceOf.new ..) pl pu q3
 show wpAny (model X.prog X.w) X.A (subscriptTail e (.Slice lo hi none p2) v (.ref s3.heap.objs.size)) (EP X pins σ Q) X.xe { s3 with heap:=s3.heap.push { cls:=.type "slice",data:=.fields #[vl,vu,.none] } }
 exact tail_any (ops:=[.ref s3.heap.objs.size,v]) ht hT hg (by with_unfolding_all rfl)
end
end L2
namespace L2
open PySem PySem.Spec PyProof.Rows
noncomputable def ixN (n:Nat) (i:Int):Option Nat:=if 0≤i then (if i < n then some i.toNat else none) else if -(n:Int)≤i then some (i + n).toNat else none
noncomputable def atI {α:Type} (xs:List α) (i:Int):Option α:=(ixN xs.length i).bind fun j=>xs[j]?
theorem N2 {n:Nat} {i:Int} {j:Nat} (h:ixN n i = some j):seqIndex? i n = some j∧j < n ∧ -(n:Int)≤i∧i < n:=by
 unfold ixN at h
 by_cases h0:0≤i
 ·rw [if_pos h0] at h
  by_cases h1:i < n
  ·rw [if_pos h1] at h
   have e:i.toNat = j:=Option.some.inj h
   exact ⟨by rw [seqIndex_of h0 h1,e],by lia,by lia,h1⟩
  ·rw [if_neg h1] at h; cases h
 ·rw [if_neg h0] at h
  by_cases h1 : -(n:Int)≤i
  ·rw [if_pos h1] at h
   have e:(i + n).toNat = j:=Option.some.inj h
   exact ⟨by rw [seqIndex_neg (by lia) h1,e],by lia,h1,by lia⟩
  ·rw [if_neg h1] at h; cases h
theorem BK {α:Type} {xs:List α} {i:Int} {v:α} (h:atI xs i = some v):∃ j,seqIndex? i xs.length = some j∧xs[j]? = some v∧j < xs.length ∧ -(xs.length:Int)≤i∧i < xs.length:=by
 unfold atI at h
 cases e:ixN xs.length i with
 | none=>rw [e] at h; cases h
 | some j =>
  rw [e] at h
  obtain ⟨h1,h2,h3,h4⟩:=N2 e
  exact ⟨j,h1,h,h2,h3,h4⟩
theorem Px {α:Type} (xs:List α) (v:α):atI (xs ++ [v]) (-1) = some v:=by
 have hl:(xs ++ [v]).length = xs.length + 1:=by simp
 have e:ixN (xs ++ [v]).length (-1) = some xs.length:=by
  unfold ixN
  rw [hl,if_neg (by decide),if_pos (by lia)]
  congr 1
  lia
 unfold atI
 rw [e]
 show (xs ++ [v])[xs.length]? = some v
 simp
noncomputable def NS (b:Expr):Prop:=∀ o i,subscripted b false o i = operate [o,i] (getItem o i)
noncomputable def IxR (X:Cx) (r:R2):Prop:=
 ∀ (value slice:Expr) (pins:List (Addr × Obj)) (s:Shared) (σ:St) (H:Hp) (x y:V) (v u:Value) (Q:VK),Inv X pins σ H s→RelV x v→RelV y u→r x y H Q →
  subscripted slice false v u = operate [v,u] (getItem v u)→wpAny (model X.prog X.w) X.A (subscriptTail value slice v u) (EP X pins σ Q) X.xe s
noncomputable def MtR (X:Cx) (id:String) (r:V→List V→Hp→VK→Prop):Prop:=
 ∀ (pins:List (Addr × Obj)) (s:Shared) (σ:St) (H:Hp) (x:V) (xs:List V) (v:Value) (us:List Value) (Q:VK),Inv X pins σ H s→RelV x v→Vals xs us→r x xs H Q →
  wpAny (model X.prog X.w) X.A (call (.builtin id) (v :: us)) (EP X pins σ Q) X.xe s
section
variable {X:Cx} {a b:Expr} {ta tb:TE} {pos:Pos}
theorem IxR.or {r r':R2} (h:IxR X r) (h':IxR X r'):IxR X (fun x y H Q=>r x y H Q∨r' x y H Q):=by
 intro value slice pins s σ H x y v u Q I rx ry q hs
 rcases q with q | q
 ·exact h value slice pins s σ H x y v u Q I rx ry q hs
 ·exact h' value slice pins s σ H x y v u Q I rx ry q hs
theorem Wd {r:R2} (hr:IxR X r) (ha:PE X a ta) (hb:PE X b tb) (hs:NS b):PE X (.Subscript a b pos) (tOp r ta tb):=by
 intro pins s σ H Q I h
 exact Subscript_ (Tx ha hb I h fun v u s2 x y H2 I2 rx ry q=>hr a b pins s2 σ H2 x y v u Q I2 rx ry q (hs _ _))
noncomputable def Wj (K:Frag):R2:=fun x y H Q=>∃ p xs i v,x = .ref p∧y = .int i∧SqL K H p xs∧atI xs i = some v∧Q v H
noncomputable def Wl (K:Frag):R2:=fun x y H Q=>∃ p xs i v,x = .ref p∧y = .int i∧SqT K H p xs∧atI xs i = some v∧Q v H
noncomputable def Wk:R2:=fun x y H Q=>∃ z i c,x = .str z∧y = .int i∧z.length≤sizeLine∧atI z.cps.toList i = some c∧Q (.str ⟨#[c]⟩) H
theorem RO:IxR X (Wj X.K):=by
 intro value slice pins s σ H x y v u Q I rx ry h hs
 obtain ⟨p,xs,i,z,rfl,rfl,hq,he,q⟩:=h
 cases rx
 obtain ⟨t,rfl⟩:=ry
 obtain ⟨its,r,pl,hz⟩:=I.list hq
 obtain ⟨j,h1,h2,h3,h4,h5⟩:=BK he
 obtain ⟨w,ew,rw'⟩:=r.get h2
 have hl:=r.length
 have hn:=GV
 have fin:EP X pins σ Q w s:=⟨z,H,I,rw',q⟩
 by_cases h0:0≤i
 ·have hj:i.toNat = j:=by
   rw [seqIndex_of h0 h5] at h1
   exact Option.some.inj h1
  exact item_listR pl.isList h0 (by lia) (by rw [hj]; simpa using ew) fin hs
 ·have hj:(i + (its.toArray.size:Int)).toNat = j:=by
   rw [seqIndex_neg (by lia) h4] at h1
   rw [List.size_toArray,← hl]
   exact Option.some.inj h1
  exact subscriptTail_builtinR (x:=w) pl.isList.typeIs slot_list_getitem.lookup
   (wpAny_getItem_list_neg (Q:=fun r s'=>r = w∧EP X pins σ Q r s') pl.isList (by lia) (by rw [List.size_toArray] <;> lia) (by lia) (by rw [hj]; simpa using ew) ⟨rfl,fin⟩) hs
theorem T7:IxR X (Wl X.K):=by
 intro value slice pins s σ H x y v u Q I rx ry h hs
 obtain ⟨p,xs,i,z,rfl,rfl,hq,he,q⟩:=h
 cases rx
 obtain ⟨t,rfl⟩:=ry
 obtain ⟨its,r,pl,hz⟩:=I.tuple hq
 obtain ⟨j,h1,h2,h3,h4,h5⟩:=BK he
 obtain ⟨w,ew,rw'⟩:=r.get h2
 have hl:=r.length
 have hn:=GV
 have fin:EP X pins σ Q w s:=⟨z,H,I,rw',q⟩
 exact subscriptTail_builtinR (x:=w) pl.typeIs slot_tuple_getitem.lookup
  (getItem_tuple (j:=j) (Q:=fun r s'=>r = w∧EP X pins σ Q r s') pl (by lia) (by lia) (by rw [List.size_toArray,← hl]; exact h1) (by simpa using ew) ⟨rfl,fin⟩) hs
theorem T6:IxR X Wk:=by
 intro value slice pins s σ H x y v u Q I rx ry h hs
 obtain ⟨z,i,c,rfl,rfl,hz,he,q⟩:=h
 obtain ⟨t,rfl⟩:=rx
 obtain ⟨t',rfl⟩:=ry
 obtain ⟨j,h1,h2,h3,h4,h5⟩:=BK he
 have hl:z.cps.toList.length = z.length:=by simp [Str.length]
 rw [hl] at h1 h4 h5
 have hn:=GV
 exact tail_any (typeIs_str s z t) slot_str_getitem.lookup (getItem_str (c:=c) (by
  have e1:decide (i < -(2 ^ 63:Int)) = false:=decide_eq_false (by lia)
  have e2:decide (i ≥ 2 ^ 63) = false:=decide_eq_false (by lia)
  rw [e1,e2,Bool.or_false]) (by rw [h1]; simpa using h2) ⟨.str ⟨#[c]⟩,H,I.tok _,⟨_,rfl⟩,q⟩) hs
noncomputable def rIx (K:Frag):R2:=fun x y H Q=>Wj K x y H Q∨Wl K x y H Q∨Wk x y H Q
theorem AD:IxR X (rIx X.K):=RO.or (T7.or T6)
theorem M0 (its:List Value) (n j:Nat) (u:Value):Obj.mapSeq (·.setIfInBounds j u) { cls:=.type "list",data:=.seq its.toArray n } = { cls:=.type "list",data:=.seq (its.set j u).toArray n }:=by
 simp [Obj.mapSeq]
theorem Inv.lst {pins:List (Addr × Obj)} {σ:St} {H:Hp} {s:Shared} {p:Addr} {xs:List V} (I:Inv X pins σ H s) (h:H p = some (.lst xs)) :
  ∃ (its:List Value) (n:Nat),Vals xs its∧s.heap.get? p = some { cls:=.type "list",data:=.seq its.toArray n }∧xs.length≤sizeLine:=by
 obtain ⟨z,its,n,r,e⟩:=I.hok p _ h
 exact ⟨its,n,r,e,z⟩
theorem Inv.lstUpd {pins:List (Addr × Obj)} {σ:St} {H:Hp} {s:Shared} {p:Addr} {xs ys:List V} {its its':List Value} {n n':Nat} {f:Obj→Obj} (I:Inv X pins σ H s) (h:H p = some (.lst xs))
  (ho:s.heap.get? p = some { cls:=.type "list",data:=.seq its.toArray n }) (hf:f { cls:=.type "list",data:=.seq its.toArray n } = { cls:=.type "list",data:=.seq its'.toArray n' }) (r:Vals ys its') (hz:ys.length≤sizeLine) (t:Nat) :
  Inv X pins σ (upd H p (.lst ys)) { s with heap:=s.heap.update p f,toks:=t }:=by
 have e:(s.heap.update p f).get? p = some { cls:=.type "list",data:=.seq its'.toArray n' }:=by
  rw [Heap.get?_update_self f ho (by rw [hf] <;> rfl),hf]
 refine I.write (x:=p) (e:=p) (by rw [h]; trivial) (.inl rfl) (fun b u hb q=>(Heap.get?_update_other _ _ (Ne.symm hb)).trans q) ⟨_,e⟩ ?_
 exact ⟨hz,its',n',r,e⟩
noncomputable def Tn:V→V→V→Hp→(Hp→Prop)→Prop:=fun o i v H Q=>∃ p xs k j,o = .ref p∧i = .int k∧H p = some (.lst xs)∧ixN xs.length k = some j∧Q (upd H p (.lst (xs.set j v)))
theorem set_list:VL X Tn:=by
 intro pins s σ H o i v ov iv u Q I ro ri rv h
 obtain ⟨p,xs,k,j,rfl,rfl,hp,hj,q⟩:=h
 cases ro
 obtain ⟨t,rfl⟩:=ri
 obtain ⟨its,n,r,ho,hz⟩:=I.lst hp
 obtain ⟨h1,h2,h3,h4⟩:=N2 hj
 have hl:=r.length
 have hn:=GV
 have I':Inv X pins σ (upd H p (.lst (xs.set j v))) { s with heap:=s.heap.update p (Obj.mapSeq (·.setIfInBounds j u)) }:=
  I.lstUpd hp ho (M0 its n j u) (r.set rv j) (by rw [List.length_set]; exact hz) s.toks
 by_cases h0:0≤k
 ·have hk:k.toNat = j:=by
   rw [seqIndex_of h0 h4] at h1
   exact Option.some.inj h1
  exact PySem.W.ki_setAt ho h0 (by lia) (by rw [List.size_toArray,← hl]; exact h4) (by rw [hk]; exact ⟨_,I',q⟩)
 ·have hk:(k + (its.toArray.size:Int)).toNat = j:=by
   rw [seqIndex_neg (by lia) h3] at h1
   rw [List.size_toArray,← hl]
   exact Option.some.inj h1
  exact PySem.W.ki_setBack ho (by lia) (by rw [List.size_toArray,← hl]; exact h3) (by lia) (by rw [hk]; exact ⟨_,I',q⟩)
noncomputable def FI:V→Bool
 | .non=>true
 | .bl _=>true
 | .int _=>true
 | .str _=>true
 | _=>false
noncomputable def eqV:V→V→Bool
 | .non,.non=>true
 | .bl a,.bl b=>a == b
 | .bl a,.int b=>(if a then 1 else 0) == b
 | .int a,.bl b=>a == (if b then 1 else 0)
 | .int a,.int b=>a == b
 | .str a,.str b=>a == b
 | _,_=>false
theorem TC {A:Around} {s:Shared} {y x:V} {u v:Value} (ry:RelV y u) (rx:RelV x v) (fy:FI y = true) (fx:FI x = true):SeqAt.EqAt A s u v (eqV y x):=by
 cases y with
 | non =>
  cases ry
  cases x with
  | non=>cases rx; exact SeqAt.EqAt.same _
  | bl b=>cases rx; exact SeqAt.EqAt.none_bool b
  | int b=>obtain ⟨t,rfl⟩:=rx; exact SeqAt.EqAt.none_int b t
  | str b=>obtain ⟨t,rfl⟩:=rx; exact SeqAt.EqAt.none_str b t
  | _=>exact absurd (show false = true from fx) Bool.false_ne_true
 | bl a =>
  cases ry
  cases x with
  | non=>cases rx; exact SeqAt.EqAt.bool_none a
  | bl b=>cases rx; exact SeqAt.EqAt.bool_bool a b
  | int b=>obtain ⟨t,rfl⟩:=rx; exact SeqAt.EqAt.bool_int a b t
  | str b=>obtain ⟨t,rfl⟩:=rx; exact SeqAt.EqAt.bool_str a b t
  | _=>exact absurd (show false = true from fx) Bool.false_ne_true
 | int a =>
  obtain ⟨t',rfl⟩:=ry
  cases x with
  | non=>cases rx; exact SeqAt.EqAt.int_none a t'
  | bl b=>cases rx; exact SeqAt.EqAt.int_bool a t' b
  | int b=>obtain ⟨t,rfl⟩:=rx; exact SeqAt.EqAt.int_int a t' b t
  | str b=>obtain ⟨t,rfl⟩:=rx; exact SeqAt.EqAt.int_str a t' b t
  | _=>exact absurd (show false = true from fx) Bool.false_ne_true
 | str a =>
  obtain ⟨t',rfl⟩:=ry
  cases x with
  | non=>cases rx; exact SeqAt.EqAt.str_none a t'
  | bl b=>cases rx; exact SeqAt.EqAt.str_bool a t' b
  | int b=>obtain ⟨t,rfl⟩:=rx; exact SeqAt.EqAt.str_int a t' b t
  | str b=>obtain ⟨t,rfl⟩:=rx; exact SeqAt.EqAt.str_str a t' b t
  | _=>exact absurd (show false = true from fx) Bool.false_ne_true
 | _=>exact absurd (show false = true from fy) Bool.false_ne_true
noncomputable def eqU (x:V) (u:Value):Bool:=match u with
 | .none=>eqV .non x
 | .bool b=>eqV (.bl b) x
 | .int i _=>eqV (.int i) x
 | .str z _=>eqV (.str z) x
 | _=>false
theorem PK {x y:V} {u:Value} (r:RelV y u) (f:FI y = true):eqU x u = eqV y x:=by
 cases y with
 | non=>cases r; rfl
 | bl b=>cases r; rfl
 | int i=>obtain ⟨t,rfl⟩:=r; rfl
 | str z=>obtain ⟨t,rfl⟩:=r; rfl
 | _=>exact absurd (show false = true from f) Bool.false_ne_true
theorem Hw {x:V} {xs:List V} {us:List Value} (h:Vals xs us):xs.all FI = true→us.any (eqU x) = xs.any fun y=>eqV y x:=by
 induction h with
 | nil=>exact fun _=>rfl
 | cons r t ih =>
  intro f
  rw [List.all_cons,Bool.and_eq_true] at f
  rw [List.any_cons,List.any_cons,PK r f.1,ih f.2]
theorem Fc {A:Around} {s:Shared} {x:V} {v:Value} (rx:RelV x v) (fx:FI x = true):∀ {xs:List V} {us:List Value},Vals xs us→xs.all FI = true→∀ u∈us,SeqAt.EqAt A s u v (eqU x u)
 | _,_,.nil,_=>fun u hu=>by cases hu
 | y :: xs,u :: us,.cons r t,f=>fun u' hu=>by
  rw [List.all_cons,Bool.and_eq_true] at f
  rcases List.mem_cons.mp hu with rfl | hu
  ·rw [PK r f.1]; exact TC r rx f.1 fx
  ·exact Fc rx fx t f.2 u' hu
noncomputable def inV (x:V) (xs:List V):Bool:=xs.any fun y=>eqV y x
noncomputable def rIn (K:Frag) (neg:Bool):R2:=fun x y H Q=>∃ p xs,y = .ref p∧(SqL K H p xs∨SqT K H p xs)∧FI x = true∧xs.all FI = true∧Q (.bl (if neg then !inV x xs else inV x xs)) H
theorem O1:OpR X (compareOp .In) (rIn X.K false):=by
 intro pins s σ H x y v u Q I rx ry h
 obtain ⟨p,xs,rfl,hq,fx,fs,q⟩:=h
 cases ry
 rcases hq with hq | hq
 ·obtain ⟨its,r,pl,hz⟩:=I.list hq
  refine SeqAt.in_listAt (eqU x) pl.isList (fun w hw=>Fc rx fx r fs w (by simpa using hw)) ⟨.bl _,H,I,rfl,?_⟩
  rw [show its.toArray.any (eqU x) = its.any (eqU x) by simp,Hw r fs]
  exact q
 ·obtain ⟨its,r,pl,hz⟩:=I.tuple hq
  refine SeqAt.in_tupleAt (eqU x) pl (fun w hw=>Fc rx fx r fs w (by simpa using hw)) ⟨.bl _,H,I,rfl,?_⟩
  rw [show its.toArray.any (eqU x) = its.any (eqU x) by simp,Hw r fs]
  exact q
theorem Ku:OpR X (compareOp .NotIn) (rIn X.K true):=by
 intro pins s σ H x y v u Q I rx ry h
 obtain ⟨p,xs,rfl,hq,fx,fs,q⟩:=h
 cases ry
 rcases hq with hq | hq
 ·obtain ⟨its,r,pl,hz⟩:=I.list hq
  refine SeqAt.notIn_listAt (eqU x) pl.isList (fun w hw=>Fc rx fx r fs w (by simpa using hw)) ⟨.bl _,H,I,rfl,?_⟩
  rw [show its.toArray.any (eqU x) = its.any (eqU x) by simp,Hw r fs]
  exact q
 ·obtain ⟨its,r,pl,hz⟩:=I.tuple hq
  refine SeqAt.notIn_tupleAt (eqU x) pl (fun w hw=>Fc rx fx r fs w (by simpa using hw)) ⟨.bl _,H,I,rfl,?_⟩
  rw [show its.toArray.any (eqU x) = its.any (eqU x) by simp,Hw r fs]
  exact q
theorem Kv:OpR X (compareOp .NotIn) (fun x y H Q=>∃ i j,x = .str i∧y = .str j∧Q (.bl (!(!(Builtin.Str.occurrences j i 0 j.length 1).isEmpty))) H):=by
 intro pins s σ H x y v u Q I rx ry h
 obtain ⟨i,j,rfl,rfl,q⟩:=h
 obtain ⟨t,rfl⟩:=rx
 obtain ⟨t',rfl⟩:=ry
 exact notIn_str ⟨.bl _,H,I,rfl,q⟩
theorem JL:Cc X (.builtin "len") (fun xs H Q=>∃ p ys,xs = [.ref p]∧(SqL X.K H p ys∨SqT X.K H p ys)∧Q (.int ys.length) H):=by
 intro pins s σ H xs us Q I r h
 obtain ⟨p,ys,rfl,hq,q⟩:=h
 obtain ⟨u,rfl,rx⟩:=vals1 r
 cases rx
 have hn:=GV
 rcases hq with hq | hq
 ·obtain ⟨its,r',pl,hz⟩:=I.list hq
  have hlen:=r'.length
  exact Calls.call_len_list pl.isList (by simp only [List.size_toArray] <;> lia) ⟨.int ys.length,H,I.tok _,⟨s.toks + 1,by rw [List.size_toArray,hlen]⟩,q⟩
 ·obtain ⟨its,r',pl,hz⟩:=I.tuple hq
  have hlen:=r'.length
  exact len_tuple pl (by simp only [List.size_toArray] <;> lia) ⟨.int ys.length,H,I.tok _,⟨s.toks + 1,by rw [List.size_toArray,hlen]⟩,q⟩
theorem JM:Cc X (.builtin "len") (fun xs H Q=>∃ z,xs = [.str z]∧z.length≤sizeLine∧Q (.int z.length) H):=by
 intro pins s σ H xs us Q I r h
 obtain ⟨z,rfl,hz,q⟩:=h
 obtain ⟨u,rfl,t,rfl⟩:=vals1 r
 have hn:=GV
 exact len_str (by lia) ⟨.int z.length,H,I.tok _,⟨_,rfl⟩,q⟩
theorem Cc.or {f:Value} {r r':List V→Hp→VK→Prop} (h:Cc X f r) (h':Cc X f r'):Cc X f (fun xs H Q=>r xs H Q∨r' xs H Q):=by
 intro pins s σ H xs us Q I rs q
 rcases q with q | q
 ·exact h pins s σ H xs us Q I rs q
 ·exact h' pins s σ H xs us Q I rs q
noncomputable def tyV (K:Frag) (T:String) (x:V) (H:Hp):Prop:=match x with
 | .str _=>T = "str"
 | .int _=>T = "int"
 | .ref p=>(T = "list" ∧ ∃ xs,SqL K H p xs)∨(T = "tuple" ∧ ∃ o,K.lookup p = some o∧o.cls = .type "tuple" ∧ o.dict = none) ∨
   (T = "dict" ∧ ((∃ kvs,H p = some (.dK kvs))∨∃ kvs,H p = some (.dT kvs)))∨(T = "set" ∧ ∃ S n,H p = some (.set S n))
 | _=>False
theorem VF {pins:List (Addr × Obj)} {σ:St} {H:Hp} {s:Shared} {T:String} {x:V} {v:Value} (I:Inv X pins σ H s) (r:RelV x v) (ty:tyV X.K T x H) :
  s.TypeIs v T∧∀ a,v = .ref a→∃ ob,s.heap.get? a = some ob∧ob.dict = none:=by
 cases x with
 | str z =>
  obtain ⟨t,rfl⟩:=r
  cases (show T = "str" from ty)
  exact ⟨typeIs_str s z t,fun _ e=>nomatch e⟩
 | int i =>
  obtain ⟨t,rfl⟩:=r
  cases (show T = "int" from ty)
  exact ⟨typeIs_int s i t,fun _ e=>nomatch e⟩
 | ref p =>
  cases r
  rcases ty with ⟨rfl,xs,hq⟩ | ⟨rfl,o,hk,hc,hd⟩ | ⟨rfl,hk⟩ | ⟨rfl,S,n,hk⟩
  ·obtain ⟨its,_,pl,_⟩:=I.list hq
   refine ⟨pl.isList.typeIs,fun a e=>?_⟩
   cases e
   obtain ⟨o,n,e,c,hd,_⟩:=pl
   exact ⟨o,e,hd⟩
  ·refine ⟨⟨o,I.kIn p o hk,hc⟩,fun a e=>?_⟩
   cases e
   exact ⟨o,I.kIn _ o hk,hd⟩
  ·have z:∃ o,s.heap.get? p = some o∧o.ExactDict:=by
    rcases hk with ⟨kvs,hk⟩ | ⟨kvs,hk⟩
    ·obtain ⟨_,_,_,_,o,_,_,e,ex,_⟩:=I.hok p _ hk
     exact ⟨o,e,ex⟩
    ·obtain ⟨_,_,_,_,o,_,_,e,ex,_⟩:=I.hok p _ hk
     exact ⟨o,e,ex⟩
   obtain ⟨o,e,ex⟩:=z
   refine ⟨⟨o,e,ex.1⟩,fun a e2=>?_⟩
   cases e2
   exact ⟨o,e,ex.2.1⟩
  ·obtain ⟨o,_,_,_,e,ex,_⟩:=I.hok p _ hk
   refine ⟨⟨o,e,ex.1⟩,fun a e2=>?_⟩
   cases e2
   exact ⟨o,e,ex.2.1⟩
 | _=>exact False.elim ty
noncomputable def tBM (K:Frag) (T:String) (r:V→List V→Hp→VK→Prop) (to:TE) (t:TA):TE:=fun σ H Q=>to σ H fun x H1=>tyV K T x H1∧t σ H1 fun xs H2=>r x xs H2 Q
variable {o e:Expr} {es:List Expr} {to:TE} {t:TA} {name:Str} {apos cpos:Pos} {T id:String} {r:V→List V→Hp→VK→Prop}
theorem Ob (pa:PlainAttrs T) (slot:Slot T name id) (hty:typeOf (.builtin id) = pure (.type "method_descriptor")) (hm:MtR X id r) (ho:PE X o to) (ha:PA X (e :: es) t)
  (hbase:attributeBase o name X.env (eval o X.env) = eval o X.env:=by rfl)
  (hfew:((backTo cpos (starEach (e :: es) X.env)).all (fun x=>!x.1) && (backToKw cpos (keywordEach [] X.env)).all (fun x=>x.1.isSome)
   && decide ((e :: es).length + ([]:List Keyword).length + (if ([]:List Keyword).isEmpty then 0 else 1) < 30)) = true:=by rfl)
  (hline:(apos.endLine == cpos.line) = true:=by rfl) (hs:starEach (e :: es) X.env = (false,eval e X.env) :: starEach es X.env:=by rfl) (hplain:(backTo cpos (starEach es X.env)).any (·.1) = false:=by rfl) :
  PE X (.Call (.Attribute o name apos) (e :: es) [] cpos) (tBM X.K T r to t):=by
 intro pins s σ H Q I h
 refine wpAny_Call_method_late hbase hfew hline rfl (thn (ho pins s σ H _ I h) fun v s1 yy=>?_)
 obtain ⟨x,H1,I1,r1,ty,q1⟩:=yy
 obtain ⟨h1,h2⟩:=VF I1 r1 ty
 refine ⟨T,id,pa,slot,hty,h1,h2,?_⟩
 have hA:=ha cpos pins s1 σ H1 _ I1 q1
 rw [hs] at hA ⊢
 refine Calls.callWith_builtin (by show (false || (backTo cpos (starEach es X.env)).any (·.1)) = false; rw [hplain] <;> rfl) (Calls.evalArgs_plain ?_)
 exact thn hA fun us s2 ⟨vs,H2,I2,r2,q2⟩=>hm pins s2 σ H2 x vs v us Q I2 r1 r2 q2
/- xs.append(e),list.index on a module's tuple .. are MtR facts of 06m -/
end
end L2
namespace L2
open PySem PySem.Spec PyProof.Rows
noncomputable def MtM (X:Cx) (id:String) (r:V→List V→Hp→VK→Prop):Prop:=
 ∀ (pins:List (Addr × Obj)) (s:Shared) (σ:St) (H:Hp) (x:V) (xs:List V) (v:Value) (us:List Value) (Q:VK),Inv X pins σ H s→RelV x v→Vals xs us→r x xs H Q →
  wpAny (model X.prog X.w) X.A (call (.builtin id) (v :: us)) (EP X pins σ Q) X.xe s
theorem Vals.one {x:V} {us:List Value} (h:Vals [x] us):∃ u,us = [u]∧RelV x u:=by
 cases h with
 | cons r t=>cases t; exact ⟨_,rfl,r⟩
theorem Vals.two {x y:V} {us:List Value} (h:Vals [x,y] us):∃ u v,us = [u,v]∧RelV x u∧RelV y v:=by
 cases h with
 | cons r t =>
  obtain ⟨v,rfl,q⟩:=Vals.one t
  exact ⟨_,_,rfl,r,q⟩
section
variable {X:Cx} {pins:List (Addr × Obj)} {σ:St} {H:Hp} {s:Shared} {l b:Addr} {xs ys zs:List V}
theorem Inv.lset {its its':List Value} {n:Nat} {f:Array Value→Array Value} {t':Nat} (I:Inv X pins σ H s) (hH:H l = some (.lst xs))
  (e:s.heap.get? l = some { cls:=.type "list",data:=.seq its.toArray n }) (hf:f its.toArray = its'.toArray) (hv:Vals ys its') (hz:ys.length≤sizeLine) :
  Inv X pins σ (upd H l (.lst ys)) { s with heap:=s.heap.update l (Obj.mapSeq f),toks:=t' }:=by
 have q:=PySem.IsL.update e f
 rw [hf] at q
 refine I.write (x:=l) (e:=l) (by rw [hH]; exact trivial) (.inl rfl) (fun b' u hb hu=>(Heap.get?_update_other s.heap (Obj.mapSeq f) (Ne.symm hb)).trans hu) ⟨_,q⟩ ?_
 exact ⟨hz,its',_,hv,q⟩
theorem Inv.lnew {its:List Value} {t':Nat} (I:Inv X pins σ H s) (hv:Vals ys its) (hz:ys.length≤sizeLine) :
  Inv X pins σ (upd H s.heap.objs.size (.lst ys)) { s with heap:=s.heap.push { cls:=.type "list",data:=.seq its.toArray },toks:=t' }:=
 I.laid (fun _ _ q=>Heap.get?_push_of_some _ q) (Nat.le_refl _) ⟨hz,its,0,hv,Heap.get?_push_size _ rfl⟩
theorem Inv.fresh (I:Inv X pins σ H s):H s.heap.objs.size = none:=I.hok.fresh (Nat.le_refl _)
theorem Inv.lstM (I:Inv X pins σ H s) (hH:H l = some (.lst xs)):xs.length≤sizeLine∧∃ (its:List Value) (n:Nat),Vals xs its∧xs.length = its.length∧s.heap.get? l = some { cls:=.type "list",data:=.seq its.toArray n }:=by
 obtain ⟨z,its,n,r,e⟩:=I.hok l _ hH
 exact ⟨z,its,n,r,r.length,e⟩
theorem Qx {n:Nat} (h:n≤sizeLine):Builtin.List.listTooLong n = false:=by
 unfold Builtin.List.listTooLong
 exact decide_eq_false (by lia)
end
section
variable {X:Cx}
noncomputable def Oi:V→List V→Hp→VK→Prop:=fun x vs H Q=>∃ l xs y,x = .ref l∧vs = [y]∧H l = some (.lst xs)∧xs.length < sizeLine∧Q .non (upd H l (.lst (xs ++ [y])))
theorem GW:MtM X "list.append" Oi:=by
 intro pins s σ H x vs v us Q I rx rv h
 obtain ⟨l,xs,y,rfl,rfl,hH,hz,q⟩:=h
 cases rx
 obtain ⟨u,rfl,ru⟩:=rv.one
 obtain ⟨z,its,n,r,hl,e⟩:=I.lstM hH
 refine call_meets F.slot_list_append ⟨_,e,rfl⟩ F.entry_list_append (F.args_list_append_2 _ _) (PySem.list_append l its.toArray n u (by rw [List.size_toArray]; lia)) ⟨e,?_⟩
 refine ⟨.non,_,I.lset (its':=its ++ [u]) hH e (by simp) (r.append (.cons ru .nil)) ?_,rfl,q⟩
 rw [List.length_append,List.length_singleton]
 lia
noncomputable def Oj:V→List V→Hp→VK→Prop:=fun x vs H Q=>∃ l b xs zs,x = .ref l∧vs = [.ref b]∧H l = some (.lst xs)∧H b = some (.lst zs)∧xs.length + zs.length≤sizeLine∧Q .non (upd H l (.lst (xs ++ zs)))
theorem OU:MtM X "list.extend" Oj:=by
 intro pins s σ H x vs v us Q I rx rv h
 obtain ⟨l,b,xs,zs,rfl,rfl,hH,hB,hz,q⟩:=h
 cases rx
 obtain ⟨u,rfl,ru⟩:=rv.one
 cases ru
 obtain ⟨z,its,n,r,hl,e⟩:=I.lstM hH
 obtain ⟨z2,its2,n2,r2,hl2,e2⟩:=I.lstM hB
 have hsz:its.toArray.size + its2.toArray.size≤sizeLine:=by rw [List.size_toArray,List.size_toArray]; lia
 have hlong:¬ (!its.toArray.isEmpty && Builtin.List.listTooLong (its.toArray.size + its2.toArray.size)) = true:=by
  rw [Qx hsz,Bool.and_false]
  exact Bool.false_ne_true
 refine call_meets F.slot_list_extend ⟨_,e,rfl⟩ F.entry_list_extend (F.args_list_extend_2 _ _)
  (AutoSeq1.list_extend_list_list_0 l its.toArray n b its2.toArray n2 hlong (by rw [List.size_toArray]; lia) (by lia)) ⟨e,e2,?_⟩
 refine ⟨.non,_,I.lset (its':=its ++ its2) hH e (by simp) (r.append r2) ?_,rfl,q⟩
 rw [List.length_append]
 lia
noncomputable def Va:R2:=fun x y H Q=>∃ l b xs zs,x = .ref l∧y = .ref b∧H l = some (.lst xs)∧H b = some (.lst zs)∧xs.length + zs.length≤sizeLine∧∀ p,H p = none→Q (.ref p) (upd H p (.lst (xs ++ zs)))
theorem UJ:OpR X (binaryOp .Add) Va:=by
 intro pins s σ H x y v u Q I rx ry h
 obtain ⟨l,b,xs,zs,rfl,rfl,hH,hB,hz,q⟩:=h
 cases rx
 cases ry
 obtain ⟨z,its,n,r,hl,e⟩:=I.lstM hH
 obtain ⟨z2,its2,n2,r2,hl2,e2⟩:=I.lstM hB
 refine PySem.P.add_list e e2 ?_ (by rw [List.size_toArray,List.size_toArray]; lia)
 have ea:its.toArray ++ its2.toArray = (its ++ its2).toArray:=by simp
 rw [ea]
 exact ⟨.ref _,_,I.lnew (t':=s.toks) (r.append r2) (by rw [List.length_append]; lia),rfl,q _ I.fresh⟩
end
section
variable {prog:Program} {w:World} {A:Around} {E:Value→Shared→Prop} {s:Shared}
set_option maxRecDepth 100000 in
end
section
variable {X:Cx}
end
end L2
namespace Att
open PySem PySem.W PySem.Calls PyProof.Rows
theorem Ho {P:Params} {h:Heap}:∀ (ns:List Int) (vs:List Value),WellAll P h vs (ns.map WData.int)→IntsAre vs ns:=by
 intro ns
 induction ns with
 | nil =>
  intro vs w
  rw [List.map_nil] at w
  cases w
  exact .nil
 | cons n ns ih =>
  intro vs w
  rw [List.map_cons] at w
  cases w with
  | cons a b =>
   cases a
   exact .cons _ _ (ih _ b)
theorem Pj {l:OpenLaw} {n:Nat} (hn:l.most = some n) {P:Params} {h:Heap} {args:List WData} {vals:List Value}
  (hpre:l.row.toRowW.claim.pre args = true) (hwl:WellAll P h vals args) :
  ∃ a vs ns,vals = [Value.ref a]∧args = [WData.list (ns.map WData.int)]∧h.get? a = some { cls:=.type "list",data:=.seq vs.toArray }∧IntsAre vs ns∧ns.length≤n:=by
 have hsh:WShape.hasAll [] args [.list .int] = true:=(pre_splitW hpre).1
 have hc:l.pre.holds [] { args:=args } = true:=(pre_splitW hpre).2
 obtain ⟨d,r,rfl,h1,h2⟩:=hasAllW_cons hsh
 obtain rfl:=hasAllW_nil h2
 obtain ⟨xs,rfl,h3⟩:=hasW_list h1
 obtain ⟨ns,rfl⟩:=items_int h3
 have hlen:ns.length≤n:=by
  unfold OpenLaw.pre at hc
  have h4:(WTm.not (.lt (.lit (.int (n:Int))) (.len (.arg 0)))).holds [] { args:=[.list (ns.map .int)] } = true:=by
   have h4:=(holds_andW hc).1
   rw [hn] at h4
   exact h4
  have h5:=condW_of h4 (w_not (w_lt w_lit (w_len_list (w_arg rfl))))
  rw [List.length_map] at h5
  refine Nat.le_of_not_lt fun q=>?_
  have q':(n:Int) < ((ns.length:Nat):Int):=by lia
  first
   | (rw [decide_eq_true q'] at h5; exact absurd h5 (by decide))
   | (simp at h5; lia)
 cases hwl with
 | cons w1 w2 =>
  cases w2
  cases w1 with
  | list ho hall=>exact ⟨_,_,ns,rfl,rfl,ho,Ho ns _ hall,hlen⟩
theorem Pa (l:OpenLaw) (args:List WData):l.row.toRowW.claim.post args (.bool true) args = true:=
 postW_of (r:=l.row.toRowW) (X:=(true == true))
  (show WShape.has [] (.bool true) .bool = true by first | rfl | decide | simp [WShape.has,WShape.arms,WShape.armsAll])
  (show (WTm.eq .res (.lit (.bool true))).value [] { args:=args,res:=some (.bool true),after:=args } = some (.bool (true == true)) from w_eq_bool (w_res rfl) w_lit) rfl
theorem Lc {l:OpenLaw} {n:Nat} {q:Program} {loose:List Str} {XP:(Str→Option Value)→Heap→Prop} {YP:World→Heap→Prop} {d:DefRec}
  (hn:l.most = some n) (hdf:d.params.defaults = [])
  (call:∀ (w:World) (s₀ s₁:Shared) (mg mb:Str→Option Value) (fa:Addr) (o:Obj) (pm cd doc:Value) (a:Addr) (vs:List Value) (ns:List Int),
   Ground q loose [] XP w s₀ mg mb s₁.heap→YP w s₁.heap →
   s₁.heap.get? fa = some o→o.data = .func (docDef d.name d.params d.body d.scope pm cd doc)→s₁.heap.CodeRec cd d.name→mg d.name = some (.ref fa) →
   s₁.heap.get? a = some { cls:=.type "list",data:=.seq vs.toArray }→IntsAre vs ns→ns.length≤n→s₁.gens = #[] →
   codeAny (model l.prog w) callerA (.call (.ref fa) ⟨[.ref a],[]⟩) (fun r s'=>r = .ok (.ret (.bool true))∧OldK s₁.heap s'.heap∧s'.os = s₁.os∧AllBare s'.gens) s₁) :
  WalkO q loose XP YP l.row.toRowW d [] (fun f vs=>PySem.call f vs):=by
 intro w s₀ s₁ mg mb G Y fa o pm cd doc dV kV ho hd hcd hD hmg hg args vals as hpre hlay hrd hwl hlo
 obtain rfl:dV = .none:=Dflts.none hD hdf
 obtain rfl:kV = .none:=Dflts.noKw hD
 obtain ⟨a,vs,ns,rfl,rfl,hobj,hints,hlen⟩:=Pj hn hpre hwl
 refine enter_call (codeAny_mono (call w s₀ s₁ mg mb fa o pm cd doc a vs ns G Y ho (fd_plain hd) hcd hmg hobj hints hlen hg) fun r s' hq=>?_)
 obtain ⟨rfl,h2,h3,h4⟩:=hq
 exact ⟨.inl ⟨.bool true,.bool true,[],rfl,fun _=>rfl,.bool true,Pa l _,fun _=>⟨List.Pairwise.nil,fun _ hm=>(nomatch hm)⟩⟩,h2,h3,h4⟩
section
variable {prog:Program} {w:World} {A:Around} {E:Value→Shared→Prop} {s:Shared} {K:Frag}
end
end Att
namespace L2
open PySem PySem.Spec PyProof.Rows
theorem Pq {vs:List Value} {ns:List Int} (h:IntsAre vs ns):Vals (ns.map V.int) vs:=by
 induction h with
 | nil=>exact .nil
 | cons n t h ih=>exact .cons ⟨t,rfl⟩ ih
noncomputable def Rv (H:Hp):Prop:=∀ b,H b = none∨(∃ o xs,H b = some (.frz o (.lst xs)))∨∃ ps,H b = some (.tbl ps)
noncomputable def Hv (K:Frag) (b:Addr):Prop:=∃ c,PySem.W.tabIn K Bi = some (c,b)
noncomputable def S1 (K:Frag) (H:Hp):Hp:=fun b=>by classical exact if Hv K b then some (.tbl #[.str HB 0]) else H b
theorem S2 {K:Frag} {H:Hp} {b:Addr} (h:Hv K b):S1 K H b = some (.tbl #[.str HB 0]):=if_pos h
theorem Mk {K:Frag} {H:Hp} {b:Addr} (h:¬ Hv K b):S1 K H b = H b:=if_neg h
theorem Qs {P:Program} {w:World} {K:Frag} {mg mb:Str→Option Value} {CX:CXT} {k:Nat} {fa a:Addr} {fd:FuncData} {x:Str} {sp:Sp} {s₁:Shared} {vs:List Value} {ns:List Int}
  (KX:K.In s₁.heap) (hns:s₁.heap.Ns mainGlobals mg) (hb:s₁.heap.Ns builtinsNs mb) (hbb:∀ x:Str,x ≠ "__name__" → mb x = bootBuiltins x) (hlim:s₁.heap.NoLimit) (hg:s₁.gens = #[])
  (ha:s₁.heap.get? a = some { cls:=.type "list",data:=.seq vs.toArray }) (hi:IntsAre vs ns) (hl:ns.length≤sizeLine) (hr:Room k callerA)
  (F:∀ base:Heap,K.In base→base.Ns mainGlobals mg→FnOk P w K mg base CX k fa fd [x] sp) (hbind:∀ (s:Shared) (u:Value),BindsTo s fd ⟨[u],[]⟩ [(x,u)])
  (hsp:∀ H:Hp,Rv H→SqL K H a (ns.map V.int)→sp [.ref a] H (fun v _=>v = .bl true) fun _ _ _=>False)
  (hCX:∀ H e s',CX [] H s₁ (fun _ _ _=>False) e s'→False) (hT:∀ c b,PySem.W.tabIn K Bi = some (c,b)→PySem.W.CodeHd s₁.heap c b∧s₁.heap.get? b = some { cls:=.none,data:=.fields #[] }∧K.lookup b = none)
  (hbm:∃ bm ob,mg "__builtins__" = some (.ref bm)∧bm≠builtinsNs∧s₁.heap.get? bm = some ob∧ob.cls = .type "module" ∧ ob.dict = some builtinsNs∧ob.data = .plain) :
  codeAny (model P w) callerA (.call (.ref fa) ⟨[.ref a],[]⟩) (fun r s'=>r = .ok (.ret (.bool true))∧OldK s₁.heap s'.heap∧s'.os = s₁.os∧AllBare s'.gens) s₁:=by
 have rv:=Pq hi
 have lenV:=hi.length
 have naT:¬ Hv K a:=fun ⟨c,e⟩=>by
  obtain ⟨_,e2,_⟩:=hT c a e
  rw [ha] at e2; cases e2
 have core:∀ H₁:Hp,(∀ b,H₁ b = none∨∃ o xs,H₁ b = some (.frz o (.lst xs)))→SqL K (S1 K H₁) a (ns.map V.int)→HOk P w H₁ s₁.heap→(∀ b,H₁ b≠none→b = a)→(H₁ a≠none→K.lookup a = none) →
   codeAny (model P w) callerA (.call (.ref fa) ⟨[.ref a],[]⟩) (fun r s'=>r = .ok (.ret (.bool true))∧OldK s₁.heap s'.heap∧s'.os = s₁.os∧AllBare s'.gens) s₁:=by
  intro H₁ hO₁ hS hok₁ hA₁ hK₁
  generalize hH:S1 K H₁ = H at hS
  have hin:∀ {b},Hv K b→H b = some (.tbl #[.str HB 0]):=fun h=>by rw [← hH]; exact S2 h
  have hout:∀ {b},¬ Hv K b→H b = H₁ b:=fun h=>by rw [← hH]; exact Mk h
  have hO:Rv H:=fun b=>by
   by_cases q:Hv K b
   ·exact .inr (.inr ⟨_,hin q⟩)
   ·rw [hout q]
    exact (hO₁ b).imp id .inl
  have hok:HOk P w H s₁.heap:=fun b u e=>by
   by_cases q:Hv K b
   ·rw [hin q] at e; cases e
    obtain ⟨c,ec⟩:=q
    exact ⟨#[],(hT c b ec).2.1,trivial,fun pos c h=>by cases h⟩
   ·rw [hout q] at e
    rcases hO₁ b with z | ⟨o,xs,z⟩
    ·rw [z] at e; cases e
    ·rw [z] at e; cases e
     obtain ⟨e1,e2⟩:=hok₁ b _ z
     exact ⟨e1,e2⟩
  have hA:∀ b,H b≠none→b = a∨Hv K b:=fun b z=>by
   by_cases q:Hv K b
   ·exact .inr q
   ·rw [hout q] at z; exact .inl (hA₁ b z)
  have base_of:∀ {b:Addr} {o:Obj},s₁.heap.get? b = some o→H b = none→(IS s₁.heap H).get? b = some o:=fun e n=>PZ e n
  have noA:∀ {b:Addr} {o:Obj} {es:Array DictEntry} {ep:Nat},s₁.heap.get? b = some o→o.data = .dict es ep→H b = none:=fun {b o es ep} e d=>by
   cases q:H b with
   | none=>rfl
   | some u =>
    rcases hA b (by rw [q]; simp) with e' | ⟨c,ec⟩
    ·subst e'
     rw [ha] at e; cases e
     have d':Data.seq vs.toArray _ = Data.dict es ep:=d
     cases d'
    ·rw [(hT c b ec).2.1] at e; cases e
     have d':Data.fields _ = Data.dict es ep:=d
     cases d'
  have nsK:∀ {b:Addr} {m:Str→Option Value},s₁.heap.Ns b m→(IS s₁.heap H).Ns b m:=fun {b m} ⟨o,es,ep,e,d,r⟩=>⟨o,es,ep,base_of e (noA e d),d,r⟩
  have hKb:K.In (IS s₁.heap H):=fun b o e=>base_of (KX b o e) (by
   cases q:H b with
   | none=>rfl
   | some u =>
    rcases hA b (by rw [q]; simp) with e' | ⟨c,ec⟩
    ·subst e'
     rw [hout naT] at q
     rw [hK₁ (by rw [q]; simp)] at e; cases e
    ·rw [(hT c b ec).2.2] at e; cases e)
  have bmK:∃ bm ob,mg "__builtins__" = some (.ref bm)∧bm≠builtinsNs∧(IS s₁.heap H).get? bm = some ob∧ob.cls = .type "module" ∧ ob.dict = some builtinsNs∧ob.data = .plain:=by
   obtain ⟨bm,ob,m1,m2,m3,m4,m5,m6⟩:=hbm
   refine ⟨bm,ob,m1,m2,base_of m3 ?_,m4,m5,m6⟩
   cases q:H bm with
   | none=>rfl
   | some u =>
    rcases hA bm (by rw [q]; simp) with e' | ⟨c,ec⟩
    ·subst e'
     rw [ha] at m3; cases m3
     cases m6
    ·rw [(hT c bm ec).2.1] at m3; cases m3
     cases m6
  have hM:Mod K mg (IS s₁.heap H):=⟨hKb,nsK hns,⟨mb,nsK hb,hbb⟩,let ⟨mc,h1,h2⟩:=hlim; ⟨mc,nsK h1,h2⟩,bmK⟩
  have e0:Env0 P w K mg (IS s₁.heap H) callerA [] s₁ H:=⟨rfl,hM,fun b o e=>R0 e,Nat.le_of_eq (OJ _ _),trivial,fun b hb=>absurd (show b∈([]:List Addr) from hb) (by simp),hok,.of_eq hg,fun c b e=>⟨_,hin ⟨c,e⟩,rfl⟩⟩
  refine codeAny_mono ((F _ hKb (nsK hns)).run callerA [] s₁ H ⟨[.ref a],[]⟩ [.ref a] [.ref a] _ _ hr e0 (hbind s₁ (.ref a)) (.cons rfl .nil) (hsp H hO hS)) fun r s' h=>?_
  cases r with
  | error e=>exact (hCX H e s' h).elim
  | ok fl =>
   cases fl with
   | next=>exact False.elim h
   | brk=>exact False.elim h
   | cont=>exact False.elim h
   | ret u =>
    obtain ⟨v,H',os,bare,un,hok',r',q⟩:=h
    have q':v = .bl true:=q
    subst q'
    obtain rfl:u = Value.bool true:=r'
    have fin:∀ b o,s₁.heap.get? b = some o→s'.heap.get? b = some o∨∃ qs,Hv K b∧s'.heap.get? b = some { cls:=.none,data:=.fields qs }:=fun b o e=>by
     cases q:H b with
     | none=>exact .inl (un.keep b o e q (by intro z; exact absurd (show b∈([]:List Addr) from z) (by simp)) (by simp))
     | some u =>
      by_cases tq:Hv K b
      ·rw [hin tq] at q; cases q
       obtain ⟨more,z2⟩:=un.tbls b _ (hin tq)
       obtain ⟨qs,e2,_⟩:=hok' b _ z2
       exact .inr ⟨qs,tq,e2⟩
      ·rcases hO₁ b with z | ⟨ob,xs,z⟩
       ·rw [hout tq,z] at q; cases q
       ·have z2:=un.frzs b ob _ (by rw [hout tq]; exact z)
        obtain ⟨e1,_⟩:=hok₁ b _ z
        obtain ⟨e2,_⟩:=hok' b _ z2
        rw [e] at e1; cases e1
        exact .inl e2
    refine ⟨rfl,⟨fun b o e=>?_,fun b o e=>?_⟩,os,bare⟩
    ·rcases fin b o e with z | ⟨qs,⟨c,ec⟩,z⟩
     ·exact .inl z
     ·obtain ⟨h1,h2,_⟩:=hT c b ec
      rw [e] at h2; cases h2
      refine .inr (.inl ⟨(h1.tab e).isCodeTable,rfl,#[],qs,rfl,?_⟩)
      rw [z]; simp
    ·rcases fin b o e with z | ⟨qs,_,z⟩
     ·exact ⟨_,z⟩
     ·exact ⟨_,z⟩
 cases hk:K.lookup a with
 | some o =>
  -- the script is one of the module's own objects
  have e:=KX a o hk
  rw [ha] at e
  cases e
  refine core (fun _=>none) (fun _=>.inl rfl) (.inr ⟨_,vs.toArray,_,hk,rfl,rfl,rfl,by rw [List.size_toArray,lenV]; exact hl,by simpa using rv⟩) (fun b u z=>by have z':(none:Option HO) = some u:=z; cases z') (fun b z=>absurd rfl z) fun z=>absurd rfl z
 | none =>
  refine core (fun b=>if b = a then some (.frz { cls:=.type "list",data:=.seq vs.toArray } (.lst (ns.map V.int))) else none) (fun b=>?_) (.inl (.inr ⟨{ cls:=.type "list",data:=.seq vs.toArray },by rw [Mk naT]; exact if_pos rfl⟩)) (fun b u z=>?_) (fun b z=>?_) fun _=>hk
  ·by_cases hb:b = a
   ·exact .inr ⟨_,_,if_pos hb⟩
   ·exact .inl (if_neg hb)
  ·by_cases hb:b = a
   ·have z':=(if_pos hb).symm.trans z
    cases z'
    subst hb
    exact ⟨ha,by rw [List.length_map]; exact hl,vs,_,rv,ha⟩
   ·have z':=(if_neg hb).symm.trans z
    cases z'
  ·by_cases hb:b = a
   ·exact hb
   ·exact absurd (if_neg hb) z
end L2
namespace L2
open PySem PySem.Spec PyProof.Rows
noncomputable abbrev KOf {K:Frag} {h:Heap} (_:K.In h):Frag:=K
theorem S4 {l:PySem.W.OpenLaw} {n k:Nat} {q:Program} {loose:List Str} {XP:(Str→Option Value)→Heap→Prop} {YP:World→Heap→Prop} {d:DefRec} {K:Params→Frag} {CX:World→CXT} {sp:World→Sp} {x:Str}
  (hn:l.most = some n) (hn2:n≤sizeLine) (hdf:d.params.defaults = []) (hr:Room k callerA)
  (hY:∀ (w:World) (h:Heap),YP w h→(K w.params).In h)
  (F:∀ (w:World) (mg:Str→Option Value) (fa:Addr) (h:Heap),(K w.params).In h→h.Ns mainGlobals mg→mg d.name = some (.ref fa) →
   ∃ fd:FuncData,(∀ (s:Shared) (u:Value),BindsTo s fd ⟨[u],[]⟩ [(x,u)]) ∧
    ∀ base:Heap,(K w.params).In base→base.Ns mainGlobals mg→FnOk l.prog w (K w.params) mg base (CX w) k fa fd [x] (sp w))
  (hsp:∀ (w:World) (H:Hp) (a:Addr) (ns:List Int),ns.length≤n→Rv H→SqL (K w.params) H a (ns.map V.int)→sp w [.ref a] H (fun v _=>v = .bl true) fun _ _ _=>False)
  (hCX:∀ (w:World) (H:Hp) (s:Shared) (e:Value) (s':Shared),CX w [] H s (fun _ _ _=>False) e s'→False)
  (hT:∀ (w:World) (c b:Addr),PySem.W.tabIn (K w.params) Bi = some (c,b)→(∃ d',(recsOf q).find? (fun e=>e.name == Bi) = some d')∧(K w.params).lookup b = none) :
  PySem.W.WalkO q loose XP YP l.row.toRowW d [] (fun f vs=>PySem.call f vs):=by
 refine Att.Lc hn hdf fun w s₀ s₁ mg mb fa o pm cd doc a vs ns G Y ho hd hcd hmg hobj hints hlen hg=>?_
 have KX:=hY w _ Y
 obtain ⟨fd,hb,hF⟩:=F w mg fa _ KX G.T.g hmg
 exact Qs KX G.T.g G.T.b G.T.builtins G.T.nolimit hg hobj hints (Nat.le_trans hlen hn2) hr hF hb (fun H hO hS=>hsp w H a ns hlen hO hS) (fun H e s'=>hCX w H s₁ e s') (fun c b e=>by
  obtain ⟨⟨d',hd'⟩,hk⟩:=hT w c b e
  obtain ⟨z1,z2⟩:=PySem.W.tab_of G.T KX hd' e
  exact ⟨z1,z2,hk⟩) G.T.bmain
end L2

namespace L2
open PySem PySem.Spec PyProof.Rows
noncomputable def DY (s:Stmt):Arguments:=match s with
 | .FunctionDef _ a _ _ _ _ _ _ _ _=>a
 | _=>{ posonlyargs:=[],args:=[],vararg:=none,kwonlyargs:=[],kw_defaults:=[],kwarg:=none,defaults:=[] }
noncomputable def BL (s:Stmt):List Stmt:=match s with
 | .FunctionDef _ _ b _ _ _ _ _ _ _=>b
 | _=>[]
noncomputable def Ao (s:Stmt):Scope:=match s with
 | .FunctionDef _ _ _ _ _ _ sc _ _ _=>sc
 | _=>{ kind:=.function,names:=[],isGenerator:=false,isCoroutine:=false }
noncomputable abbrev CX0:CXT:=fun _ _ _ _ _ _=>False
noncomputable abbrev E0:XK:=fun _ _ _=>False
theorem AM {X:Cx}:Passes CX0 X E0:=fun _ _ _ _ _ _ _ h=>h.elim
structure Fun (K:Frag) (x qual:Str) (st:Stmt) (f:Addr) (fd:FuncData):Prop where
 ex:∃ (oc:Value) (od:Option Addr) (kV doc pm:Value) (an:Option Addr) (cdv ct:Value) (osl:Array (Option Value)),
  fd = PySem.W.fnOf x qual (DY st) (BL st) (Ao st) .none kV doc pm an cdv ct∧K.lookup f = some ⟨oc,od,.func fd,osl⟩∧PySem.W.codeIn K cdv qual = true
 kp:PySem.W.keepIn K (.ref f) = true
section
variable {P:Program} {w:World} {K:Frag} {mg:Str→Option Value} {base:Heap}
theorem Fun.ok {x qual:Str} {st:Stmt} {f:Addr} {fd:FuncData} {N ps:List Str} {k:Nat} {sp:Sp} (F:Fun K x qual st f fd) (S:FnScope N ps (Ao st)) (len:∀ vs H Q E,sp vs H Q E→vs.length = ps.length)
  (hbody:∀ (cdv:Value) (A:Around) (outer:List Env) (s:Shared) (H:Hp) (vs:List V) (Q:VK) (E:XK),Room k (A.deeper (envOfC qual (Ao st) s.heap.objs.size f cdv))→sp vs H Q E →
   ∃ t,PSs (AI CX0 P w K mg base N qual (Ao st) f cdv A outer s H E).nox (BL st) t∧t { nx:=fun _ H'=>Q .non H',rt:=Q } (start N vs) H):FnOk P w K mg base CX0 (k + 1) f fd ps sp:=by
 obtain ⟨oc,od,kV,doc,pm,an,cdv,ct,osl,rfl,lk,hcd⟩:=F.ex
 refine PN lk hcd S len fun A outer s H vs Q E hr hsp=>?_
 obtain ⟨t,h,q⟩:=hbody cdv A outer s H vs Q E hr hsp
 exact ⟨t,h.nox,q⟩
theorem Fun.binds {x qual:Str} {st:Stmt} {f:Addr} {fd:FuncData} {ps:List Str} (F:Fun K x qual st f fd)
  (h:∀ (kV doc pm:Value) (an:Option Addr) (cdv ct:Value) (us:List Value),us.length = ps.length→bindArgs (PySem.W.fnOf x qual (DY st) (BL st) (Ao st) .none kV doc pm an cdv ct) ⟨us,[]⟩ = pure (ps.zip us)):Binds K fd ps []:=by
 obtain ⟨oc,od,kV,doc,pm,an,cdv,ct,osl,rfl,lk,hcd⟩:=F.ex
 exact .all (h kV doc pm an cdv ct)
theorem TN {x qual:Str} {st:Stmt} {f:Addr} {oc:Value} {od an:Option Addr} {osl:Array (Option Value)} {kV doc pm cdv ct:Value} (l:K.lookup f = some ⟨oc,od,.func (PySem.W.fnOf x qual (DY st) (BL st) (Ao st) .none kV doc pm an cdv ct),osl⟩)
  (c:PySem.W.codeIn K cdv qual = true) (k:PySem.W.keepIn K (.ref f) = true):Fun K x qual st f (PySem.W.fnOf x qual (DY st) (BL st) (Ao st) .none kV doc pm an cdv ct):=⟨⟨oc,od,kV,doc,pm,an,cdv,ct,osl,rfl,l,c⟩,k⟩
end
theorem VZ {A:Around} {k:Nat} (hr:Room k A):A.units + 10 < cLine:=Nat.lt_of_le_of_lt (Nat.add_le_add_left (by decide:10≤64) _) hr.units
section
variable {X:Cx}
end
noncomputable def Ek (H H':Hp):Prop:=∀ b o,H b = some o→H' b = some o
end L2
end
section
namespace L2
open PySem PySem.Spec PyProof.Rows
section
variable {M:Model} {A:Around} {E:Value→Shared→Prop} {s:Shared}
noncomputable def A0 (h:Heap) (a:Addr):Prop:=∃ (o:Obj) (vs:Array Value),h.get? a = some o∧o.data = .fields vs∧vs[2]? = some .none
theorem A0.keeps {h h':Heap} {a:Addr} (x:A0 h a) (k:∀ b o,h.get? b = some o→h'.get? b = some o):A0 h' a:=let ⟨o,vs,e,r⟩:=x; ⟨o,vs,k _ _ e,r⟩
theorem A0.lt {h:Heap} {a:Addr} (x:A0 h a):a < h.objs.size:=let ⟨_,_,e,_⟩:=x; Heap.lt_size e
theorem Jn {e:Addr} {h:Heap} {oe:Obj} {vs:Array Value} {x:Value} (he:h.get? e = some oe) (hd:oe.data = .fields vs) (h2:vs[2]? = some .none):A0 (h.update e (Obj.mapFields (·.setIfInBounds 1 x))) e:=
 ⟨_,_,Heap.get?_update_self _ he (Obj.isFreed_of_fields (Obj.data_mapFields hd _)),Obj.data_mapFields hd _,by rw [Array.getElem?_setIfInBounds_ne (by decide)]; exact h2⟩
theorem A0.other {e T:Addr} {h:Heap} {f:Obj→Obj} (p:A0 h e) (ne:T≠e):A0 (h.update T f) e:=by
 obtain ⟨o,vs,h1,r⟩:=p
 exact ⟨o,vs,(Heap.get?_update_other _ _ ne).trans h1,r⟩
theorem F0 {base:Heap} {l:List Env} {e:Addr} {cls a0 fl:Value} {Q:Unit→Shared→Prop} (f1:base.StaysIn s.heap) (f2:base.get? e = none) (f3:s.heap.FunFrames base l) (f4:s.heap.TracedAtW base e cls a0 fl) (hp:A0 s.heap e)
  (hQ:∀ h',Heap.FlyingW base l e cls a0 h'→s.heap.UpToSlots h'→A0 h' e→Q () { s with heap:=h' }):wpAny M A (setFlight (.ref e) none) Q E s:=by
 obtain ⟨oe,vs,T,oT,ts,he,hc,hd,h1,hnT,hTe,hT,hdT,h3⟩:=f4
 have hs3:3 < ts.size:=(Array.getElem?_eq_some_iff.mp h3).1
 have nf:∀ b o,s.heap.get? b = some o→(∀ ws,o.data ≠ .fields ws)→b≠T:=fun b o q n z=>by
  subst z; rw [hT] at q; cases q; exact n _ hdT
 unfold setFlight
 refine wpAny_bind (wpAny_field he hd h1 ?_)
 rw [if_pos (show (Value.ref T != Value.none) = true from by simp)]
 refine wpAny_setField hT hdT hs3 (hQ _ ⟨fun b o q=>?_,f2,f3.of_keeps fun b o q n=>⟨o,(Heap.get?_update_other _ _ (nf b o q n).symm).trans q,rfl⟩,oe,vs,T,_,_,(Heap.get?_update_other _ _ hTe).trans he,hc,hd,h1,hnT,hTe,
  Heap.get?_update_self _ hT (Obj.isFreed_of_fields (Obj.data_mapFields hdT _)),Obj.data_mapFields hdT _,by simp [hs3]⟩ (fun b o q n=>⟨o.slots,(Heap.get?_update_other _ _ (nf b o q n).symm).trans q⟩) (hp.other hTe))
 refine (Heap.get?_update_other _ _ fun z=>?_).trans (f1 b o q)
 subst z; rw [hnT] at q; cases q
theorem Lz {base:Heap} {l:List Env} {e:Addr} {cls a0:Value} {Q:Unit→Shared→Prop} (hh:Heap.FlyingW base l e cls a0 s.heap) (hp:A0 s.heap e)
  (hQ:∀ h',Heap.FlyingW base l e cls a0 h'→s.heap.UpToSlots h'→A0 h' e→Q () { s with heap:=h' }):wpAny M A (setFlight (.ref e) none) Q E s:=
 F0 hh.1 hh.2.1 hh.2.2.1 hh.2.2.2.at hp hQ
theorem Hg {base:Heap} {env:Env} {outer:List Env} {L e:Addr} {oe:Obj} {vs:Array Value} {head a0:Value} {hadNext:Bool} {Q:Unit→Shared→Prop}
  (hfr:A.frames = some (env :: outer)) (f3:s.heap.FunFrames base (env :: outer)) (hf:env.frame = some L) (he:s.heap.get? e = some oe) (f1:base.StaysIn s.heap) (f2:base.get? e = none) (hd:oe.data = .fields vs) (hsz:1 < vs.size) (h0:vs[0]? = some a0)
  (h2:vs[2]? = some .none) (hQ:∀ h',Heap.FlyingW base (env :: outer) e oe.cls a0 h'→s.heap.UpToSlots h'→A0 h' e→Q () { s with heap:=h' }) :
  wpAny M A (do let a ← frameOf env; let pl ← entryPlaceOf L hadNext; let b ← EntryCells.newEntry head a .none (rawInt L) .none pl; setField (.ref e) 1 b) (fun _ s'=>wpAny M A (setFlight (.ref e) none) Q E s') E s:=by
 have ne:e ∉ (env :: outer).filterMap (·.frame):=fun z=>by
  obtain ⟨_,o,q,n⟩:=f3.mem z
  rw [he] at q; cases q; exact n _ hd
 refine wpAny_bind (wpAny_frameOf_fun hfr f3 hf fun h₁ so=>wpAny_bind (wpAny_entryPlaceOf fun pl hpl=>?_))
 unfold EntryCells.newEntry newFields
 refine wpAny_bind (wpAny_newObj_type ?_ (hpl.sizeOk5 _ _ _ _ _))
 have e1:h₁.get? e = some oe:=(so.2.1 e ne).trans he
 have b1:base.StaysIn h₁:=fun b o q=>(so.2.1 b fun z=>by rw [(f3.mem z).1] at q; cases q).trans (f1 b o q)
 have tn:h₁.objs.size≠e:=Nat.ne_of_gt (Heap.lt_size e1)
 generalize hob:({ cls:=.type "traceback",dict:=none,data:=.fields ([head,.ref L,.none,rawInt L,.none] ++ (if pl.isEmpty then List.replicate 6 Value.none else pl)).toArray }:Obj) = ob
 have pT:(h₁.push ob).get? h₁.objs.size = some ob:=Heap.get?_push_size h₁ (by subst hob; rfl)
 have k1:∀ b o,b≠e→h₁.get? b = some o→((h₁.push ob).update e (Obj.mapFields (·.setIfInBounds 1 (.ref h₁.objs.size)))).get? b = some o:=fun b o n q=>(Heap.get?_update_other _ _ (Ne.symm n)).trans (Heap.get?_push_of_some ob q)
 have e2:=Heap.get?_push_of_some ob e1
 have nf:∀ b o,s.heap.get? b = some o→(∀ ws,o.data ≠ .fields ws)→b≠e:=fun b o q n z=>by
  subst z; rw [he] at q; cases q; exact n _ hd
 have up:s.heap.UpToSlots ((h₁.push ob).update e (Obj.mapFields (·.setIfInBounds 1 (.ref h₁.objs.size)))):=fun b o q n=>by
  obtain ⟨sl,w⟩:=so.2.2 b o q
  exact ⟨sl,k1 b _ (nf b o q n) w⟩
 refine wpAny_setField e2 hd hsz (F0 (fl:=rawInt L) (base:=base) (l:=env :: outer) (cls:=oe.cls) (a0:=a0) (fun b o q=>k1 b o (fun z=>by subst z; rw [f2] at q; cases q) (b1 b o q)) f2 (f3.of_keeps fun b o q n=>?_) ?_ (Jn e2 hd h2) fun h' F u p=>hQ h' F (up.trans u) p)
 ·obtain ⟨sl,w⟩:=so.2.2 b o q
  exact ⟨_,k1 b _ (nf b o q n) w,rfl⟩
 ·refine ⟨_,_,h₁.objs.size,ob,_,Heap.get?_update_self _ e2 (Obj.isFreed_of_fields (Obj.data_mapFields hd _)),⟨Obj.cls_mapFields _ _,by rw [Array.getElem?_setIfInBounds_ne (by decide)]; exact h0⟩,Obj.data_mapFields hd _,by simp [hsz],b1.fresh,tn,(Heap.get?_update_other _ _ (Ne.symm tn)).trans pT,by subst hob; rfl,?_⟩
  simp
theorem MC {base:Heap} {env:Env} {outer:List Env} {L e:Addr} {oe:Obj} {vs:Array Value} {head a0:Value} {hadNext:Bool} {Q:Unit→Shared→Prop}
  (hfr:A.frames = some (env :: outer)) (f3:s.heap.FunFrames base (env :: outer)) (hf:env.frame = some L) (he:s.heap.get? e = some oe) (f1:base.StaysIn s.heap) (f2:base.get? e = none) (hd:oe.data = .fields vs) (hsz:1 < vs.size) (h0:vs[0]? = some a0)
  (h2:vs[2]? = some .none) (hQ:∀ h',Heap.HeldW base (env :: outer) e oe.cls a0 L h'→s.heap.UpToSlots h'→A0 h' e→Q () { s with heap:=h' }) :
  wpAny M A (do let a ← frameOf env; let pl ← entryPlaceOf L hadNext; let b ← EntryCells.newEntry head a .none (rawInt L) .none pl; setField (.ref e) 1 b) Q E s:=by
 have ne:e ∉ (env :: outer).filterMap (·.frame):=fun z=>by
  obtain ⟨_,o,q,n⟩:=f3.mem z
  rw [he] at q; cases q; exact n _ hd
 refine wpAny_bind (wpAny_frameOf_fun hfr f3 hf fun h₁ so=>wpAny_bind (wpAny_entryPlaceOf fun pl hpl=>?_))
 unfold EntryCells.newEntry newFields
 refine wpAny_bind (wpAny_newObj_type ?_ (hpl.sizeOk5 _ _ _ _ _))
 have e1:h₁.get? e = some oe:=(so.2.1 e ne).trans he
 have b1:base.StaysIn h₁:=fun b o q=>(so.2.1 b fun z=>by rw [(f3.mem z).1] at q; cases q).trans (f1 b o q)
 have tn:h₁.objs.size≠e:=Nat.ne_of_gt (Heap.lt_size e1)
 generalize hob:({ cls:=.type "traceback",dict:=none,data:=.fields ([head,.ref L,.none,rawInt L,.none] ++ (if pl.isEmpty then List.replicate 6 Value.none else pl)).toArray }:Obj) = ob
 have pT:(h₁.push ob).get? h₁.objs.size = some ob:=Heap.get?_push_size h₁ (by subst hob; rfl)
 have k1:∀ b o,b≠e→h₁.get? b = some o→((h₁.push ob).update e (Obj.mapFields (·.setIfInBounds 1 (.ref h₁.objs.size)))).get? b = some o:=fun b o n q=>(Heap.get?_update_other _ _ (Ne.symm n)).trans (Heap.get?_push_of_some ob q)
 have e2:=Heap.get?_push_of_some ob e1
 have nf:∀ b o,s.heap.get? b = some o→(∀ ws,o.data ≠ .fields ws)→b≠e:=fun b o q n z=>by
  subst z; rw [he] at q; cases q; exact n _ hd
 have up:s.heap.UpToSlots ((h₁.push ob).update e (Obj.mapFields (·.setIfInBounds 1 (.ref h₁.objs.size)))):=fun b o q n=>by
  obtain ⟨sl,w⟩:=so.2.2 b o q
  exact ⟨sl,k1 b _ (nf b o q n) w⟩
 refine wpAny_setField e2 hd hsz (hQ _ ⟨fun b o q=>k1 b o (fun z=>by subst z; rw [f2] at q; cases q) (b1 b o q),f2,f3.of_keeps fun b o q n=>?_,?_⟩ up (Jn e2 hd h2))
 ·obtain ⟨sl,w⟩:=so.2.2 b o q
  exact ⟨_,k1 b _ (nf b o q n) w,rfl⟩
 ·refine ⟨_,_,h₁.objs.size,ob,_,Heap.get?_update_self _ e2 (Obj.isFreed_of_fields (Obj.data_mapFields hd _)),⟨Obj.cls_mapFields _ _,by rw [Array.getElem?_setIfInBounds_ne (by decide)]; exact h0⟩,Obj.data_mapFields hd _,by simp [hsz],b1.fresh,tn,(Heap.get?_update_other _ _ (Ne.symm tn)).trans pT,by subst hob; rfl,?_⟩
  simp
theorem A0.two {e:Addr} {h:Heap} {oe:Obj} {vs:Array Value} (p:A0 h e) (he:h.get? e = some oe) (hd:oe.data = .fields vs):vs[2]? = some .none:=by
 obtain ⟨o',vs',q1,q2,q3⟩:=p
 rw [he] at q1; cases q1
 rw [hd] at q2; cases q2
 exact q3
theorem Kc {base:Heap} {env:Env} {outer:List Env} {L e:Addr} {cls a0:Value} {Q:Unit→Shared→Prop} (hfr:A.frames = some (env :: outer)) (hf:env.frame = some L) (hfl:Heap.FlyingW base (env :: outer) e cls a0 s.heap) (hp:A0 s.heap e)
  (hQ:∀ h',Heap.FlyingW base outer e cls a0 h'→s.heap.UpToSlots h'→A0 h' e→Q () { s with heap:=h' }):wpAny M A (leaving env (.ref e)) Q E s:=by
 obtain ⟨f1,f2,f3,oe,vs,T,oT,ts,he,⟨rfl,h0⟩,hd,h1,hnT,hTe,hT,hdT,h3⟩:=hfl
 have nf:∀ b o,s.heap.get? b = some o→(∀ ws,o.data ≠ .fields ws)→b≠T:=fun b o q n z=>by
  subst z; rw [hT] at q; cases q; exact n _ hdT
 have k1:∀ b,b≠T→(s.heap.update T (Obj.mapFields (·.setIfInBounds 3 Value.none))).get? b = s.heap.get? b:=fun b n=>Heap.get?_update_other _ _ (Ne.symm n)
 unfold leaving noteFrame
 simp only [hf]
 refine wpAny_bind (wpAny_bind (wpAny_field he hd h1 ?_))
 rw [if_pos (show (Value.ref T != Value.none) = true from by simp)]
 refine wpAny_bind (wpAny_field hT hdT h3 ?_)
 rw [if_neg (show ¬ ((Value.none == rawInt L) = true) from by simp [rawInt])]
 refine wpAny_bind (wpAny_setField hT hdT (Array.getElem?_eq_some_iff.mp h3).1 ?_)
 refine Hg hfr (f3.of_keeps fun b o q n=>⟨o,(k1 b (nf b o q n)).trans q,rfl⟩) hf ((k1 e (Ne.symm hTe)).trans he) (fun b o q=>(k1 b fun z=>by subst z; rw [hnT] at q; cases q).trans (f1 b o q)) f2 hd
  (Array.getElem?_eq_some_iff.mp h1).1 h0 (hp.two he hd) fun h' F u p=>?_
 obtain ⟨g1,g2,⟨_,_,g3⟩,g4⟩:=F
 exact hQ h' ⟨g1,g2,g3,g4⟩ (fun b o q n=>u b o ((k1 b (nf b o q n)).trans q) n) p
theorem LB {base:Heap} {env:Env} {outer:List Env} {L e:Addr} {cls a0:Value} {Q:Unit→Shared→Prop} (hfr:A.frames = some (env :: outer)) (hf:env.frame = some L) (hfl:Heap.FlyingW base (env :: outer) e cls a0 s.heap) (hp:A0 s.heap e)
  (hQ:∀ h',Heap.HeldW base (env :: outer) e cls a0 L h'→s.heap.UpToSlots h'→A0 h' e→Q () { s with heap:=h' }):wpAny M A (noteFrame (.ref e) env) Q E s:=by
 obtain ⟨f1,f2,f3,oe,vs,T,oT,ts,he,⟨rfl,h0⟩,hd,h1,hnT,hTe,hT,hdT,h3⟩:=hfl
 have nf:∀ b o,s.heap.get? b = some o→(∀ ws,o.data ≠ .fields ws)→b≠T:=fun b o q n z=>by
  subst z; rw [hT] at q; cases q; exact n _ hdT
 have k1:∀ b,b≠T→(s.heap.update T (Obj.mapFields (·.setIfInBounds 3 Value.none))).get? b = s.heap.get? b:=fun b n=>Heap.get?_update_other _ _ (Ne.symm n)
 unfold noteFrame
 simp only [hf]
 refine wpAny_bind (wpAny_field he hd h1 ?_)
 rw [if_pos (show (Value.ref T != Value.none) = true from by simp)]
 refine wpAny_bind (wpAny_field hT hdT h3 ?_)
 rw [if_neg (show ¬ ((Value.none == rawInt L) = true) from by simp [rawInt])]
 refine wpAny_bind (wpAny_setField hT hdT (Array.getElem?_eq_some_iff.mp h3).1 ?_)
 refine MC hfr (f3.of_keeps fun b o q n=>⟨o,(k1 b (nf b o q n)).trans q,rfl⟩) hf ((k1 e (Ne.symm hTe)).trans he) (fun b o q=>(k1 b fun z=>by subst z; rw [hnT] at q; cases q).trans (f1 b o q)) f2 hd
  (Array.getElem?_eq_some_iff.mp h1).1 h0 (hp.two he hd) fun h' F u p=>?_
 exact hQ h' F (fun b o q n=>u b o ((k1 b (nf b o q n)).trans q) n) p
theorem LA {base h:Heap} {env:Env} {outer:List Env} {L e:Addr} {cls:Value} {args:List Value} {Q:Unit→Shared→Prop} (hfr:A.frames = some (env :: outer)) (hf:env.frame = some L) (hkb:base.StaysIn h) (hl:h.FunFrames base (env :: outer))
  (hx:Heap.MadeExcOf h s.heap e cls args) (hQ:∀ h' t,Heap.FlyingW base outer e cls (.ref t) h'→s.heap.UpToSlots h'→A0 h' e→Q () { s with heap:=h' }):wpAny M A (leaving env (.ref e)) Q E s:=by
 obtain ⟨t,he,htn,ht⟩:=hx.there
 have fr:base.get? e = none:=by
  cases q:base.get? e with
  | none=>rfl
  | some o=>have:=hkb e o q; rw [hx.new] at this; cases this
 unfold leaving noteFrame
 simp only [hf]
 refine wpAny_bind (wpAny_bind (wpAny_field he rfl (x:=.none) rfl ?_))
 rw [if_neg (by decide)]
 refine Hg (a0:=.ref t) hfr (hl.of_keeps fun b o q _=>⟨o,hx.keeps b o q,rfl⟩) hf he (fun b o q=>hx.keeps b o (hkb b o q)) fr rfl (by simp) rfl rfl fun h' F u p=>?_
 obtain ⟨g1,g2,⟨_,_,g3⟩,g4⟩:=F
 exact hQ h' t ⟨g1,g2,g3,g4⟩ u p
end
noncomputable def clo (cells:List (Str × Addr)):List (Str × NameKind)→List (Str × Addr)→List (Str × Addr)
 | [],cs=>cs
 | (n,k) :: r,cs=>clo cells r (if (k == .free) = true then (n,(cells.lookup n).getD 0) :: cs else cs)
theorem Li {env:Env}:∀ (names:List (Str × NameKind)) (cs:List (Str × Addr)),(∀ x∈names,(x.2 == .free) = true→(env.cells.lookup x.1).isSome = true) →
  (forIn names cs fun (x:Str × NameKind) (r:List (Str × Addr))=>(if (x.2 == NameKind.free) = true then do let c ← cellOf env x.1; pure (ForInStep.yield ((x.1,c) :: r)) else pure (ForInStep.yield r):Sem (ForInStep (List (Str × Addr))))) = pure (clo env.cells names cs)
 | [],cs,_=>rfl
 | (n,k) :: r,cs,h=>by
  rw [List.forIn_cons]
  have hr:=fun cs'=>Li (env:=env) r cs' fun x hx=>h x (List.mem_cons_of_mem _ hx)
  cases hk:(k == NameKind.free) with
  | true =>
   have hc:=h (n,k) List.mem_cons_self hk
   obtain ⟨c,hc⟩:=Option.isSome_iff_exists.mp hc
   have e:cellOf env n = pure c:=by unfold cellOf; rw [hc]
   dsimp only at hc
   simp only [hk,if_true,e,pure_bind]
   rw [hr]
   simp only [clo,hk,if_true,hc,Option.getD_some]
  | false =>
   simp only [hk,Bool.false_eq_true,if_false,pure_bind]
   rw [hr]
   simp only [clo,hk,Bool.false_eq_true,if_false]
theorem Mz {env:Env} {scope:Scope} (h:∀ x∈scope.names,(x.2 == .free) = true→(env.cells.lookup x.1).isSome = true):closureFor scope env = pure (clo env.cells scope.names []):=by
 rw [← Li _ _ h]
 unfold closureFor
 simp
theorem NU {cells:List (Str × Addr)} {x:Str} {c:Addr}:∀ {names:List (Str × NameKind)} {cs:List (Str × Addr)},(∀ y∈names,(y.2 == .free) = true→(cells.lookup y.1).isSome = true) →
  (clo cells names cs).lookup x = some c→cs.lookup x = some c∨cells.lookup x = some c
 | [],_,_,h=>.inl h
 | (n,k) :: r,cs,hn,h=>by
  simp only [clo] at h
  have hr:=NU (names:=r) (fun y hy=>hn y (List.mem_cons_of_mem _ hy)) h
  rcases hr with hr | hr
  ·cases hk:(k == NameKind.free) with
   | true =>
    simp only [hk,if_true] at hr
    rw [List.lookup_cons] at hr
    cases hx:(x == n) with
    | true =>
     simp only [hx] at hr
     obtain ⟨c',hc'⟩:=Option.isSome_iff_exists.mp (hn (n,k) List.mem_cons_self hk)
     have hx':x = n:=by simpa using hx
     rw [hc'] at hr
     refine .inr ?_
     rw [hx']
     exact hc'.trans hr
    | false =>
     simp only [hx] at hr
     exact .inl hr
   | false =>
    simp only [hk,Bool.false_eq_true,if_false] at hr
    exact .inl hr
  ·exact .inr hr
theorem Lh {cells:List (Str × Addr)} {x:Str}:∀ {names:List (Str × NameKind)} {cs:List (Str × Addr)},(∃ c,cs.lookup x = some c)→∃ c,(clo cells names cs).lookup x = some c
 | [],_,h=>h
 | (n,k) :: r,cs,h=>by
  simp only [clo]
  refine Lh (names:=r) ?_
  cases hk:(k == NameKind.free) with
  | true =>
   simp only [if_true]
   rw [List.lookup_cons]
   cases hx:(x == n) with
   | true=>exact ⟨_,rfl⟩
   | false=>exact h
  | false =>
   simp only [Bool.false_eq_true,if_false]
   exact h
theorem JN {cells:List (Str × Addr)} {x:Str}:∀ {names:List (Str × NameKind)} {cs:List (Str × Addr)},names.lookup x = some .free→∃ c,(clo cells names cs).lookup x = some c
 | [],_,h=>by simp at h
 | (n,k) :: r,cs,h=>by
  rw [List.lookup_cons] at h
  simp only [clo]
  cases hx:(x == n) with
  | true =>
   simp only [hx] at h
   have hk:k = .free:=Option.some.inj h
   subst hk
   refine Lh (names:=r) ⟨(cells.lookup n).getD 0,?_⟩
   rw [if_pos (by decide),List.lookup_cons]
   simp only [hx]
  | false =>
   simp only [hx] at h
   exact JN (names:=r) h
noncomputable abbrev cxD (X:Cx) (own:List Str) (scope:Scope) (C:Addr) (cl:List (Str × Addr)) (fn:Str→Bool) (s:Shared) (H:Hp) (fp:List Addr) (pins:List (Addr × Obj)):Cx:=
 { X with N:=own ++ X.N,s₀:=s,H₀:=H,env:=compEnvC scope cl C X.env,outer:=X.stack,ex:=fp,fn:=fn,pn:=X.pn ++ pins,xe:=fun _ _=>False }
noncomputable abbrev cxC (X:Cx) (own:List Str) (scope:Scope) (C:Addr) (s:Shared) (H:Hp) (fp:List Addr) (pins:List (Addr × Obj)):Cx:=
 cxD X own scope C (clo X.env.cells scope.names []) (fun _=>false) s H fp pins
noncomputable def BX (own N:List Str) (sc sco:Scope):Bool:=
 N.all (fun x=>match sc.names.lookup x with
  | some .local=>false
  | some .cell=>false
  | some .free=>sco.names.lookup x == some .cell || sco.names.lookup x == some .free
  | _=>true) &&
 sc.names.all (fun y=>(y.2 != .cell) && (y.2 != .free || sco.names.lookup y.1 == some .cell || sco.names.lookup y.1 == some .free) && (y.2 != .local || sc.names.lookup y.1 == some .local)) &&
 (sc.kind == .function) && own.all fun x=>!N.contains x
theorem B5 {env:Env}:∀ {names:List (Str × NameKind)} {x:Str} {k:NameKind},
  (names.map fun (n,k)=>if (k == NameKind.free && env.scope.kind == .function && env.kindOf n == some .cell) then (n,NameKind.cell) else (n,k)).lookup x = some k →
  names.lookup x = some k∨(k = .cell∧names.lookup x = some .free)
 | [],_,_,h=>by simp at h
 | (n,j) :: r,x,k,h=>by
  have ih:=@B5 env r x k
  have h':List.lookup x ((if (j == NameKind.free && env.scope.kind == .function && env.kindOf n == some .cell) = true then (n,NameKind.cell) else (n,j)) :: _) = some k:=h
  rw [List.lookup_cons]
  cases hx:x == n with
  | true =>
   by_cases hc:(j == NameKind.free && env.scope.kind == .function && env.kindOf n == some .cell) = true
   ·rw [if_pos hc,List.lookup_cons] at h'
    simp only [hx] at h'
    have hj:j = .free:=by
     simp only [Bool.and_eq_true] at hc
     simpa using hc.1.1
    exact .inr ⟨(Option.some.inj h').symm,by simp only [hj]⟩
   ·rw [if_neg hc,List.lookup_cons] at h'
    simp only [hx] at h'
    exact .inl h'
  | false =>
   refine ih ?_
   by_cases hc:(j == NameKind.free && env.scope.kind == .function && env.kindOf n == some .cell) = true
   ·rw [if_pos hc,List.lookup_cons] at h'
    simp only [hx] at h'
    exact h'
   ·rw [if_neg hc,List.lookup_cons] at h'
    simp only [hx] at h'
    exact h'
theorem HQ {prog:Program} {w:World} {A:Around} {R:Result→Shared→Prop} {s:Shared} {elt target iter:Expr} {ifs:List Expr} {scope:Scope} {pos:Pos} {it acc:Value} {env:Env} (I:Nat→Shared→Prop)
  (turn:∀ n s,I n s→wpAny (model prog w) A (pyNext it) (fun r s₁=>match r with
   | none=>R (.ok .next) s₁
   | some v=>wpAny (model prog w) A (letOwnedTupleGo target it v) (fun _ s₁'=>wpAny (model prog w) A (assign target env v) (fun _ s₂ =>
     wpAny (model prog w) A (forIn ifs true fun c r=>if r = true then do let ok ← isTrue c env (eval c env); pure (ForInStep.yield ok) else pure (ForInStep.yield r)) (fun ok s₃ =>
      if ok = true then wpAny (model prog w) A (eval elt env) (fun x s₄ =>
       wpAny (model prog w) A (call (.builtin "list.append") [acc,x]) (fun _ s₅=>∃ m,m < n∧I m s₅) (fun _ _=>False) s₄) (fun _ _=>False) s₃
      else ∃ m,m < n∧I m s₃) (fun _ _=>False) s₂) (fun _ _=>False) s₁') (fun _ _=>False) s₁) (fun _ _=>False) s)
  (n:Nat) (h:I n s):codeAny (model prog w) A (.compLoop (.ListComp elt [⟨target,iter,ifs,0⟩] scope pos) 0 it acc env) R s:=by
 refine codeAny_loop rfl I (fun n s hI=>?_) n h
 show wpAny _ A ((compTurn (.ListComp elt [⟨target,iter,ifs,0⟩] scope pos) 0 it acc env).onRaise (fun x=>do noteFrame x env; theTreesLotGoes x)) _ _ s
 refine wpAny_noted ?_
 rw [compTurn_list]
 refine wpAny_bind (wpAny_standAt (wpAny_bind (wpAny_mono (turn n s hI) (fun r s₁ h₁=>?_) fun _ _ h'=>h'.elim)))
 cases r with
 | none=>exact wpAny_pure h₁
 | some v =>
  refine wpAny_bind (wpAny_mono h₁ (fun _ s₁' h₁'=>?_) fun _ _ h'=>h'.elim)
  refine wpAny_bind (wpAny_mono h₁' (fun _ s₂ h₂=>wpAny_bind (wpAny_mono h₂ (fun ok s₃ h₃=>?_) fun _ _ h'=>h'.elim)) fun _ _ h'=>h'.elim)
  cases ok with
  | false=>exact wpAny_pure ⟨rfl,h₃⟩
  | true =>
   exact wpAny_bind (wpAny_bind (wpAny_mono h₃ (fun x s₄ h₄=>wpAny_bind (wpAny_mono h₄ (fun _ s₅ h₅=>wpAny_pure (wpAny_pure ⟨rfl,h₅⟩)) fun _ _ h'=>h'.elim)) fun _ _ h'=>h'.elim))
noncomputable def PTs (X:Cx) (ifs:List Expr) (t:TT):Prop:=
 ∀ (pins:List (Addr × Obj)) (s:Shared) (σ:St) (H:Hp) (Q:Bool→Hp→Prop),Inv X pins σ H s→t σ H Q →
  wpAny (model X.prog X.w) X.A (forIn ifs true fun c r=>if r = true then do let ok ← isTrue c X.env (eval c X.env); pure (ForInStep.yield ok) else pure (ForInStep.yield r)) (TP X pins σ Q) X.xe s
noncomputable def WT:TT:=fun _ H Q=>Q true H
theorem Sx {X:Cx}:PTs X [] WT:=fun _ _ _ H _ I h=>wpAny_tests_nil ⟨H,I,h⟩
theorem Sy {X:Cx} {c:Expr} {t:TT} (h:PT X c t):PTs X [c] t:=fun pins s σ H Q I q=>wpAny_tests_one (h pins s σ H Q I q)
noncomputable abbrev TU:=V→Hp→List V→Prop
noncomputable def PGo (X:Cx) (target:Expr) (n:Nat) (un:TU):Prop:=
 ∀ (pins:List (Addr × Obj)) (s:Shared) (σ0 σ:St) (H:Hp) (v:V) (u:Value) (vs:List V),σ0.length = n→Inv X pins (σ0 ++ σ) H s→RelV v u→un v H vs →
  wpAny (model X.prog X.w) X.A (assign target X.env u) (fun _ s'=>vs.length = n∧Inv X pins (vs.map some ++ σ) H s') X.xe s
noncomputable def Rm:TU:=fun v _ vs=>vs = [v]
theorem Up {α:Type} {l:List α} (h:l.length = 1):∃ o,l = [o]:=by
 cases l with
 | nil=>cases h
 | cons a t=>cases t with
  | nil=>exact ⟨a,rfl⟩
  | cons b t=>cases h
theorem V3 {α:Type} {l:List α} (h:l.length = 2):∃ o p,l = [o,p]:=by
 cases l with
 | nil=>cases h
 | cons a t =>
  obtain ⟨p,rfl⟩:=Up (Nat.succ.inj h)
  exact ⟨a,p,rfl⟩
theorem Iq {X:Cx} {x:Str} {pos:Pos} (hi:X.N[0]? = some x) (hN:X.N.Nodup) (hx:X.env.scope.names.lookup x = some .local):PGo X (.Name x pos) 1 Rm:=by
 intro pins s σ0 σ H v u vs hl I r h
 obtain ⟨o,rfl⟩:=Up hl
 cases h
 exact wpAny_assign_Name (EA I hN hi (.inl hx) r (fun s' I'=>⟨rfl,I'⟩) (.inr hx))
noncomputable def LcR (J:It) (un:TU) (tc:TT) (te:TE) (σ:St) (H1:Hp) (Q:VK):Prop:=∀ acc,H1 acc = none→∃ W:Nat→Nat→List V→Hp→Prop,(∃ m,W 0 m [] (upd H1 acc (.lst [])))∧∀ i m ys H,W i m ys H→H acc = some (.lst ys) ∧
 ((J.stop i H∧Q (.ref acc) H)∨(J.go i H∧∀ x H',J.yld i H x H'→∃ vs,un x H' vs∧tc (vs.map some ++ σ) H' fun b H3 =>
  if b = true then te (vs.map some ++ σ) H3 fun v H4=>H4 acc = some (.lst ys)∧ys.length < sizeLine∧∃ m',m' < m∧W (i + 1) m' (ys ++ [v]) (upd H4 acc (.lst (ys ++ [v])))
  else ∃ m',m' < m∧W (i + 1) m' ys H3))
noncomputable def tLc (wi:TI) (un:TU) (tc:TT) (te:TE):TE:=fun σ H Q=>wi σ H fun J H1=>LcR J un tc te σ H1 Q
section
variable {X:Cx} {pins:List (Addr × Obj)} {σ:St} {H:Hp} {s:Shared}
theorem BX.free {own:List Str} {scope:Scope} (hok:BX own X.N scope X.env.scope = true) (I:Inv X pins σ H s):∀ x∈scope.names,(x.2 == NameKind.free) = true→(X.env.cells.lookup x.1).isSome = true:=fun x hx hf=>by
 simp only [BX,Bool.and_eq_true,List.all_eq_true] at hok
 have:=(hok.1.1.2 x hx).1.2
 have hf':x.2 = .free:=by simpa using hf
 rw [hf'] at this
 simp only [bne_self_eq_false,Bool.false_or,Bool.or_eq_true] at this
 obtain ⟨c,hc⟩:=I.ok.has x.1 (this.elim (fun z=>.inl (by simpa [Env.kindOf] using z)) fun z=>.inr (by simpa [Env.kindOf] using z))
 rw [hc]; rfl
theorem Jq {own:List Str} {scope:Scope} {fp:List Addr} {h1:Heap} {t':Nat} (hok:BX own X.N scope X.env.scope = true) (I:Inv X pins σ H s) (f2:∀ b∈fp,Eb X pins H b) (fo:∀ b∈fp,∃ o,s.heap.get? b = some o)
  (hns:h1.Ns s.heap.objs.size fun _=>none) (hk:∀ b o,s.heap.get? b = some o→h1.get? b = some o) :
  Inv (cxC X own scope s.heap.objs.size s H fp pins) [] (List.replicate own.length none ++ σ) H { s with heap:=h1,toks:=t' }:=by
 have hfree:=BX.free hok I
 simp only [BX,Bool.and_eq_true,List.all_eq_true] at hok
 obtain ⟨⟨⟨hN,hS⟩,hkd⟩,hown⟩:=hok
 have hkind:scope.kind = .function:=by simpa using hkd
 have sub:∀ x c,(clo X.env.cells scope.names []).lookup x = some c→X.env.cells.lookup x = some c:=fun x c e=>by
  rcases NU hfree e with z | z
  ·simp at z
  ·exact z
 have ltS:∀ {b:Addr} {o:Obj},s.heap.get? b = some o→b≠s.heap.objs.size:=fun e=>Nat.ne_of_lt (Heap.lt_size e)
 have isFree:∀ x,((relabel scope X.env).names.lookup x = some .cell∨(relabel scope X.env).names.lookup x = some .free)→scope.names.lookup x = some .free:=fun x hx'=>by
  rcases hx' with z | z
  ·rcases B5 z with z | z
   ·have:=(hS _ (PySem.mem_of_lookup z)).1.1
    simp at this
   ·exact z.2
  ·rcases B5 z with z | z
   ·exact z
   ·cases z.1
 refine ⟨⟨I.ok.mod,hkind,I.ok.glob,I.ok.blt,Nat.le_refl _,fun x y c e1 e2=>I.ok.inj x y c (sub x c e1) (sub y c e2),fun x hx=>JN (isFree x hx),fun x c z=>(by cases z),I.ok.hd,I.ok.frames,.inl rfl,fun b hb=>?_,I.bs,Nat.le_trans I.ok.bsz I.sz,fun b o e hb=>?_,fun b hb hz=>?_,I.stack,I.stkFree,I.tabs⟩,
  rfl,I.bare,Un.kept hk,⟨_,hns,fun i x v e1 e2 e3=>?_⟩,fun x c e=>?_,I.hok.fresh (Nat.le_refl _),fun x c e=>I.freeC x c (sub x c e),fun p hp=>?_,I.hok.kept hk,?_⟩
 ·refine ⟨fun z=>?_,fun x c e z=>?_⟩
  ·obtain ⟨o,e⟩:=fo b hb
   exact ltS e z
  ·exact (f2 b hb).2.2.2.2.1 x c (sub x c e) z
 ·obtain ⟨_,_,_,f4,_⟩:=f2 b hb
  rcases f4 with f4 | f4
  ·exact I.ok.noex b o e f4
  ·have:=Nat.lt_of_lt_of_le (Heap.lt_size e) (Nat.le_trans I.ok.bsz f4)
   exact absurd this (Nat.lt_irrefl _)
 ·obtain ⟨_,f1,f3,_⟩:=f2 b hb
  rcases List.mem_cons.mp (I.stkSub b hz) with z | z
  ·exact f1 z
  ·exact f3 z
 ·by_cases hi:i < own.length
  ·rw [List.getElem?_append_left (by simpa using hi),List.getElem?_replicate] at e2
   split at e2 <;> cases e2
  ·have e1':X.N[i - own.length]? = some x:=by
    have e1:(own ++ X.N)[i]? = some x:=e1
    rw [List.getElem?_append_right (by omega)] at e1
    exact e1
   have e2' : σ[i - own.length]? = some (some v):=by
    rw [List.getElem?_append_right (by simpa using hi)] at e2
    simpa using e2
   have hx:=hN x (List.mem_of_getElem? e1')
   have q:scope.names.lookup x = some .free:=by
    rcases e3 with z | z
    ·rcases B5 z with z | z
     ·rw [z] at hx; cases hx
     ·cases z.1
    ·exact isFree x z
   rw [q] at hx
   simp only [Bool.or_eq_true] at hx
   have hx2:X.env.scope.names.lookup x = some .cell∨X.env.scope.names.lookup x = some .free:=hx.elim (fun z=>.inl (by simpa using z)) fun z=>.inr (by simpa using z)
   obtain ⟨m,_,hl⟩:=I.loc
   obtain ⟨u,r,l⟩:=hl _ x v e1' e2' (.inr hx2)
   refine ⟨u,r,?_⟩
   obtain ⟨c',hc'⟩:=JN (cells:=X.env.cells) (cs:=[]) q
   rcases l with ⟨k,_⟩ | ⟨k,c,hc,o,ho,hd⟩
   ·have k':X.env.scope.names.lookup x = some .local:=k
    rcases hx2 with z | z <;> (rw [k'] at z; cases z)
   ·have ec:=sub x c' hc'
    have ec':c' = c:=Option.some.inj (ec.symm.trans hc)
    rw [ec'] at hc'
    refine .inr ⟨?_,c,hc',o,hk c o ho,hd⟩
    rcases e3 with z | z
    ·rcases B5 z with z | z
     ·rw [q] at z; cases z
     ·cases z.1
    ·exact z
 ·obtain ⟨v,o,ho,hd⟩:=I.cell x c (sub x c e)
  exact ⟨v,o,hk c o ho,hd⟩
 ·have hp':p∈X.pn ++ pins:=by simpa using hp
  obtain ⟨e,n,ne,nf,d⟩:=I.pin p hp'
  refine ⟨hk _ _ e,n,ltS e,fun hz=>?_,d⟩
  rcases List.mem_cons.mp (I.stkSub p.1 hz) with z | z
  ·exact ne z
  ·exact nf z
 ·show (List.replicate own.length none ++ σ).length = (own ++ X.N).length
  rw [List.length_append,List.length_replicate,List.length_append,I.len]
theorem E9 {own:List Str} {scope:Scope} {fp:List Addr} {cl:List (Str × Addr)} {fn:Str→Bool} {σ':St} {H':Hp} {s':Shared} {h':Heap} (I:Inv X pins σ H s) (f2:∀ b∈fp,Eb X pins H b)
  (J:Inv (cxD X own scope s.heap.objs.size cl fn s H fp pins) [] σ' H' s') (hs:Heap.SameBut s.heap.objs.size s'.heap h'):Inv X pins σ H' { s' with heap:=h' }:=by
 have lt:∀ {b:Addr} {o:Obj},s.heap.get? b = some o→b≠s.heap.objs.size:=fun e=>Nat.ne_of_lt (Heap.lt_size e)
 have hC:H' s.heap.objs.size = none:=J.free
 have u:=J.base
 refine I.call' (s':={ s' with heap:=h' }) (ch:=fp) J.os ⟨fun b o e n hb hx=>(hs.2 b (lt e)).trans (u.keep b o e n hb hx),fun b o e n hb hx=>?_,u.free,fun b o e hx=>?_,u.tups,u.frzs,u.tbls⟩ (fun b o e=>?_) J.bare fun b hb=>?_
 ·obtain ⟨sl,q⟩:=u.slot b o e n hb hx
  exact ⟨sl,(hs.2 b (lt e)).trans q⟩
 ·obtain ⟨o',q⟩:=u.there b o e hx
  exact ⟨o',(hs.2 b (lt e)).trans q⟩
 ·refine (J.hok b o e).stay (fun c w' hc q=>(hs.2 c ?_).trans q) (fun _ q=>q) fun _ _ q=>q
  rintro rfl
  rcases hc with z | z
  ·rw [← z,hC] at e; cases e
  ·rw [hC] at z; cases z
 ·obtain ⟨_,f1,_,f4,f5,f6⟩:=f2 b hb
  exact ⟨f4,f1,f5,f6⟩
theorem Q7 {own:List Str} {scope:Scope} {fp:List Addr} {it:Addr} {tn:Nat→Heap→Prop} {J:It} {target iter elt:Expr} {ifs:List Expr} {pos:Pos} {un:TU} {tc:TT} {te:TE} {acc:Addr} {Q:VK} {R:Result→Shared→Prop}
  {cl:List (Str × Addr)} {fn:Str→Bool} {h1:Heap} {t1:Nat} (hc:X.calm = true)
  (hg:PGo (cxD X own scope s.heap.objs.size cl fn s H fp pins) target own.length un) (ht:PTs (cxD X own scope s.heap.objs.size cl fn s H fp pins) ifs tc) (he:PE (cxD X own scope s.heap.objs.size cl fn s H fp pins) elt te)
  (I:Inv X pins σ H s) (T:Turn X.prog X.w X.K target J fp it tn) (st:tn 0 s.heap) (f2:∀ b∈fp,Eb X pins H b)
  (W:Nat→Nat→List V→Hp→Prop) (w0:∃ m,W 0 m [] H)
  (turn:∀ i m ys H,W i m ys H→H acc = some (.lst ys) ∧
   ((J.stop i H∧Q (.ref acc) H)∨(J.go i H∧∀ x H',J.yld i H x H'→∃ vs,un x H' vs∧tc (vs.map some ++ σ) H' fun b H3 =>
    if b = true then te (vs.map some ++ σ) H3 fun v H4=>H4 acc = some (.lst ys)∧ys.length < sizeLine∧∃ m',m' < m∧W (i + 1) m' (ys ++ [v]) (upd H4 acc (.lst (ys ++ [v])))
    else ∃ m',m' < m∧W (i + 1) m' ys H3)))
  (fin:∀ s' σ' H',Inv (cxD X own scope s.heap.objs.size cl fn s H fp pins) [] σ' H' s'→Q (.ref acc) H'→R (.ok .next) s')
  (hk:∀ b o,s.heap.get? b = some o→h1.get? b = some o) (I0:Inv (cxD X own scope s.heap.objs.size cl fn s H fp pins) [] (List.replicate own.length none ++ σ) H { s with heap:=h1,toks:=t1 }) :
  codeAny (model X.prog X.w) X.A (.compStart (.ListComp elt [⟨target,iter,ifs,0⟩] scope pos) 0 (.ref it) (.ref acc) (compEnvC scope cl s.heap.objs.size X.env)) R { s with heap:=h1,toks:=t1 }:=by
 have st1:tn 0 h1:=T.keep _ _ _ st fun b _ o e=>hk b o e
 have stat:∀ {H':Hp},(∀ b∈fp,H' b = none)→∀ b∈fp,Eb (cxD X own scope s.heap.objs.size cl fn s H fp pins) [] H' b:=fun hn b hb=>by
  obtain ⟨_,f1,f3,_,f5,f6⟩:=f2 b hb
  obtain ⟨o,e,_⟩:=T.obj _ _ st b hb
  refine ⟨hn b hb,Nat.ne_of_lt (Heap.lt_size e),fun hz=>?_,.inl hb,(I0.ok.exf b hb).2,fun p hp=>f6 p (by simpa using hp)⟩
  rcases List.mem_cons.mp (I.stkSub b hz) with z | z
  ·exact f1 z
  ·exact f3 z
 have loop:∀ s4,s4 = { s with heap:=h1,toks:=t1 }→codeAny (model X.prog X.w) X.A (.compLoop (.ListComp elt [⟨target,iter,ifs,0⟩] scope pos) 0 (.ref it) (.ref acc) (compEnvC scope cl s.heap.objs.size X.env)) R s4:=by
  rintro s4 rfl
  obtain ⟨m0,w0⟩:=w0
  refine HQ (fun n s'=>∃ i ys σ0 H',σ0.length = own.length∧Inv (cxD X own scope s.heap.objs.size cl fn s H fp pins) [] (σ0 ++ σ) H' s'∧tn i s'.heap∧(∀ b∈fp,H' b = none)∧W i n ys H') ?_ m0 ⟨0,[],_,H,by rw [List.length_replicate],I0,st1,fun b hb=>(f2 b hb).1,w0⟩
  rintro n s3 ⟨i,ys,σ0,H3,hl3,I3,st3,fr3,w3⟩
  obtain ⟨ha,turn3⟩:=turn i n ys H3 w3
  rcases turn3 with ⟨stop,qn⟩ | ⟨go,step⟩
  ·refine thn (T.done (cxD X own scope s.heap.objs.size cl fn s H fp pins) rfl rfl rfl hc i [] s3 _ H3 _ I3 (stat fr3) st3 stop) fun r s4 yy=>?_
   obtain ⟨hr,I4⟩:=yy
   subst hr
   exact fin s4 _ H3 I4 qn
  ·refine thn (T.item (cxD X own scope s.heap.objs.size cl fn s H fp pins) rfl rfl rfl hc i [] s3 _ H3 _ I3 (stat fr3) st3 go) fun r s4 yy=>?_
   obtain ⟨u,hr,h4⟩:=yy
   subst hr
   refine thn h4 fun _ s5 yy=>?_
   obtain ⟨x,H5,I5,r5,y5,st5,fr5⟩:=yy
   obtain ⟨vs,hu,q5⟩:=step x H5 y5
   have I5':=I5.pinned (stat fr5) (T.obj _ _ st5)
   have again:∀ {H7:Hp} {s7:Shared},vs.length = own.length→Inv (cxD X own scope s.heap.objs.size cl fn s H fp pins) ([] ++ G7 fp s5.heap) (vs.map some ++ σ) H7 s7→∀ {ys'},(∃ m',m' < n∧W (i + 1) m' ys' H7) →
     ∃ m,m < n∧∃ i ys σ0 H',σ0.length = own.length∧Inv (cxD X own scope s.heap.objs.size cl fn s H fp pins) [] (σ0 ++ σ) H' s7∧tn i s7.heap∧(∀ b∈fp,H' b = none)∧W i m ys H':=fun {H7 s7} hl I7 {ys'} ⟨m',hm,w7⟩=>by
    refine ⟨m',hm,i + 1,ys',vs.map some,H7,by rw [List.length_map,hl],I7.unpinned,T.keep _ _ _ st5 fun b hb o e=>(I7.pin (b,o) (List.mem_append_right _ (List.mem_append_right _ (C1 hb e)))).1,fun b hb=>?_,w7⟩
    obtain ⟨o,e,d⟩:=T.obj _ _ st5 b hb
    exact (I7.pin (b,o) (List.mem_append_right _ (List.mem_append_right _ (C1 hb e)))).2.1
   refine thn (hg _ s5 σ0 σ H5 x u vs hl3 I5' r5 hu) fun _ s6 yy=>?_
   obtain ⟨hl,I6⟩:=yy
   refine thn (ht _ s6 _ H5 _ I6 q5) fun ok s7 yy=>?_
   obtain ⟨H7,I7,q7⟩:=yy
   cases ok with
   | false =>
    rw [if_neg Bool.false_ne_true] at q7
    rw [if_neg Bool.false_ne_true]
    exact again hl I7 q7
   | true =>
    rw [if_pos rfl] at q7
    rw [if_pos rfl]
    refine thn (he _ s7 _ H7 _ I7 q7) fun v s8 yy=>?_
    obtain ⟨y,H8,I8,r8,ha8,hz8,q8⟩:=yy
    refine thn (GW _ s8 _ H8 (.ref acc) [y] (.ref acc) [v] (fun _ H9=>∃ m',m' < n∧W (i + 1) m' (ys ++ [y]) H9) I8 rfl (.cons r8 .nil) ⟨acc,ys,y,rfl,rfl,ha8,hz8,q8⟩) fun _ s9 yy=>?_
    obtain ⟨_,H9,I9,_,q9⟩:=yy
    exact again hl I9 q9
 exact codeAny_compStart_list (loop _ rfl) (T.self X.A 0 _ _ _ st1 (loop _ rfl))
theorem Jw {own:List Str} {scope:Scope} {fp:List Addr} {it:Addr} {tn:Nat→Heap→Prop} {J:It} {target iter elt:Expr} {ifs:List Expr} {pos:Pos} {un:TU} {tc:TT} {te:TE} {acc:Addr} {Q:VK} {R:Result→Shared→Prop}
  {E:Value→Shared→Prop} (hc:X.calm = true) (hok:BX own X.N scope X.env.scope = true)
  (hg:∀ C s H fp pins,PGo (cxC X own scope C s H fp pins) target own.length un) (ht:∀ C s H fp pins,PTs (cxC X own scope C s H fp pins) ifs tc) (he:∀ C s H fp pins,PE (cxC X own scope C s H fp pins) elt te)
  (I:Inv X pins σ H s) (T:Turn X.prog X.w X.K target J fp it tn) (st:tn 0 s.heap) (f2:∀ b∈fp,Eb X pins H b)
  (W:Nat→Nat→List V→Hp→Prop) (w0:∃ m,W 0 m [] H)
  (turn:∀ i m ys H,W i m ys H→H acc = some (.lst ys) ∧
   ((J.stop i H∧Q (.ref acc) H)∨(J.go i H∧∀ x H',J.yld i H x H'→∃ vs,un x H' vs∧tc (vs.map some ++ σ) H' fun b H3 =>
    if b = true then te (vs.map some ++ σ) H3 fun v H4=>H4 acc = some (.lst ys)∧ys.length < sizeLine∧∃ m',m' < m∧W (i + 1) m' (ys ++ [v]) (upd H4 acc (.lst (ys ++ [v])))
    else ∃ m',m' < m∧W (i + 1) m' ys H3)))
  (fin:∀ s' σ' H',Inv (cxC X own scope s.heap.objs.size s H fp pins) [] σ' H' s'→Q (.ref acc) H'→R (.ok .next) s') :
  wpAny (model X.prog X.w) X.A (newFunctionEnv scope X.env.globals (clo X.env.cells scope.names []) [] X.env.qual none .none (some X.env)) (fun cenv s₄ =>
   cenv.locals = s.heap.objs.size∧codeAny (model X.prog X.w) X.A (.compStart (.ListComp elt [⟨target,iter,ifs,0⟩] scope pos) 0 (.ref it) (.ref acc) { cenv with scope:=relabel scope X.env }) R s₄) E s:=by
 have hcell:∀ x∈scope.names,x.2 ≠ .cell:=fun x hx z=>by
  simp only [BX,Bool.and_eq_true,List.all_eq_true] at hok
  have:=(hok.1.1.2 x hx).1.1
  rw [z] at this
  simp at this
 have hkind:scope.kind = .function:=by
  simp only [BX,Bool.and_eq_true] at hok
  simpa using hok.1.2
 refine wpAny_newFunctionEnv hcell (fun x hx=>by simp at hx) (fun h1 hns hsb=>⟨rfl,?_⟩) hkind
 have hk:∀ b o,s.heap.get? b = some o→h1.get? b = some o:=fun b o e=>(hsb.2 b (Nat.ne_of_lt (Heap.lt_size e))).trans (Heap.get?_push_of_some _ e)
 have I0:Inv (cxC X own scope s.heap.objs.size s H fp pins) [] (List.replicate own.length none ++ σ) H { s with heap:=h1,toks:=s.toks + ([]:List (Str × Value)).length }:=
  Jq hok I f2 (fun b hb=>let ⟨o,e,_⟩:=T.obj _ _ st b hb; ⟨o,e⟩) (by simpa using hns) hk
 exact Q7 (iter:=iter) (pos:=pos) hc (hg _ _ _ _ _) (ht _ _ _ _ _) (he _ _ _ _ _) I T st f2 W w0 turn fin hk I0
end
section
variable {X:Cx}
theorem BX.names {own N:List Str} {scope sco:Scope} (hok:BX own N scope sco = true):∀ x∈scope.names,x.2 = .local→scope.names.lookup x.1 = some .local:=fun x hx hl=>by
 simp only [BX,Bool.and_eq_true,List.all_eq_true] at hok
 have:=(hok.1.1.2 x hx).2
 rw [hl] at this
 simpa using this
theorem BX.kind {own N:List Str} {scope sco:Scope} (hok:BX own N scope sco = true):scope.kind = .function:=by
 simp only [BX,Bool.and_eq_true] at hok
 simpa using hok.1.2
theorem We {own:List Str} {scope:Scope} {target iter elt:Expr} {ifs:List Expr} {pos:Pos} {wi:TI} {un:TU} {tc:TT} {te:TE} (hc:X.calm = true) (hok:BX own X.N scope X.env.scope = true) (hi:PI X target iter wi)
  (hg:∀ C s H fp pins,PGo (cxC X own scope C s H fp pins) target own.length un) (ht:∀ C s H fp pins,PTs (cxC X own scope C s H fp pins) ifs tc) (he:∀ C s H fp pins,PE (cxC X own scope C s H fp pins) elt te)
  (hs:∀ x,foldedSetIterable iter X.env x = pure x:=by intro _; rfl):PE X (.ListComp elt [⟨target,iter,ifs,0⟩] scope pos) (tLc wi un tc te):=by
 intro pins s σ H Q I h
 rw [eval_ListComp]
 refine wpAny_comprehension_free (use:=none) rfl hs (Mz (BX.free hok I)) (BX.kind hok) (BX.names hok) ?_
 refine thn (hi pins s σ H _ I h) fun v s1 h1=>thn h1 fun itv s2 h2=>?_
 obtain ⟨it,fp,tn,J,H2,e,I2,T,st2,f2,q⟩:=h2
 subst e
 obtain ⟨W,w0,turn⟩:=q s2.heap.objs.size I2.fresh
 refine wpAny_newObj_type (hd:=by size_fits) ?_
 have I3:Inv X pins σ (upd H2 s2.heap.objs.size (.lst [])) { s2 with heap:=s2.heap.push { cls:=.type "list",data:=.seq ([]:List Value).toArray } }:=I2.lnew (its:=[]) (t':=s2.toks) .nil (Nat.zero_le _)
 have st3:tn 0 (s2.heap.push { cls:=.type "list",data:=.seq ([]:List Value).toArray }):=T.keep _ _ _ st2 fun b _ o e=>Heap.get?_push_of_some _ e
 have f3:∀ b∈fp,Eb X pins (upd H2 s2.heap.objs.size (.lst [])) b:=fun b hb=>by
  obtain ⟨o,e,_⟩:=T.obj _ _ st2 b hb
  exact ⟨by rw [Ax (Nat.ne_of_lt (Heap.lt_size e))]; exact (f2 b hb).1,(f2 b hb).2⟩
 refine thn (Jw (iter:=iter) (pos:=pos) (R:=compPost (model X.prog X.w) X.A X.xe none (EP X pins σ Q) (.ref s2.heap.objs.size) (s2.heap.push { cls:=.type "list",data:=.seq ([]:List Value).toArray }).objs.size) hc hok hg ht he I3 T st3 f3 W w0 turn fun s' σ' H' J' q'=>?_) fun cenv s4 ⟨el,h4⟩=>?_
 ·obtain ⟨m,hn,_⟩:=J'.loc
  exact ⟨m,hn,fun h' hs'=>⟨.ref s2.heap.objs.size,H',E9 I3 f3 J' hs',rfl,q'⟩⟩
 ·have el':cenv.locals = (s2.heap.push { cls:=.type "list",data:=.seq ([]:List Value).toArray }).objs.size:=el
  rw [← el'] at h4
  exact h4
end
section
variable {X:Cx}
theorem QU {i:Nat} {y:Str} {py spos:Pos} {own:List Str} {scope:Scope} {target iter elt:Expr} {ifs:List Expr} {pos:Pos} {wi:TI} {un:TU} {tc:TT} {te:TE} (nd:X.N.Nodup) (hiN:X.N[i]? = some y) (hy:X.env.scope.names.lookup y = some .local)
  (hc:X.calm = true) (hok:BX own X.N scope X.env.scope = true) (hi:PI X target iter wi)
  (hg:∀ C s H fp pins,PGo (cxC X own scope C s H fp pins) target own.length un) (ht:∀ C s H fp pins,PTs (cxC X own scope C s H fp pins) ifs tc) (he:∀ C s H fp pins,PE (cxC X own scope C s H fp pins) elt te)
  (hs:∀ x,foldedSetIterable iter X.env x = pure x:=by intro _; rfl)
  (hsw:swapsWith (.ListComp elt [⟨target,iter,ifs,0⟩] scope pos) (some (.Name y py)) spos.line X.env = pure true:=by rfl) :
  PS X (.Assign [.Name y py] (.ListComp elt [⟨target,iter,ifs,0⟩] scope pos) spos) (ND (tLc wi un tc te) (Gu i)):=by
 intro pins s σ H D I h
 rw [exec_Assign_Name_used _ _ _ _ hsw]
 refine wpAny_bind (wpAny_standAt (wpAny_bind ?_))
 show wpAny _ X.A (do let _ ← comprehension (.ListComp elt [⟨target,iter,ifs,0⟩] scope pos) scope X.env _ (newList []) false (eval iter X.env) (some (assign (.Name y py) X.env))) _ _ s
 refine wpAny_bind (wpAny_mono (wpAny_comprehension_free (use:=some (assign (.Name y py) X.env)) (Q:=fun _ s'=>SP X pins D .next s') rfl hs (Mz (BX.free hok I)) (BX.kind hok) (BX.names hok) ?_) (fun _ s' hq=>wpAny_pure (wpAny_pure hq)) fun _ _ e=>e)
 refine thn (hi pins s σ H _ I h) fun v s1 h1=>thn h1 fun itv s2 h2=>?_
 obtain ⟨it,fp,tn,J,H2,e,I2,T,st2,f2,q⟩:=h2
 subst e
 obtain ⟨W,w0,turn⟩:=q s2.heap.objs.size I2.fresh
 refine wpAny_newObj_type (hd:=by size_fits) ?_
 have I3:Inv X pins σ (upd H2 s2.heap.objs.size (.lst [])) { s2 with heap:=s2.heap.push { cls:=.type "list",data:=.seq ([]:List Value).toArray } }:=I2.lnew (its:=[]) (t':=s2.toks) .nil (Nat.zero_le _)
 have st3:tn 0 (s2.heap.push { cls:=.type "list",data:=.seq ([]:List Value).toArray }):=T.keep _ _ _ st2 fun b _ o e=>Heap.get?_push_of_some _ e
 have f3:∀ b∈fp,Eb X pins (upd H2 s2.heap.objs.size (.lst [])) b:=fun b hb=>by
  obtain ⟨o,e,_⟩:=T.obj _ _ st2 b hb
  exact ⟨by rw [Ax (Nat.ne_of_lt (Heap.lt_size e))]; exact (f2 b hb).1,(f2 b hb).2⟩
 generalize hS:({ s2 with heap:=s2.heap.push { cls:=.type "list",data:=.seq ([]:List Value).toArray } }:Shared) = s3 at I3 st3
 have st3':tn 0 s3.heap:=by rw [← hS]; exact st3
 refine thn (Jw (iter:=iter) (pos:=pos) (acc:=s2.heap.objs.size) (Q:=fun x H1=>Gu i x σ H1 D.nx) (R:=compPost (model X.prog X.w) X.A X.xe (some (assign (.Name y py) X.env)) (fun _ s'=>SP X pins D .next s') (.ref s2.heap.objs.size) s3.heap.objs.size) hc hok hg ht he I3 T st3' f3 W w0 turn fun s' σ' H' J' q'=>?_) fun cenv s4 ⟨el,h4⟩=>?_
 ·have I4:Inv X pins σ H' s':=E9 I3 f3 J' (h':=s'.heap) (.refl ..)
  obtain ⟨m,⟨oC,es,ep,hoC,hdC,hrC⟩,_⟩:=J'.loc
  have hCL:s3.heap.objs.size≠X.env.locals:=Nat.ne_of_gt I3.lt
  have hfs:s3.heap.objs.size ∉ X.fs:=I3.nofs (Nat.le_refl _)
  have hCc:∀ x c,X.env.cells.lookup x = some c→c≠s3.heap.objs.size:=fun x c e=>by
   obtain ⟨v,z⟩:=I3.cell x c e
   exact Nat.ne_of_lt z.lt
  have hCp:∀ p∈X.pn ++ pins,p.1≠s3.heap.objs.size:=fun p hp=>Nat.ne_of_lt (Heap.lt_size (I3.pin p hp).1)
  have I5:Inv X (pins ++ [(s3.heap.objs.size,oC)]) σ H' s':=I4.pins_of fun p hp=>(List.mem_append.mp hp).elim (fun z=>I4.pin p (List.mem_append_right _ z)) fun z=>by
   have z':p = (s3.heap.objs.size,oC):=by simpa using z
   subst z'
   exact ⟨hoC,J'.free,hCL,hfs,fun v=>by rw [hdC]; intro z; cases z⟩
  show wpAny _ X.A (assign (.Name y py) X.env (.ref s2.heap.objs.size)) _ _ s'
  refine wpAny_assign_Name (EA I5 nd hiN (.inl hy) (v:=.ref s2.heap.objs.size) rfl (fun s6 I6=>?_) (.inr hy))
  have hp:=I6.pin (s3.heap.objs.size,oC) (List.mem_append_right _ (List.mem_append_right _ (by simp)))
  refine ⟨m,⟨oC,es,ep,hp.1,hdC,hrC⟩,fun h' hs'=>?_⟩
  exact ⟨_,H',I6.unpinned.turned (h':=h') (t':=s6.toks) (it:=s3.heap.objs.size) (fun b o hb e=>(hs'.2 b hb).trans e) hp.2.1 hCL (.inr I3.sz) hCc hCp,q'⟩
 ·rw [← el] at h4
  exact h4
end
noncomputable def Its (x:Str):It:=⟨fun i _=>i < x.cps.size,fun i H v H'=>H' = H∧∃ c,x.cps[i]? = some c∧v = .str ⟨#[c]⟩,fun i _=>x.cps.size≤i⟩
theorem Heap.IsStrIter.at' {h h':Heap} {a ty x t i} (y:h.IsStrIter a ty x t i) (e:∀ o,h.get? a = some o→h'.get? a = some o):h'.IsStrIter a ty x t i:=let ⟨o,ho,r⟩:=y; ⟨o,e _ ho,r⟩
theorem Rj {P:Program} {w:World} {K:Frag} {tg:Expr} (it:Addr) (x:Str) (t:Tok) (ty:String) (hty:ty = "str_ascii_iterator" ∨ ty = "str_iterator"):Turn P w K tg (Its x) [it] it (fun i h=>h.IsStrIter it ty x t i) where
 mem:=by simp
 obj:=fun i h st b hb=>by
  have e:b = it:=by simpa using hb
  subst e
  obtain ⟨o,e,c,d⟩:=st
  exact ⟨o,e,fun v z=>by rw [d] at z; cases z⟩
 keep:=fun i h h' st k=>Heap.IsStrIter.at' st fun o e=>k it (by simp) o e
 item:=by
  intro X hP hw hK hc i pins s σ H E I hf st hg
  subst hP hw hK
  have hg':i < x.cps.size:=hg
  have hx:x.cps[i]? = some x.cps[i]:=by simp [hg']
  obtain ⟨f0,f1,f2,f3,f4,f5⟩:=hf it (by simp)
  have fin:∀ h',h'.IsStrIter it ty x t (i + 1)→Heap.SameBut it s.heap h'→∃ u,some (Value.str ⟨#[x.cps[i]]⟩ s.toks) = some u ∧
    wpAny (model X.prog X.w) X.A (letOwnedTupleGo tg (.ref it) u) (fun _ s2=>∃ y H',Inv X pins σ H' s2∧RelV y u∧(Its x).yld i H y H'∧s2.heap.IsStrIter it ty x t (i + 1)∧∀ b∈[it],H' b = none) E { s with heap:=h',toks:=s.toks + 1 }:=fun h' st' sb=>by
   have I1:Inv X pins σ H { s with heap:=h',toks:=s.toks + 1 }:=I.turned (fun b o hb e=>(sb.2 b hb).trans e) f0 f1 f3 f4 f5
   obtain ⟨o,e,c,d⟩:=id st'
   exact ⟨_,rfl,Jp (s:={ s with heap:=h',toks:=s.toks + 1 }) e c d (by rcases hty with rfl | rfl <;> decide) ⟨.str ⟨#[x.cps[i]]⟩,H,I1,⟨_,rfl⟩,⟨rfl,_,hx,rfl⟩,st',fun b hb=>(hf b hb).1⟩⟩
  rcases hty with rfl | rfl
  ·exact wpAny_pyNext_ascii_item st hx fin
  ·exact wpAny_pyNext_wide_item st hx fin
 done:=by
  intro X hP hw hK hc i pins s σ H E I hf st hg
  subst hP hw hK
  have hg':x.cps.size≤i:=hg
  have hx:x.cps[i]? = none:=by simp [hg']
  obtain ⟨f0,f1,f2,f3,f4,f5⟩:=hf it (by simp)
  rcases hty with rfl | rfl
  ·exact wpAny_pyNext_ascii_end (I.ok.hd hc) st hx fun h' eb=>⟨rfl,I.turned (t':=s.toks) (fun b o hb e=>eb b o hb e) f0 f1 f3 f4 f5⟩
  ·exact wpAny_pyNext_wide_end (I.ok.hd hc) st hx fun h' eb=>⟨rfl,I.turned (t':=s.toks) (fun b o hb e=>eb b o hb e) f0 f1 f3 f4 f5⟩
 self:=fun _ _ _ _ _ st h=>by
  rcases hty with rfl | rfl
  ·exact wpAny_pyIter_striter_ascii st h
  ·exact wpAny_pyIter_striter_wide st h
section
variable {X:Cx} {tg:Expr}
noncomputable def V1 (tl:TE):TI:=fun σ H R=>tl σ H fun x H1=>∃ z,x = .str z∧R (Its z) H1
theorem U6 {l:Expr} {tl:TE} (hl:PE X l tl):PI X tg l (V1 tl):=by
 intro pins s σ H R I h
 refine thn (hl pins s σ H _ I h) fun v s1 yy=>?_
 obtain ⟨x,H1,I1,r1,q1⟩:=yy
 obtain ⟨z,e,q⟩:=q1
 subst e
 obtain ⟨t,rfl⟩:=r1
 have fin:∀ ty:String,(ty = "str_ascii_iterator" ∨ ty = "str_iterator")→PIE X pins σ tg R (.ref s1.heap.objs.size) { s1 with heap:=s1.heap.push { cls:=.type ty,data:=.fields #[.str z t,.int 0 0] } }:=fun ty hty=>by
  have I2:Inv X pins σ H1 { s1 with heap:=s1.heap.push { cls:=.type ty,data:=.fields #[.str z t,.int 0 0] } }:=I1.kept (t':=s1.toks) fun b o e=>Heap.get?_push_of_some _ e
  refine ⟨_,[s1.heap.objs.size],_,Its z,H1,rfl,I2,Rj _ z t ty hty,⟨_,Heap.get?_push_size _ rfl,rfl,rfl⟩,fun b hb=>?_,q⟩
  have e:b = s1.heap.objs.size:=by simpa using hb
  subst e
  exact I1.fpOk (Nat.le_refl _) (I1.hok.fresh (Nat.le_refl _))
 by_cases ha:z.cps.all (· < 128) = true
 ·exact wpAny_pyIter_ascii ha (fin _ (.inl rfl))
 ·exact wpAny_pyIter_wide (by simpa using ha) (fin _ (.inr rfl))
end
section
variable {X:Cx}
noncomputable def DH (bs:List Bool):List V:=bs.map V.bl
theorem E4 (hc:X.calm = true):Cc X (.builtin "all") (fun xs H Q=>∃ p bs,xs = [.ref p]∧SqL X.K H p (DH bs)∧Q (.bl (bs.all id)) H):=by
 intro pins s σ H xs us Q I r h
 obtain ⟨p,bs,rfl,hq,q⟩:=h
 obtain ⟨u,rfl,ru⟩:=r.one
 cases ru
 obtain ⟨its,rv,pl,hz⟩:=I.list hq
 have hl:=rv.length
 refine call_all_walk (wpAny_pyIter_list pl.isList ?_)
 have hne:p≠s.heap.objs.size:=fun z=>by
  obtain ⟨o,e,_⟩:=pl.isList
  exact absurd (Heap.lt_size e) (by rw [z]; exact Nat.lt_irrefl _)
 have hlen:its.toArray.size = bs.length:=by rw [List.size_toArray,← hl]; simp [DH]
 refine ⟨_,_,_,_,_,_,fun i=>(bs[i]?).getD true,rfl,Walks.list (by show X.A.handled = none; exact I.ok.hd hc) s.heap.objs.size p hne its.toArray,⟨⟨_,Heap.get?_push_size _ rfl,rfl,rfl⟩,?_⟩,?_,?_⟩
 ·obtain ⟨o,e,r⟩:=pl.isList
  exact ⟨o,Heap.get?_push_of_some _ e,r⟩
 ·intro i v s' Q' E' hv hq'
  have hi:i < its.length:=by
   by_cases hi:i < its.length
   ·exact hi
   ·have:its.toArray[i]? = none:=by simp; lia
    rw [this] at hv; cases hv
  have hb:i < bs.length:=by simp [DH] at hl; lia
  obtain ⟨u,hu,ru⟩:=rv.get (i:=i) (x:=.bl bs[i]) (by simp [DH,hb])
  have e:v = .bool bs[i]:=by
   have:its.toArray[i]? = some u:=by simpa using hu
   rw [this] at hv
   cases hv
   exact ru
  subst e
  dsimp only at hq'
  rw [show (bs[i]?).getD true = bs[i] by simp [hb]] at hq'
  exact wpAny_truthy_bool hq'
 ·intro h' tk hk
  have I1:Inv X pins σ H { s with heap:=h',toks:=tk }:=I.kept fun b o e=>hk b o (fun z=>by
   have z':b = s.heap.objs.size:=by simpa using z
   exact absurd (Heap.lt_size e) (by rw [z']; exact Nat.lt_irrefl _)) (Heap.get?_push_of_some _ e)
  refine ⟨.bl _,H,I1,rfl,?_⟩
  have e:(List.range its.toArray.size).all (fun i=>(bs[i]?).getD true) = bs.all id:=by
   rw [hlen,Bool.eq_iff_iff]
   simp only [List.all_eq_true,List.mem_range,id_eq]
   constructor
   ·intro h b hb
    obtain ⟨i,hi,rfl⟩:=List.mem_iff_getElem.mp hb
    have:=h i hi
    simpa [hi] using this
   ·intro h i hi
    simpa [hi] using h bs[i] (List.getElem_mem hi)
  rw [e]
  exact q
theorem HP (hc:X.calm = true):Cc X (.builtin "any") (fun xs H Q=>∃ p bs,xs = [.ref p]∧SqL X.K H p (DH bs)∧Q (.bl (bs.any id)) H):=by
 intro pins s σ H xs us Q I r h
 obtain ⟨p,bs,rfl,hq,q⟩:=h
 obtain ⟨u,rfl,ru⟩:=r.one
 cases ru
 obtain ⟨its,rv,pl,hz⟩:=I.list hq
 have hl:=rv.length
 refine call_any_walk (wpAny_pyIter_list pl.isList ?_)
 have hne:p≠s.heap.objs.size:=fun z=>by
  obtain ⟨o,e,_⟩:=pl.isList
  exact absurd (Heap.lt_size e) (by rw [z]; exact Nat.lt_irrefl _)
 have hlen:its.toArray.size = bs.length:=by rw [List.size_toArray,← hl]; simp [DH]
 refine ⟨_,_,_,_,_,_,fun i=>(bs[i]?).getD false,rfl,Walks.list (by show X.A.handled = none; exact I.ok.hd hc) s.heap.objs.size p hne its.toArray,⟨⟨_,Heap.get?_push_size _ rfl,rfl,rfl⟩,?_⟩,?_,?_⟩
 ·obtain ⟨o,e,r⟩:=pl.isList
  exact ⟨o,Heap.get?_push_of_some _ e,r⟩
 ·intro i v s' Q' E' hv hq'
  have hi:i < its.length:=by
   by_cases hi:i < its.length
   ·exact hi
   ·have:its.toArray[i]? = none:=by simp; lia
    rw [this] at hv; cases hv
  have hb:i < bs.length:=by simp [DH] at hl; lia
  obtain ⟨u,hu,ru⟩:=rv.get (i:=i) (x:=.bl bs[i]) (by simp [DH,hb])
  have e:v = .bool bs[i]:=by
   have:its.toArray[i]? = some u:=by simpa using hu
   rw [this] at hv
   cases hv
   exact ru
  subst e
  dsimp only at hq'
  rw [show (bs[i]?).getD false = bs[i] by simp [hb]] at hq'
  exact wpAny_truthy_bool hq'
 ·intro h' tk hk
  have I1:Inv X pins σ H { s with heap:=h',toks:=tk }:=I.kept fun b o e=>hk b o (fun z=>by
   have z':b = s.heap.objs.size:=by simpa using z
   exact absurd (Heap.lt_size e) (by rw [z']; exact Nat.lt_irrefl _)) (Heap.get?_push_of_some _ e)
  refine ⟨.bl _,H,I1,rfl,?_⟩
  have e:(List.range its.toArray.size).any (fun i=>(bs[i]?).getD false) = bs.any id:=by
   rw [hlen,Bool.eq_iff_iff]
   simp only [List.any_eq_true,List.mem_range,id_eq]
   constructor
   ·rintro ⟨i,hi,h⟩
    exact ⟨bs[i],List.getElem_mem hi,by simpa [hi] using h⟩
   ·rintro ⟨b,hb,h⟩
    obtain ⟨i,hi,rfl⟩:=List.mem_iff_getElem.mp hb
    exact ⟨i,hi,by simpa [hi] using h⟩
  rw [e]
  exact q
end
section
variable {X:Cx} {e:Expr} {te:TE} {p q pos:Pos} {x:Str} {T:String}
noncomputable def Mm (H:Hp):V→Option String
 | .non=>some "NoneType"
 | .bl _=>some "bool"
 | .int _=>some "int"
 | .str _=>some "str"
 | .ref a=>match H a with
  | some (.lst _)=>some "list"
  | some (.tup _)=>some "tuple"
  | _=>none
 | _=>none
theorem S3 {K:Frag} {H:Hp} {v:V} {t:String} (h:Mm H v = some t):TyOf K H v (.type t):=by
 cases v with
 | non=>cases h; exact .non
 | bl b=>cases h; exact .bl b
 | int i=>cases h; exact .int i
 | str z=>cases h; exact .str z
 | ref a =>
  unfold Mm at h
  dsimp only at h
  split at h
  ·rename_i e; cases h; exact .lst e
  ·rename_i e; cases h; exact .tup e
  ·cases h
 | _=>cases h
end
inductive RepA (N:Addr→Prop) (H:Hp):V→D→Prop where
 | non:RepA N H .non .non
 | bl (b:Bool):RepA N H (.bl b) (.bl b)
 | int (i:Int):RepA N H (.int i) (.int i)
 | str (x:Str) (hx:x.length≤sizeLine):RepA N H (.str x) (.str x)
 | lst {a:Addr} {vs:List V} {ds:List D} (h:H a = some (.lst vs)) (hz:vs.length≤sizeLine) (hn:¬ N a) (hl:vs.length = ds.length) (hr:∀ (i:Nat) v d,vs[i]? = some v→ds[i]? = some d→RepA N H v d):RepA N H (.ref a) (.lst ds)
 | tup {a:Addr} {vs:List V} {ds:List D} (h:H a = some (.tup vs)) (hz:vs.length≤sizeLine) (hl:vs.length = ds.length) (hr:∀ (i:Nat) v d,vs[i]? = some v→ds[i]? = some d→RepA N H v d):RepA N H (.ref a) (.tup ds)
noncomputable abbrev Rep:=RepA fun _=>False
theorem RepA.weak {N N':Addr→Prop} {H:Hp} (hn:∀ a,N' a→N a) {v:V} {d:D} (r:RepA N H v d):RepA N' H v d:=by
 induction r with
 | non=>exact .non
 | bl b=>exact .bl b
 | int i=>exact .int i
 | str x hx=>exact .str x hx
 | lst h hz n hl _ ih=>exact .lst h hz (fun z=>n (hn _ z)) hl ih
 | tup h hz hl _ ih=>exact .tup h hz hl ih
theorem RepA.rep {N:Addr→Prop} {H:Hp} {v:V} {d:D} (r:RepA N H v d):Rep H v d:=r.weak fun _ z=>z.elim
theorem RepA.inj {N N':Addr→Prop} {H:Hp} {v:V} {d e:D} (r:RepA N H v d) (q:RepA N' H v e):d = e:=by
 induction r generalizing e with
 | non=>cases q; rfl
 | bl b=>cases q; rfl
 | int i=>cases q; rfl
 | str x=>cases q; rfl
 | lst h hz hn hl hr ih =>
  cases q with
  | lst h' hz' hn' hl' hr' =>
   rw [h] at h'; cases h'
   congr 1
   refine List.ext_getElem? fun i=>?_
   rename_i vs ds es
   by_cases hi:i < vs.length
   ·have e1:ds[i]? = some ds[i]:=by simp [← hl,hi]
    have e2:es[i]? = some es[i]:=by simp [← hl',hi]
    rw [e1,e2,ih i vs[i] ds[i] (by simp [hi]) e1 (hr' i vs[i] es[i] (by simp [hi]) e2)]
   ·rw [List.getElem?_eq_none (by omega),List.getElem?_eq_none (by omega)]
  | tup h'=>rw [h] at h'; cases h'
 | tup h hz hl hr ih =>
  cases q with
  | tup h' hz' hl' hr' =>
   rw [h] at h'; cases h'
   congr 1
   refine List.ext_getElem? fun i=>?_
   rename_i vs ds es
   by_cases hi:i < vs.length
   ·have e1:ds[i]? = some ds[i]:=by simp [← hl,hi]
    have e2:es[i]? = some es[i]:=by simp [← hl',hi]
    rw [e1,e2,ih i vs[i] ds[i] (by simp [hi]) e1 (hr' i vs[i] es[i] (by simp [hi]) e2)]
   ·rw [List.getElem?_eq_none (by omega),List.getElem?_eq_none (by omega)]
  | lst h'=>rw [h] at h'; cases h'
structure Def (P:Program) (w:World) (K:Frag) (mg:Str→Option Value) (base:Heap) (CX:CXT) (k:Nat) (x:Str) (ps:List Str) (sp:Sp):Prop where
 ex:∃ (f:Addr) (fd:FuncData),mg x = some (.ref f)∧PySem.W.keepIn K (.ref f) = true∧Binds K fd ps []∧FnOk P w K mg base CX k f fd ps sp
section
variable {X:Cx}
theorem G5 {CX:CXT} {k j:Nat} {x:Str} {ps:List Str} {sp:Sp} {E:XK} {p pos:Pos} {e:Expr} {es:List Expr} {t:TA} (D:Def X.prog X.w X.K X.mg X.base CX k x ps sp) (hr:Room j X.A) (hkj:k≤j) (hx:Passes CX X E) (ha:PA X (e :: es) t)
  (hg:Gl X x:=by rfl) (hdb:(x == ("__debug__" : Str)) = false:=by decide +kernel)
  (he:starEach (e :: es) X.env = (false,eval e X.env) :: starEach es X.env:=by rfl) (hpl:(backTo pos (starEach es X.env)).any (·.1) = false:=by rfl):PE X (.Call (.Name x p) (e :: es) [] pos) (Mi sp [] E t):=by
 obtain ⟨f,fd,a,b,c,d⟩:=D.ex
 exact Sf d (hr.mono hkj) hg a b c .nil hx ha hdb he hpl
end
noncomputable def isI (t T:String):Bool:=t == T || (t == "bool" && T == "int")
theorem OQ {K:Frag} {t T:String} (ht:t∈["NoneType","bool","int","str","list","tuple"]) (hT:T∈["int","bool","tuple","list","str"]):PySem.W.kitOne K (.type t) (.type T) = some (isI t T):=by
 simp only [List.mem_cons,List.not_mem_nil,or_false] at ht hT
 rcases ht with rfl | rfl | rfl | rfl | rfl | rfl <;> rcases hT with rfl | rfl | rfl | rfl | rfl <;>
  kernel_rfl
theorem Rl {H:Hp} {v:V} {t:String} (h:Mm H v = some t):t∈["NoneType","bool","int","str","list","tuple"]:=by
 cases v with
 | non=>cases h; simp
 | bl b=>cases h; simp
 | int i=>cases h; simp
 | str z=>cases h; simp
 | ref a =>
  unfold Mm at h
  dsimp only at h
  split at h
  ·cases h; simp
  ·cases h; simp
  ·cases h
 | _=>cases h
section
variable {X:Cx}
theorem Pz:Cc X (.builtin "isinstance") (fun xs H Q=>∃ x t T,xs = [x,.ty T]∧Mm H x = some t∧T∈["int","bool","tuple","list","str"]∧Q (.bl (isI t T)) H):=by
 intro pins s σ H xs us Q I r h
 obtain ⟨x,t,T,rfl,ht,hT,q⟩:=h
 obtain ⟨u,v,rfl,ru,rv⟩:=r.two
 cases rv
 exact OL I ru (S3 ht) (OQ (Rl ht) hT) fun tk=>⟨.bl _,H,I.tok tk,rfl,q⟩
end
noncomputable def FG:D→String
 | .non => "NoneType"
 | .bl _ => "bool"
 | .int _ => "int"
 | .str _ => "str"
 | .lst _ => "list"
 | .tup _ => "tuple"
theorem RepA.typ {N:Addr→Prop} {H:Hp} {v:V} {d:D} (r:RepA N H v d):Mm H v = some (FG d):=by
 cases r with
 | non=>rfl
 | bl b=>rfl
 | int i=>rfl
 | str x=>rfl
 | lst h=>simp only [Mm,h,FG]
 | tup h=>simp only [Mm,h,FG]
mutual
noncomputable def eqD:D→D→Bool
 | .non,.non=>true
 | .bl a,.bl b=>a == b
 | .bl a,.int b=>(if a then 1 else 0) == b
 | .int a,.bl b=>a == (if b then 1 else 0)
 | .int a,.int b=>a == b
 | .str a,.str b=>a == b
 | .lst xs,.lst ys=>DV xs ys
 | .tup xs,.tup ys=>DV xs ys
 | _,_=>false
noncomputable def DV:List D→List D→Bool
 | [],[]=>true
 | x :: xs,y :: ys=>eqD x y && DV xs ys
 | _,_=>false
end
theorem Gn (x y:List D):eqD (.lst x) (.lst y) = DV x y:=rfl
theorem FH (x y:List D):eqD (.tup x) (.tup y) = DV x y:=rfl
theorem E7 (x y:Int):eqD (.int x) (.int y) = (x == y):=rfl
theorem Hh (x y:Str):eqD (.str x) (.str y) = (x == y):=rfl
theorem HV (x y:Bool):eqD (.bl x) (.bl y) = (x == y):=rfl
theorem MD (x y:D) (xs ys:List D):DV (x :: xs) (y :: ys) = (eqD x y && DV xs ys):=rfl
theorem Dg:∀ {xs ys:List D},DV xs ys = true→xs.length = ys.length
 | [],[],_=>rfl
 | [],_ :: _,h=>nomatch h
 | _ :: _,[],h=>nomatch h
 | x :: xs,y :: ys,h=>by
  rw [MD,Bool.and_eq_true] at h
  simp [Dg h.2]
theorem Df:∀ {xs ys:List D},xs.length = ys.length→DV xs ys = (List.range xs.length).all fun i=>eqD (xs.getD i .non) (ys.getD i .non)
 | [],[],_=>rfl
 | x :: xs,y :: ys,h=>by
  have ih:=Df (xs:=xs) (ys:=ys) (by simpa using h)
  rw [MD,ih,List.length_cons,List.range_succ_eq_map,List.all_cons,List.all_map]
  rfl
mutual
theorem Ep:∀ d,eqD d d = true
 | .non=>rfl
 | .bl a=>by rw [HV]; exact beq_self_eq_true a
 | .int a=>by rw [E7]; exact beq_self_eq_true a
 | .str a=>by rw [Hh]; exact beq_self_eq_true a
 | .lst xs=>GN xs
 | .tup xs=>GN xs
theorem GN:∀ ds,DV ds ds = true
 | []=>rfl
 | d :: ds=>by rw [MD,Ep d,GN ds]; rfl
end
section
variable {P:Program} {w:World} {H:Hp} {s:Shared} {N N':Addr→Prop}
theorem A3 (hok:HOk P w H s.heap) {a:Addr} {vs:List V} (h:H a = some (.lst vs)):∃ its:List Value,Vals vs its∧s.heap.IsList a its.toArray:=by
 obtain ⟨z,its,n,r,e⟩:=hok a _ h
 exact ⟨its,r,_,e,rfl,_,rfl⟩
theorem Be (hok:HOk P w H s.heap) {a:Addr} {vs:List V} (h:H a = some (.tup vs)):∃ its:List Value,Vals vs its∧s.heap.IsTuple a its.toArray:=by
 obtain ⟨z,its,r,p⟩:=hok a _ h
 exact ⟨its,r,p⟩
theorem Er {A:Around} {vs vs':List V} {its its':List Value} {ds es:List D} (r:Vals vs its) (r':Vals vs' its') (hl:vs.length = ds.length) (hl':vs'.length = es.length)
  (f:∀ (i:Nat) v d v' e u u',vs[i]? = some v→ds[i]? = some d→vs'[i]? = some v'→es[i]? = some e→RelV v u→RelV v' u'→SeqAt.EqAt A s u u' (eqD d e)) :
  ∀ j (h1:j < its.toArray.size) (h2:j < its'.toArray.size),SeqAt.EqAt A s its.toArray[j] its'.toArray[j] (eqD (ds.getD j .non) (es.getD j .non)):=fun j h1 h2=>by
 have e1:=r.length
 have e2:=r'.length
 have h1':j < its.length:=by simpa using h1
 have h2':j < its'.length:=by simpa using h2
 have b1:j < vs.length:=by lia
 have b2:j < vs'.length:=by lia
 have b3:j < ds.length:=by lia
 have b4:j < es.length:=by lia
 obtain ⟨u,hu,ru⟩:=r.get (i:=j) (x:=vs[j]) (by simp)
 obtain ⟨u',hu',ru'⟩:=r'.get (i:=j) (x:=vs'[j]) (by simp)
 have q:=f j _ (ds[j]) _ (es[j]) u u' (by simp) (by simp) (by simp) (by simp) ru ru'
 have g1:its.toArray[j] = u:=by
  have:its[j]? = some (its[j]):=by simp [h1']
  rw [this] at hu
  simpa using hu
 have g2:its'.toArray[j] = u':=by
  have:its'[j]? = some (its'[j]):=by simp [h2']
  rw [this] at hu'
  simpa using hu'
 rw [g1,g2]
 have g3:ds.getD j .non = ds[j]:=by simp [List.getD,b3]
 have g4:es.getD j .non = es[j]:=by simp [List.getD,b4]
 rw [g3,g4]
 exact q
theorem lt0 {a n c:Nat} (h:a + n < c):a < c:=by lia
theorem lt1 {a n c:Nat} (h:a + (n + 1) < c):a + 1 + n < c:=by lia
theorem HU (hok:HOk P w H s.heap) {x:V} {d:D} (r:RepA N H x d):∀ {A:Around} {n:Nat} {y:V} {e:D} {v u:Value},RepA N' H y e→RelV x v→RelV y u→Sh n d→A.units + n < cLine→SeqAt.EqAt A s v u (eqD d e):=by
 induction r with
 | non =>
  intro A n y e v u q rx ry _ hu
  cases rx
  cases q with
  | non=>cases ry; exact SeqAt.EqAt.same _
  | bl b=>cases ry; exact SeqAt.EqAt.none_bool b
  | int b=>obtain ⟨t,rfl⟩:=ry; exact SeqAt.EqAt.none_int b t
  | str b=>obtain ⟨t,rfl⟩:=ry; exact SeqAt.EqAt.none_str b t
  | lst h=>cases ry; obtain ⟨its,_,hl⟩:=A3 hok h; exact SeqAt.EqAt.none_list hl (lt0 hu)
  | tup h=>cases ry; obtain ⟨its,_,hl⟩:=Be hok h; exact SeqAt.EqAt.none_tuple hl (lt0 hu)
 | bl a =>
  intro A n y e v u q rx ry _ hu
  cases rx
  cases q with
  | non=>cases ry; exact SeqAt.EqAt.bool_none a
  | bl b=>cases ry; exact SeqAt.EqAt.bool_bool a b
  | int b=>obtain ⟨t,rfl⟩:=ry; exact SeqAt.EqAt.bool_int a b t
  | str b=>obtain ⟨t,rfl⟩:=ry; exact SeqAt.EqAt.bool_str a b t
  | lst h=>cases ry; obtain ⟨its,_,hl⟩:=A3 hok h; exact SeqAt.EqAt.bool_list a hl (lt0 hu)
  | tup h=>cases ry; obtain ⟨its,_,hl⟩:=Be hok h; exact SeqAt.EqAt.bool_tuple a hl (lt0 hu)
 | int a =>
  intro A n y e v u q rx ry _ hu
  obtain ⟨t',rfl⟩:=rx
  cases q with
  | non=>cases ry; exact SeqAt.EqAt.int_none a t'
  | bl b=>cases ry; exact SeqAt.EqAt.int_bool a t' b
  | int b=>obtain ⟨t,rfl⟩:=ry; exact SeqAt.EqAt.int_int a t' b t
  | str b=>obtain ⟨t,rfl⟩:=ry; exact SeqAt.EqAt.int_str a t' b t
  | lst h=>cases ry; obtain ⟨its,_,hl⟩:=A3 hok h; exact SeqAt.EqAt.int_list a t' hl (lt0 hu)
  | tup h=>cases ry; obtain ⟨its,_,hl⟩:=Be hok h; exact SeqAt.EqAt.int_tuple a t' hl (lt0 hu)
 | str a =>
  intro A n y e v u q rx ry _ hu
  obtain ⟨t',rfl⟩:=rx
  cases q with
  | non=>cases ry; exact SeqAt.EqAt.str_none a t'
  | bl b=>cases ry; exact SeqAt.EqAt.str_bool a t' b
  | int b=>obtain ⟨t,rfl⟩:=ry; exact SeqAt.EqAt.str_int a t' b t
  | str b=>obtain ⟨t,rfl⟩:=ry; exact SeqAt.EqAt.str_str a t' b t
  | lst h=>cases ry; obtain ⟨its,_,hl⟩:=A3 hok h; exact SeqAt.EqAt.str_list a t' hl (lt0 hu)
  | tup h=>cases ry; obtain ⟨its,_,hl⟩:=Be hok h; exact SeqAt.EqAt.str_tuple a t' hl (lt0 hu)
 | @lst a vs ds h hz hn hl hr ih =>
  intro A n y e v u q rx ry hs hu
  cases rx
  obtain ⟨its,rv,hil⟩:=A3 hok h
  cases hs with
  | @lst n _ hs =>
   cases q with
   | non=>cases ry; exact SeqAt.EqAt.list_none hil (lt0 hu)
   | bl b=>cases ry; exact SeqAt.EqAt.list_bool b hil (lt0 hu)
   | int b=>obtain ⟨t,rfl⟩:=ry; exact SeqAt.EqAt.list_int b t hil (lt0 hu)
   | str b=>obtain ⟨t,rfl⟩:=ry; exact SeqAt.EqAt.list_str b t hil (lt0 hu)
   | @lst a' vs' es h' hz' hn' hl' hr' =>
    cases ry
    by_cases hab:a = a'
    ·subst hab
     have e:=(RepA.lst h hz hn hl hr).inj (RepA.lst h' hz' hn' hl' hr')
     cases e
     rw [Ep]
     exact SeqAt.EqAt.same _
    ·obtain ⟨its',rv',hil'⟩:=A3 hok h'
     have l1:=rv.length
     have l2:=rv'.length
     refine SeqAt.EqAt.of_refs hab ?_
     rw [Gn]
     by_cases hlen:ds.length = es.length
     ·rw [Df hlen,show ds.length = its.toArray.size by simp; lia]
      refine SeqAt.RcAt.lists hil hil' (by simp; lia) (lt0 hu) (Er rv rv' hl hl' fun i v d v' e u u' e1 e2 e3 e4 ru ru'=>?_)
      exact ih i v d e1 e2 (hr' i v' e e3 e4) ru ru' (hs d (List.mem_of_getElem? e2)) (lt1 hu)
     ·have:DV ds es = false:=by
       cases q:DV ds es with
       | false=>rfl
       | true=>exact absurd (Dg q) hlen
      rw [this]
      exact SeqAt.RcAt.lists_lengths hil hil' (by simp; lia) (lt0 hu)
   | tup h' =>
    cases ry
    obtain ⟨its',_,hl'⟩:=Be hok h'
    exact SeqAt.EqAt.list_tuple hil hl' (lt0 hu)
 | @tup a vs ds h hz hl hr ih =>
  intro A n y e v u q rx ry hs hu
  cases rx
  obtain ⟨its,rv,hil⟩:=Be hok h
  cases hs with
  | @tup n _ hs =>
   cases q with
   | non=>cases ry; exact SeqAt.EqAt.tuple_none hil (lt0 hu)
   | bl b=>cases ry; exact SeqAt.EqAt.tuple_bool b hil (lt0 hu)
   | int b=>obtain ⟨t,rfl⟩:=ry; exact SeqAt.EqAt.tuple_int b t hil (lt0 hu)
   | str b=>obtain ⟨t,rfl⟩:=ry; exact SeqAt.EqAt.tuple_str b t hil (lt0 hu)
   | @tup a' vs' es h' hz' hl' hr' =>
    cases ry
    by_cases hab:a = a'
    ·subst hab
     have e:=(RepA.tup (N:=N) h hz hl hr).inj (RepA.tup h' hz' hl' hr')
     cases e
     rw [Ep]
     exact SeqAt.EqAt.same _
    ·obtain ⟨its',rv',hil'⟩:=Be hok h'
     have l1:=rv.length
     have l2:=rv'.length
     refine SeqAt.EqAt.of_refs hab ?_
     have q:=SeqAt.RcAt.tuples (A:=A) hil hil' (lt0 hu) (Er rv rv' hl hl' fun i v d v' e u u' e1 e2 e3 e4 ru ru'=>ih i v d e1 e2 (hr' i v' e e3 e4) ru ru' (hs d (List.mem_of_getElem? e2)) (lt1 hu))
     rw [FH]
     by_cases hlen:ds.length = es.length
     ·have e1:(its.toArray.size == its'.toArray.size) = true:=by simp; lia
      have e2:min its.toArray.size its'.toArray.size = ds.length:=by simp; lia
      rw [e1,e2,Bool.and_true,← Df hlen] at q
      exact q
     ·have e1:(its.toArray.size == its'.toArray.size) = false:=by simp; lia
      have e3:DV ds es = false:=by
       cases q:DV ds es with
       | false=>rfl
       | true=>exact absurd (Dg q) hlen
      rw [e1,Bool.and_false] at q
      rw [e3]
      exact q
   | lst h' =>
    cases ry
    obtain ⟨its',_,hl'⟩:=A3 hok h'
    exact SeqAt.EqAt.tuple_list hil hl' (lt0 hu)
theorem Vd (hok:HOk P w H s.heap) {A:Around} {n:Nat} {x y:V} {d e:D} {v u:Value} (r:RepA N H x d) (q:RepA N' H y e) (rx:RelV x v) (ry:RelV y u) (hs:Sh n d) (hu:A.units + n < cLine):SeqAt.RcAt A s v u (eqD d e):=by
 cases r with
 | non =>
  cases rx
  cases q with
  | non=>cases ry; exact SeqAt.RcAt.none_none
  | bl b=>cases ry; exact SeqAt.RcAt.none_bool b
  | int b=>obtain ⟨t,rfl⟩:=ry; exact SeqAt.RcAt.none_int b t
  | str b=>obtain ⟨t,rfl⟩:=ry; exact SeqAt.RcAt.none_str b t
  | lst h=>cases ry; obtain ⟨its,_,hl⟩:=A3 hok h; exact SeqAt.RcAt.none_list hl (lt0 hu)
  | tup h=>cases ry; obtain ⟨its,_,hl⟩:=Be hok h; exact SeqAt.RcAt.none_tuple hl (lt0 hu)
 | bl a =>
  cases rx
  cases q with
  | non=>cases ry; exact SeqAt.RcAt.bool_none a
  | bl b=>cases ry; exact SeqAt.RcAt.bool_bool a b
  | int b=>obtain ⟨t,rfl⟩:=ry; exact SeqAt.RcAt.bool_int a b t
  | str b=>obtain ⟨t,rfl⟩:=ry; exact SeqAt.RcAt.bool_str a b t
  | lst h=>cases ry; obtain ⟨its,_,hl⟩:=A3 hok h; exact SeqAt.RcAt.bool_list a hl (lt0 hu)
  | tup h=>cases ry; obtain ⟨its,_,hl⟩:=Be hok h; exact SeqAt.RcAt.bool_tuple a hl (lt0 hu)
 | int a =>
  obtain ⟨t',rfl⟩:=rx
  cases q with
  | non=>cases ry; exact SeqAt.RcAt.int_none a t'
  | bl b=>cases ry; exact SeqAt.RcAt.int_bool a t' b
  | int b=>obtain ⟨t,rfl⟩:=ry; exact SeqAt.RcAt.int_int a t' b t
  | str b=>obtain ⟨t,rfl⟩:=ry; exact SeqAt.RcAt.int_str a t' b t
  | lst h=>cases ry; obtain ⟨its,_,hl⟩:=A3 hok h; exact SeqAt.RcAt.int_list a t' hl (lt0 hu)
  | tup h=>cases ry; obtain ⟨its,_,hl⟩:=Be hok h; exact SeqAt.RcAt.int_tuple a t' hl (lt0 hu)
 | str a =>
  obtain ⟨t',rfl⟩:=rx
  cases q with
  | non=>cases ry; exact SeqAt.RcAt.str_none a t'
  | bl b=>cases ry; exact SeqAt.RcAt.str_bool a t' b
  | int b=>obtain ⟨t,rfl⟩:=ry; exact SeqAt.RcAt.str_int a t' b t
  | str b=>obtain ⟨t,rfl⟩:=ry; exact SeqAt.RcAt.str_str a t' b t
  | lst h=>cases ry; obtain ⟨its,_,hl⟩:=A3 hok h; exact SeqAt.RcAt.str_list a t' hl (lt0 hu)
  | tup h=>cases ry; obtain ⟨its,_,hl⟩:=Be hok h; exact SeqAt.RcAt.str_tuple a t' hl (lt0 hu)
 | @lst a vs ds h hz hn hl hr =>
  cases rx
  obtain ⟨its,rv,hil⟩:=A3 hok h
  cases hs with
  | @lst n _ hs =>
   cases q with
   | non=>cases ry; exact SeqAt.RcAt.list_none hil (lt0 hu)
   | bl b=>cases ry; exact SeqAt.RcAt.list_bool b hil (lt0 hu)
   | int b=>obtain ⟨t,rfl⟩:=ry; exact SeqAt.RcAt.list_int b t hil (lt0 hu)
   | str b=>obtain ⟨t,rfl⟩:=ry; exact SeqAt.RcAt.list_str b t hil (lt0 hu)
   | @lst a' vs' es h' hz' hn' hl' hr' =>
    cases ry
    obtain ⟨its',rv',hil'⟩:=A3 hok h'
    have l1:=rv.length
    have l2:=rv'.length
    rw [Gn]
    by_cases hlen:ds.length = es.length
    ·rw [Df hlen,show ds.length = its.toArray.size by simp; lia]
     refine SeqAt.RcAt.lists hil hil' (by simp; lia) (lt0 hu) (Er rv rv' hl hl' fun i v d v' e u u' e1 e2 e3 e4 ru ru'=>?_)
     exact HU hok (hr i v d e1 e2) (hr' i v' e e3 e4) ru ru' (hs d (List.mem_of_getElem? e2)) (lt1 hu)
    ·have:DV ds es = false:=by
      cases q:DV ds es with
      | false=>rfl
      | true=>exact absurd (Dg q) hlen
     rw [this]
     exact SeqAt.RcAt.lists_lengths hil hil' (by simp; lia) (lt0 hu)
   | tup h' =>
    cases ry
    obtain ⟨its',_,hl'⟩:=Be hok h'
    exact SeqAt.RcAt.list_tuple hil hl' (lt0 hu)
 | @tup a vs ds h hz hl hr =>
  cases rx
  obtain ⟨its,rv,hil⟩:=Be hok h
  cases hs with
  | @tup n _ hs =>
   cases q with
   | non=>cases ry; exact SeqAt.RcAt.tuple_none hil (lt0 hu)
   | bl b=>cases ry; exact SeqAt.RcAt.tuple_bool b hil (lt0 hu)
   | int b=>obtain ⟨t,rfl⟩:=ry; exact SeqAt.RcAt.tuple_int b t hil (lt0 hu)
   | str b=>obtain ⟨t,rfl⟩:=ry; exact SeqAt.RcAt.tuple_str b t hil (lt0 hu)
   | @tup a' vs' es h' hz' hl' hr' =>
    cases ry
    obtain ⟨its',rv',hil'⟩:=Be hok h'
    have l1:=rv.length
    have l2:=rv'.length
    have q:=SeqAt.RcAt.tuples (A:=A) hil hil' (lt0 hu) (Er rv rv' hl hl' fun i v d v' e u u' e1 e2 e3 e4 ru ru'=>HU hok (hr i v d e1 e2) (hr' i v' e e3 e4) ru ru' (hs d (List.mem_of_getElem? e2)) (lt1 hu))
    rw [FH]
    by_cases hlen:ds.length = es.length
    ·have e1:(its.toArray.size == its'.toArray.size) = true:=by simp; lia
     have e2:min its.toArray.size its'.toArray.size = ds.length:=by simp; lia
     rw [e1,e2,Bool.and_true,← Df hlen] at q
     exact q
    ·have e1:(its.toArray.size == its'.toArray.size) = false:=by simp; lia
     have e3:DV ds es = false:=by
      cases q:DV ds es with
      | false=>rfl
      | true=>exact absurd (Dg q) hlen
     rw [e1,Bool.and_false] at q
     rw [e3]
     exact q
   | lst h' =>
    cases ry
    obtain ⟨its',_,hl'⟩:=A3 hok h'
    exact SeqAt.RcAt.tuple_list hil hl' (lt0 hu)
end
section
variable {X:Cx} {k:Nat}
theorem CN (hr:Room k X.A):OpR X (compareOp .Eq) (fun x y H Q=>∃ d e,Rep H x d∧Rep H y e∧Sh 16 d∧Q (.bl (eqD d e)) H):=by
 intro pins s σ H x y v u Q I rx ry h
 obtain ⟨d,e,r1,r2,hs,q⟩:=h
 exact EqBoolInt.of_rc (Vd I.hok r1 r2 rx ry hs (by have:=hr.units; lia)) ⟨.bl _,H,I,rfl,q⟩
end
structure FlyAt (P:Program) (w:World) (outer:List Env) (H:Hp) (s:Shared) (a C:Addr) (a0:Value) (B:Heap) (H':Hp) (s':Shared):Prop where
 os:s'.os = s.os
 bare:AllBare s'.gens
 fly:Heap.FlyingW B outer a (.ref C) a0 s'.heap
 keep:∀ b o,s.heap.get? b = some o→H b = none→b ∉ frs outer→B.get? b = some o
 slot:∀ b o,s.heap.get? b = some o→H b = none→b∈frs outer→∃ sl,s'.heap.get? b = some { o with slots:=sl }
 free:∀ b o,s.heap.get? b = some o→H b = none→H' b = none
 there:∀ b o,s.heap.get? b = some o→b ∉ frs outer→∃ o',B.get? b = some o'
 tups:∀ b xs,H b = some (.tup xs)→H' b = some (.tup xs)
 frzs:∀ b o u,H b = some (.frz o u)→H' b = some (.frz o u)
 tbls:∀ b ps,H b = some (.tbl ps)→∃ more,H' b = some (.tbl (ps ++ more))
 hok:HOk P w H' B
 pl:A0 s'.heap a
noncomputable def Fly (P:Program) (w:World):CXT:=fun outer H s E e s'=>∃ (a C:Addr) (a0:Value) (B:Heap) (H':Hp),e = .ref a∧FlyAt P w outer H s a C a0 B H' s'∧E (.ref C) none H'
theorem DN {h base:Heap} {l:List Env} (F:h.FunFrames base l) {b:Addr} (hb:b∈frs l) {o:Obj} (e:h.get? b = some o):∀ vs,o.data ≠ .fields vs:=by
 obtain ⟨_,o',e',d⟩:=F.mem hb
 rw [e] at e'; cases e'
 exact d
theorem Lq {env:Env} {l:List Env} {L:Addr} (h:env.frame = some L):frs (env :: l) = L :: frs l:=by
 unfold frs
 rw [List.filterMap_cons,h]
section
variable {P:Program} {w:World} {K:Frag} {mg:Str→Option Value} {base:Heap} {N:List Str} {qual:Str} {scope:Scope} {f:Addr} {cd:Value} {A:Around} {outer:List Env} {s:Shared} {H:Hp} {E E':XK}
theorem GF (hE:∀ c d H',E' c d H'→E c d H'):Passes (Fly P w) (AI (Fly P w) P w K mg base N qual scope f cd A outer s H E) E':=by
 intro pins σ H1 s1 e s' I fl
 obtain ⟨a,C,a0,B,H',rfl,F,q⟩:=fl
 have lt:∀ {b:Addr} {o:Obj},s.heap.get? b = some o→b≠s.heap.objs.size:=fun e=>Nat.ne_of_lt (Heap.lt_size e)
 have hfs:frs (envOfC qual scope s.heap.objs.size f cd :: outer) = s.heap.objs.size :: frs outer:=Lq rfl
 have nex:∀ b:Addr,b ∉ (AI (Fly P w) P w K mg base N qual scope f cd A outer s H E).ex:=fun b z=>absurd (show b∈([]:List Addr) from z) (by simp)
 have u:=I.base
 show wpAny (model P w) (A.deeper (envOfC qual scope s.heap.objs.size f cd)) (leaving (envOfC qual scope s.heap.objs.size f cd) (.ref a)) _ _ s'
 refine Kc (L:=s.heap.objs.size) I.ok.frames rfl F.fly F.pl fun h' fl' sm pl=>?_
 refine ⟨a,C,a0,B,H',rfl,⟨F.os.trans I.os,F.bare,fl',fun b o e n hb=>?_,fun b o e n hb=>?_,fun b o e n=>?_,fun b o e hb=>?_,fun b xs e=>F.tups b xs (u.tups b xs e),fun b o v e=>F.frzs b o v (u.frzs b o v e),fun b ps e=>?_,F.hok,pl⟩,hE _ _ _ q⟩
 ·refine F.keep b o (u.keep b o e n hb (nex b)) (u.free b o e n (nex b)) ?_
  show b ∉ frs (envOfC qual scope s.heap.objs.size f cd :: outer)
  rw [hfs]
  exact fun z=>(List.mem_cons.mp z).elim (lt e) hb
 ·obtain ⟨sl,e1⟩:=u.slot b o e n hb (nex b)
  obtain ⟨sl',e2⟩:=F.slot b _ e1 (u.free b o e n (nex b)) (by show b∈frs (envOfC qual scope s.heap.objs.size f cd :: outer); rw [hfs]; exact List.mem_cons_of_mem _ hb)
  obtain ⟨sl3,e3⟩:=sm b { o with slots:=sl' } e2 (show ∀ vs,o.data ≠ .fields vs from DN I.ok.funs hb e)
  exact ⟨sl3,e3⟩
 ·obtain ⟨o',e1⟩:=u.there b o e (nex b)
  exact F.free b o' e1 (u.free b o e n (nex b))
 ·obtain ⟨o',e1⟩:=u.there b o e (nex b)
  refine F.there b o' e1 ?_
  show b ∉ frs (envOfC qual scope s.heap.objs.size f cd :: outer)
  rw [hfs]
  exact fun z=>(List.mem_cons.mp z).elim (lt e) hb
 ·obtain ⟨m1,e1⟩:=u.tbls b ps e
  obtain ⟨m2,e2⟩:=F.tbls b _ e1
  exact ⟨m1 ++ m2,by rw [e2,Array.append_assoc]⟩
theorem MY {pins:List (Addr × Obj)} {σ:St} {H1:Hp} {s1:Shared} {h2:Heap} {e C:Addr} {args:List Value} (I:Inv (AI (Fly P w) P w K mg base N qual scope f cd A outer s H E) pins σ H1 s1)
  (hm:Heap.MadeExcOf s1.heap h2 e (.ref C) args) (q:E (.ref C) none H1):(AI (Fly P w) P w K mg base N qual scope f cd A outer s H E).xe (.ref e) { s1 with heap:=h2 }:=by
 have lt:∀ {b:Addr} {o:Obj},s.heap.get? b = some o→b≠s.heap.objs.size:=fun e=>Nat.ne_of_lt (Heap.lt_size e)
 have hfs:frs (envOfC qual scope s.heap.objs.size f cd :: outer) = s.heap.objs.size :: frs outer:=Lq rfl
 have nex:∀ b:Addr,b ∉ (AI (Fly P w) P w K mg base N qual scope f cd A outer s H E).ex:=fun b z=>absurd (show b∈([]:List Addr) from z) (by simp)
 have u:=I.base
 have hB:∀ {b:Addr} {o:Obj},s1.heap.get? b = some o→b ∉ frs (envOfC qual scope s.heap.objs.size f cd :: outer)→(PySem.W.hideAll s1.heap (frs (envOfC qual scope s.heap.objs.size f cd :: outer))).get? b = some o:=fun e n=>PySem.W.hideAll_get _ e n
 show wpAny (model P w) (A.deeper (envOfC qual scope s.heap.objs.size f cd)) (leaving (envOfC qual scope s.heap.objs.size f cd) (.ref e)) _ _ _
 refine LA (L:=s.heap.objs.size) (base:=PySem.W.hideAll s1.heap (frs (envOfC qual scope s.heap.objs.size f cd :: outer))) (h:=s1.heap) (s:={ s1 with heap:=h2 }) I.ok.frames rfl (fun b o e=>PySem.W.of_hideAll _ e)
  (PySem.W.funFrames_hide I.stack fun env he b hb=>List.mem_filterMap.mpr ⟨env,he,hb⟩) hm fun h' t fl' sm pl=>?_
 refine ⟨e,C,.ref t,_,H1,rfl,⟨I.os,I.bare,fl',fun b o e n hb=>?_,fun b o e n hb=>?_,fun b o e n=>u.free b o e n (nex b),fun b o e hb=>?_,u.tups,u.frzs,u.tbls,fun b o e=>?_,pl⟩,q⟩
 ·refine hB (u.keep b o e n hb (nex b)) ?_
  rw [hfs]
  exact fun z=>(List.mem_cons.mp z).elim (lt e) hb
 ·obtain ⟨sl,e1⟩:=u.slot b o e n hb (nex b)
  obtain ⟨sl3,e3⟩:=sm b { o with slots:=sl } (hm.keeps b { o with slots:=sl } e1) (show ∀ vs,o.data ≠ .fields vs from DN I.ok.funs hb e)
  exact ⟨sl3,e3⟩
 ·obtain ⟨o',e1⟩:=u.there b o e (nex b)
  exact ⟨o',hB e1 (by rw [hfs]; exact fun z=>(List.mem_cons.mp z).elim (lt e) hb)⟩
 ·refine (I.hok b o e).stay (fun c w' hc q=>hB q fun z=>?_) (fun _ q=>q) fun _ _ q=>q
  have n:H1 c = none:=I.stkFree c z
  rcases hc with rfl | hc
  ·rw [n] at e; cases e
  ·rw [n] at hc; cases hc
end
noncomputable def Rn:List Value:=[.type "ValueError",.type "Exception",.type "BaseException",.type "object"]
theorem NY {K:Frag} {h:Heap} {C:Addr} {bmB:List Value} {newId:String} (X:K.In h) (q:PySem.W.excIn K C bmB newId = true) :
  ∃ bm N nm qn bs hdct sn sub ab col dd k0 k1 k2 k3 k5 mN,h.get? C = some (excClassObj nm qn C N bs bm hdct sn sub ab col dd k0 k1 k2 k3 k5 newId)∧h.Ns N mN∧mN "__init__" = none∧OwnTail h bmB bm:=by
 unfold PySem.W.excIn at q
 split at q
 ·rename_i dd cd sl ho
  split at q
  ·rename_i C' bm k0 k1 k2 k3 n k5 hm hs
   simp only [Bool.and_eq_true,beq_iff_eq,Bool.not_eq_true'] at q
   obtain ⟨⟨⟨⟨⟨rfl,rfl⟩,hdel⟩,ht⟩,hok⟩,hni⟩:=q
   obtain ⟨nm,bs,mro,ns,qn,hd,sn,sub,ab,col,del⟩:=cd
   dsimp only at hm hdel hok hni
   subst hm hdel
   have hsl:sl = #[k0,k1,k2,k3,some (.builtin n),k5]:=by
    obtain ⟨l⟩:=sl
    simp only at hs
    rw [hs]
   subst hsl
   exact ⟨bm,ns,nm,qn,bs,hd,sn,sub,ab,col,dd,k0,k1,k2,k3,k5,_,X _ _ ho,.of_isNs (PySem.W.isNs_of_in X hok),PySem.W.nsMap_none_of_in X hok hni,PySem.W.tail_of_in X ht⟩
  ·cases q
 ·cases q
structure Exc (K:Frag) (mg:Str→Option Value) (x:Str) (C:Addr):Prop where
 at_:mg x = some (.ref C)
 own:PySem.W.excIn K C Rn "ValueError.__new__" = true
section
variable {P:Program} {w:World} {K:Frag} {mg:Str→Option Value} {base:Heap} {N:List Str} {qual:Str} {scope:Scope} {f:Addr} {cd:Value} {A:Around} {outer:List Env} {s:Shared} {H:Hp} {E:XK}
noncomputable def NG (E:XK) (C:Addr) (ta:TA):TS:=fun _ σ H=>ta σ H fun vs H1=>vs.length≤sizeLine∧E (.ref C) none H1
theorem QQ {x:Str} {C:Addr} {np cpos pos:Pos} {e:Expr} {es:List Expr} {ta:TA} (X:Exc K mg x C) (hh:A.handled = none)
  (ha:PA (AI (Fly P w) P w K mg base N qual scope f cd A outer s H E) (e :: es) ta)
  (hg:Gl (AI (Fly P w) P w K mg base N qual scope f cd A outer s H E) x:=by rfl) (hdb:(x == ("__debug__" : Str)) = false:=by decide +kernel)
  (he:starEach (e :: es) (AI (Fly P w) P w K mg base N qual scope f cd A outer s H E).env = (false,eval e (AI (Fly P w) P w K mg base N qual scope f cd A outer s H E).env) :: starEach es (AI (Fly P w) P w K mg base N qual scope f cd A outer s H E).env:=by rfl)
  (hpl:(backTo cpos (starEach es (AI (Fly P w) P w K mg base N qual scope f cd A outer s H E).env)).any (·.1) = false:=by rfl) :
  PS (AI (Fly P w) P w K mg base N qual scope f cd A outer s H E) (.Raise (some (.Call (.Name x np) (e :: es) [] cpos)) none pos) (NG E C ta):=by
 intro pins s1 σ H1 D I h
 obtain ⟨bm,Nn,nm,qn,bs,hdct,sn,sub,ab,col,dd,k0,k1,k2,k3,k5,mN,hC,hN,hni,T⟩:=NY I.mod.kin X.own
 refine wpAny_Raise_call_subU (C:=C) (nm:=nm) (q:=qn) (N:=Nn) (bs:=bs) (bm:=bm) (hdct:=hdct) (sn:=sn) (sub:=sub) (ab:=ab) (col:=col) (dd:=dd) (k0:=k0) (k1:=k1) (k2:=k2) (k3:=k3) (k5:=k5)
  PySem.F.excBase_ValueError dK PySem.F.excBase_ValueError (mN:=mN) (T.hasType PySem.F.excBase_ValueError.hasBase) (show A.handled = none from hh)
  (by rw [he]; show (false || (backTo cpos (starEach es (AI (Fly P w) P w K mg base N qual scope f cd A outer s H E).env)).any (·.1)) = false; rw [hpl]; rfl) hni (HC I hg X.at_ ⟨rfl,?_⟩ hdb)
 have hA:=ha cpos pins s1 σ H1 _ I h
 rw [he] at hA ⊢
 refine Calls.evalArgs_plain (thn hA fun us s2 ⟨vs,H2,I2,r2,hz,q2⟩=>⟨rfl,by rw [← r2.length]; exact hz,I2.bk _ _ hC,hN.keeps I2.bk,T.keeps I2.bk,fun h' e' hm=>?_⟩)
 exact MY I2 hm q2
end
structure Blt (mg:Str→Option Value) (K:Frag):Prop where
 isinstance:mg "isinstance" = none
 len:mg "len" = none
 all:mg "all" = none
 any:mg "any" = none
 range:mg "range" = none
 list:mg "list" = none
 int:mg "int" = none
 bool:mg "bool" = none
 tuple:mg "tuple" = none
 str:mg "str" = none
 abs:mg "abs" = none
 max:mg "max" = none
 min:mg "min" = none
 dict:mg "dict" = none
section
variable {X:Cx} {x:Str} {p pos:Pos} {e:Expr} {es:List Expr} {t:TA} {id T:String} {r:List V→Hp→VK→Prop}
theorem O5 (hc:Cc X (.builtin id) r) (hm:X.mg x = none) (hv:bootBuiltins x = some (.builtin id)) (hn:x ≠ "__name__") (hdb:(x == ("__debug__" : Str)) = false) (hg:Gl X x)
  (he:starEach (e :: es) X.env = (false,eval e X.env) :: starEach es X.env) (hpl:(backTo pos (starEach es X.env)).any (·.1) = false) (ha:PA X (e :: es) t):PE X (.Call (.Name x p) (e :: es) [] pos) (tCB r t):=Io hc hg hm hv ha hn hdb he hpl
theorem O6 (hc:Cc X (.type T) r) (hm:X.mg x = none) (hv:bootBuiltins x = some (.type T)) (hn:x ≠ "__name__") (hdb:(x == ("__debug__" : Str)) = false) (hg:Gl X x)
  (he:starEach (e :: es) X.env = (false,eval e X.env) :: starEach es X.env) (hpl:(backTo pos (starEach es X.env)).any (·.1) = false) (ha:PA X (e :: es) t):PE X (.Call (.Name x p) (e :: es) [] pos) (tCB r t):=O7 hc hg hm hv ha hn hdb he hpl
theorem Sw {t:TE} (he:∀ whole,isTrue e X.env whole = (do let v ← whole; standAt e.pos; holding [v] (truthy v))) (h:PE X e t):PT X e (tB t):=QX h he
end
section
variable {X:Cx} {p pos:Pos} {e:Expr} {es:List Expr} {t:TA}
noncomputable def isInt:D→Bool
 | .int _=>true
 | .bl _=>true
 | .non | .str _ | .lst _ | .tup _=>false
noncomputable def isBool:D→Bool
 | .bl _=>true
 | .non | .int _ | .str _ | .lst _ | .tup _=>false
noncomputable def Hi:D→Bool
 | .lst _=>true
 | .non | .bl _ | .int _ | .str _ | .tup _=>false
noncomputable def isTup:D→Bool
 | .tup _=>true
 | .non | .bl _ | .int _ | .str _ | .lst _=>false
noncomputable def isStr:D→Bool
 | .str _=>true
 | .non | .bl _ | .int _ | .lst _ | .tup _=>false
noncomputable def rIs (T:String) (f:D→Bool):List V→Hp→VK→Prop:=fun xs H Q=>∃ x d,xs = [x,.ty T]∧Rep H x d∧Q (.bl (f d)) H
theorem RE {T:String} {f:D→Bool} (hf:∀ d,isI (FG d) T = f d) (hT:T∈["int","bool","tuple","list","str"]):Cc X (.builtin "isinstance") (rIs T f):=by
 intro pins s σ H xs us Q I r h
 obtain ⟨x,d,rfl,rp,q⟩:=h
 exact Pz pins s σ H _ us Q I r ⟨x,FG d,T,rfl,rp.typ,hT,by rw [hf]; exact q⟩
theorem RL:∀ d,isI (FG d) "int" = isInt d:=fun d=>by cases d <;> (simp only [FG,isInt]; decide +kernel)
theorem P8:∀ d,isI (FG d) "bool" = isBool d:=fun d=>by cases d <;> (simp only [FG,isBool]; decide +kernel)
theorem P9:∀ d,isI (FG d) "list" = Hi d:=fun d=>by cases d <;> (simp only [FG,Hi]; decide +kernel)
theorem OK:∀ d,isI (FG d) "tuple" = isTup d:=fun d=>by cases d <;> (simp only [FG,isTup]; decide +kernel)
theorem RM:∀ d,isI (FG d) "str" = isStr d:=fun d=>by cases d <;> (simp only [FG,isStr]; decide +kernel)
theorem Ip {a:Expr} {ta:TE} {q:Pos} {x:Str} {T:String} {f:D→Bool} (hf:∀ d,isI (FG d) T = f d) (hT:T∈["int","bool","tuple","list","str"]) (hn:PE X (.Name x q) (tC (.ty T))) (hg:Gl X "isinstance") {K:Frag} (B:Blt X.mg K)
  (he:starEach [a,.Name x q] X.env = [(false,eval a X.env),(false,eval (.Name x q) X.env)]) (he2:starEach [.Name x q] X.env = [(false,eval (.Name x q) X.env)]) (ha:PE X a ta) :
  PE X (.Call (.Name "isinstance" p) [a,.Name x q] [] pos) (tCB (rIs T f) (B0 ta (B0 (tC (.ty T)) FF))):=
 Io (RE hf hT) hg B.isinstance PyProof.Rows.Boot.«isinstance» (Cp ha (Cp hn Eg he2) (he.trans (by rw [he2]))) dK dK (he.trans (by rw [he2])) (by rw [he2]; rfl)
theorem UR {a:Expr} {ta:TE} {q:Pos} (hg:Gl X "isinstance") (hg2:Gl X "int") {K:Frag} (B:Blt X.mg K) (he:starEach [a,.Name "int" q] X.env = [(false,eval a X.env),(false,eval (.Name "int" q) X.env)]) (he2:starEach [.Name "int" q] X.env = [(false,eval (.Name "int" q) X.env)]) (ha:PE X a ta) :
  PE X (.Call (.Name "isinstance" p) [a,.Name "int" q] [] pos) (tCB (rIs "int" isInt) (B0 ta (B0 (tC (.ty "int")) FF))):=Ip RL (by decide) (Fy hg2 B.int PyProof.Rows.Boot.«int» rfl dK dK) hg B he he2 ha
theorem UQ {a:Expr} {ta:TE} {q:Pos} (hg:Gl X "isinstance") (hg2:Gl X "bool") {K:Frag} (B:Blt X.mg K) (he:starEach [a,.Name "bool" q] X.env = [(false,eval a X.env),(false,eval (.Name "bool" q) X.env)]) (he2:starEach [.Name "bool" q] X.env = [(false,eval (.Name "bool" q) X.env)]) (ha:PE X a ta) :
  PE X (.Call (.Name "isinstance" p) [a,.Name "bool" q] [] pos) (tCB (rIs "bool" isBool) (B0 ta (B0 (tC (.ty "bool")) FF))):=Ip P8 (by decide) (Fy hg2 B.bool PyProof.Rows.Boot.«bool» rfl dK dK) hg B he he2 ha
theorem US {a:Expr} {ta:TE} {q:Pos} (hg:Gl X "isinstance") (hg2:Gl X "list") {K:Frag} (B:Blt X.mg K) (he:starEach [a,.Name "list" q] X.env = [(false,eval a X.env),(false,eval (.Name "list" q) X.env)]) (he2:starEach [.Name "list" q] X.env = [(false,eval (.Name "list" q) X.env)]) (ha:PE X a ta) :
  PE X (.Call (.Name "isinstance" p) [a,.Name "list" q] [] pos) (tCB (rIs "list" Hi) (B0 ta (B0 (tC (.ty "list")) FF))):=Ip P9 (by decide) (Fy hg2 B.list PyProof.Rows.Boot.«list» rfl dK dK) hg B he he2 ha
theorem UT {a:Expr} {ta:TE} {q:Pos} (hg:Gl X "isinstance") (hg2:Gl X "tuple") {K:Frag} (B:Blt X.mg K) (he:starEach [a,.Name "tuple" q] X.env = [(false,eval a X.env),(false,eval (.Name "tuple" q) X.env)]) (he2:starEach [.Name "tuple" q] X.env = [(false,eval (.Name "tuple" q) X.env)]) (ha:PE X a ta) :
  PE X (.Call (.Name "isinstance" p) [a,.Name "tuple" q] [] pos) (tCB (rIs "tuple" isTup) (B0 ta (B0 (tC (.ty "tuple")) FF))):=Ip OK (by decide) (Fy hg2 B.tuple PyProof.Rows.Boot.«tuple» rfl dK dK) hg B he he2 ha
theorem UU {a:Expr} {ta:TE} {q:Pos} (hg:Gl X "isinstance") (hg2:Gl X "str") {K:Frag} (B:Blt X.mg K) (he:starEach [a,.Name "str" q] X.env = [(false,eval a X.env),(false,eval (.Name "str" q) X.env)]) (he2:starEach [.Name "str" q] X.env = [(false,eval (.Name "str" q) X.env)]) (ha:PE X a ta) :
  PE X (.Call (.Name "isinstance" p) [a,.Name "str" q] [] pos) (tCB (rIs "str" isStr) (B0 ta (B0 (tC (.ty "str")) FF))):=Ip RM (by decide) (Fy hg2 B.str PyProof.Rows.Boot.«str» rfl dK dK) hg B he he2 ha
noncomputable def WM (K:Frag):List V→Hp→VK→Prop:=fun xs H Q=>∃ p bs,xs = [.ref p]∧SqL K H p (DH bs)∧Q (.bl (bs.all id)) H
noncomputable def WN (K:Frag):List V→Hp→VK→Prop:=fun xs H Q=>∃ p bs,xs = [.ref p]∧SqL K H p (DH bs)∧Q (.bl (bs.any id)) H
noncomputable def Wm (K:Frag):List V→Hp→VK→Prop:=fun xs H Q=>(∃ p ys,xs = [.ref p]∧(SqL K H p ys∨SqT K H p ys)∧Q (.int ys.length) H)∨∃ z,xs = [.str z]∧z.length≤sizeLine∧Q (.int z.length) H
end
section
variable {X:Cx} {a b c e:Expr} {ta tb tc:TE} {p pos:Pos} {es:List Expr} {t:TA} {x:Str}
theorem O3:OpR X (compareOp .LtE) (fun x y H Q=>∃ i j,x = .str i∧y = .str j∧Q (.bl (!decide (j.cps.toList < i.cps.toList))) H):=by
 intro pins s σ H x y v u Q I rx ry h
 obtain ⟨i,j,rfl,rfl,q⟩:=h
 obtain ⟨t,rfl⟩:=rx
 obtain ⟨t',rfl⟩:=ry
 exact PySem.P.le_str (MG I q rfl)
noncomputable def WO:R2:=fun x y H Q=>∃ d e,Rep H x d∧Rep H y e∧Sh 16 d∧Q (.bl (eqD d e)) H
noncomputable def Tj:R2:=fun x y H Q=>(∃ i j,x = .int i∧y = .int j∧Q (.bl (decide (i < j))) H)∨∃ i j,x = .str i∧y = .str j∧Q (.bl (decide (i.cps.toList < j.cps.toList))) H
noncomputable def Ti:R2:=fun x y H Q=>(∃ i j,x = .int i∧y = .int j∧Q (.bl (decide (i≤j))) H)∨∃ i j,x = .str i∧y = .str j∧Q (.bl (!decide (j.cps.toList < i.cps.toList))) H
theorem HD:OpR X (compareOp .Lt) Tj:=V9.or O4
theorem EN:OpR X (compareOp .LtE) Ti:=V8.or O3
noncomputable def PEc (X:Cx) (own:List Str) (scope:Scope) (e:Expr) (t:TE):Prop:=∀ C s H fp pins,PE (cxC X own scope C s H fp pins) e t
noncomputable def PTc (X:Cx) (own:List Str) (scope:Scope) (ifs:List Expr) (t:TT):Prop:=∀ C s H fp pins,PTs (cxC X own scope C s H fp pins) ifs t
structure Names (N:List Str):Prop where
 nd:N.Nodup
theorem UW {scope:Scope} {iter elt:Expr} {ifs:List Expr} {px:Pos} {wi:TI} {tt:TT} {te:TE} (hok:BX [x] X.N scope X.env.scope = true) (hc:X.calm = true) {NN:List Str} (hn:Names NN) (hX:X.N = NN) (hx:scope.names.lookup x = some .local)
  (hs:∀ z,foldedSetIterable iter X.env z = pure z) (hi:PI X (.Name x px) iter wi) (ht:PTc X [x] scope ifs tt) (he:PEc X [x] scope elt te) :
  PE X (.ListComp elt [⟨.Name x px,iter,ifs,0⟩] scope pos) (tLc wi Rm tt te):=by
 have hnx:∀ y∈X.N,x≠y:=fun y hy z=>by
  simp only [BX,Bool.and_eq_true,List.all_eq_true] at hok
  have:=hok.2 x (by simp)
  rw [z] at this
  simp [hy] at this
 exact We hc hok hi (fun C s H fp pins=>Iq rfl (List.nodup_cons.mpr ⟨fun z=>hnx x z rfl,by rw [hX]; exact hn.nd⟩) (lookup_relabel_local hx)) ht he hs
structure GInt (mg:Str→Option Value) (x:Str) (n:Int):Prop where
 at_:∃ t,mg x = some (.int n t)
theorem Sk {mg:Str→Option Value} {n:Int} (G:GInt mg x n) (hm:X.mg = mg) (hg:Gl X x) (hd:(x == ("__debug__" : Str)) = false):PE X (.Name x pos) (tC (.int n)):=by
 subst hm
 obtain ⟨t,e⟩:=G.at_
 exact Oc hg e ⟨t,rfl⟩ hd
end
section
variable {P:Program} {w:World} {K:Frag} {mg:Str→Option Value} {base:Heap}
theorem Fun.okF {x qual:Str} {st:Stmt} {f:Addr} {fd:FuncData} {N ps:List Str} {k:Nat} {sp:Sp} (F:Fun K x qual st f fd) (S:FnScope N ps (Ao st)) (len:∀ vs H Q E,sp vs H Q E→vs.length = ps.length)
  (hbody:∀ (cdv:Value) (A:Around) (outer:List Env) (s:Shared) (H:Hp) (vs:List V) (Q:VK) (E:XK),Room k (A.deeper (envOfC qual (Ao st) s.heap.objs.size f cdv))→sp vs H Q E →
   ∃ t,PSs (AI (Fly P w) P w K mg base N qual (Ao st) f cdv A outer s H E) (BL st) t∧t { nx:=fun _ H'=>Q .non H',rt:=Q } (start N vs) H):FnOk P w K mg base (Fly P w) (k + 1) f fd ps sp:=by
 obtain ⟨oc,od,kV,doc,pm,an,cdv,ct,osl,rfl,lk,hcd⟩:=F.ex
 exact PN lk hcd S len fun A outer s H vs Q E hr hsp=>hbody cdv A outer s H vs Q E hr hsp
theorem Pb {N:List Str} {qual:Str} {scope:Scope} {f:Addr} {cd:Value} {A:Around} {outer:List Env} {s:Shared} {H:Hp} {E:XK} {x:Str} {C:Addr} {np cpos pos:Pos} {e:Expr} {es:List Expr} {ta:TA} {k:Nat} (X:Exc K mg x C)
  (hr:Room k (A.deeper (envOfC qual scope s.heap.objs.size f cd)))
  (hg:Gl (AI (Fly P w) P w K mg base N qual scope f cd A outer s H E) x) (hdb:(x == ("__debug__" : Str)) = false)
  (he:starEach (e :: es) (AI (Fly P w) P w K mg base N qual scope f cd A outer s H E).env = (false,eval e (AI (Fly P w) P w K mg base N qual scope f cd A outer s H E).env) :: starEach es (AI (Fly P w) P w K mg base N qual scope f cd A outer s H E).env)
  (hpl:(backTo cpos (starEach es (AI (Fly P w) P w K mg base N qual scope f cd A outer s H E).env)).any (·.1) = false)
  (ha:PA (AI (Fly P w) P w K mg base N qual scope f cd A outer s H E) (e :: es) ta) :
  PS (AI (Fly P w) P w K mg base N qual scope f cd A outer s H E) (.Raise (some (.Call (.Name x np) (e :: es) [] cpos)) none pos) (NG E C ta):=QQ X hr.hd ha hg hdb he hpl
end
noncomputable def glue (ys:List Str):Str:=⟨(ys.map fun y=>y.cps.toList).flatten.toArray⟩
theorem MK (ys:List Str):∀ acc:Array Nat,List.foldl (fun (acc:Array Nat) (p:Str)=>acc ++ (("" : Str)).cps ++ p.cps) acc ys = acc ++ ((ys.map fun y=>y.cps.toList).flatten.toArray):=by
 induction ys with
 | nil=>intro acc; simp
 | cons y ys ih =>
  intro acc
  rw [List.foldl_cons,ih]
  have e:(("" : Str)).cps = #[]:=by decide +kernel
  rw [e]
  apply Array.ext'
  simp
theorem MV (ys:List Str):Txt.join ("" : Str) ys = glue ys:=by
 cases ys with
 | nil=>decide +kernel
 | cons y ys =>
  have e:Txt.join ("" : Str) (y :: ys) = ⟨List.foldl (fun (acc:Array Nat) (p:Str)=>acc ++ (("" : Str)).cps ++ p.cps) y.cps ys⟩:=rfl
  rw [e,MK]
  unfold glue
  congr 1
  apply Array.ext'
  simp
section
variable {X:Cx} {a e:Expr} {ta te:TE} {apos cpos:Pos}
theorem IF:∀ {ys:List Str} {us:List Value},Vals (ys.map V.str) us→StrsAre us ys
 | [],_,.nil=>.nil
 | _ :: _,_,.cons ⟨t,e⟩ r=>by subst e; exact .cons _ _ (IF r)
noncomputable def rJoin (K:Frag):V→List V→Hp→VK→Prop:=fun x xs H Q=>∃ sep p ys,x = .str sep∧xs = [.ref p]∧SqL K H p (ys.map V.str)∧(ys.map (·.length)).sum + ys.length * sep.length≤16777216∧Q (.str (Txt.join sep ys)) H
theorem RU:MtR X "str.join" (rJoin X.K):=by
 intro pins s σ H x xs v us Q I rx rv h
 obtain ⟨sep,p,ys,rfl,rfl,hq,hz,q⟩:=h
 obtain ⟨t,rfl⟩:=rx
 obtain ⟨u,rfl,ru⟩:=rv.one
 cases ru
 obtain ⟨its,r,pl,_⟩:=I.list hq
 exact join_list pl.isList (by simpa using IF r) hz fun t' k=>⟨.str _,H,I.tok k,⟨_,rfl⟩,q⟩
noncomputable def Nl:V→List V→Hp→VK→Prop:=fun x xs H Q=>∃ z y,x = .str z∧xs = [.str y]∧0≤Txt.find z y∧Q (.int (Txt.find z y)) H
theorem Qv (hc:X.calm = true):MtR X "str.index" Nl:=by
 intro pins s σ H x xs v us Q I rx rv h
 obtain ⟨z,y,rfl,rfl,h0,q⟩:=h
 obtain ⟨t,rfl⟩:=rx
 obtain ⟨u,rfl,ru⟩:=rv.one
 obtain ⟨t',rfl⟩:=ru
 exact index_or (I.ok.hd hc) (fun e=>absurd h0 (by lia)) fun _ _=>⟨.int _,H,I.tok _,⟨_,rfl⟩,q⟩
theorem Sl {K:Frag} (hK:X.K = K) (B:Blt X.mg K) (hbase:attributeBase a "join" X.env (eval a X.env) = eval a X.env) (hline:(apos.endLine == cpos.line) = true) (hs:starEach [e] X.env = [(false,eval e X.env)]) (ha:PE X a ta) (he:PE X e te) :
  PE X (.Call (.Attribute a "join" apos) [e] [] cpos) (tBM K "str" (rJoin K) ta (B0 te FF)):=by
 subst hK
 exact Ob F.plainAttrs_str F.slot_str_join F.type_str_join RU ha (Cp he Eg hs) hbase (by rw [hs]; rfl) hline hs rfl
theorem QL {K:Frag} (hK:X.K = K) (B:Blt X.mg K) (hc:X.calm = true) (hbase:attributeBase a "index" X.env (eval a X.env) = eval a X.env) (hline:(apos.endLine == cpos.line) = true) (hs:starEach [e] X.env = [(false,eval e X.env)]) (ha:PE X a ta) (he:PE X e te) :
  PE X (.Call (.Attribute a "index" apos) [e] [] cpos) (tBM K "str" Nl ta (B0 te FF)):=by
 subst hK
 exact Ob F.plainAttrs_str F.slot_str_index F.type_str_index (Qv hc) ha (Cp he Eg hs) hbase (by rw [hs]; rfl) hline hs rfl
end
theorem PM {x:Str} {c i:Nat} (hi:x.cps.toList[i]? = some c) (hf:∀ k,k < i→x.cps.toList[k]? ≠ some c):Txt.find x ⟨#[c]⟩ = (i:Int):=by
 rcases find_whole x ⟨#[c]⟩ with ⟨_,h⟩ | ⟨j,e,hj,hl⟩
 ·exact absurd ((StrLaws.subAt_one x c i).mpr hi) (h i)
 ·have ej:=(StrLaws.subAt_one x c j).mp hj
  have:j = i:=by
   rcases Nat.lt_trichotomy i j with h | h | h
   ·exact absurd ((StrLaws.subAt_one x c i).mpr hi) (hl i h)
   ·exact h.symm
   ·exact absurd ej (hf j h)
  rw [e,this]
section
variable {X:Cx} {p pos:Pos} {e:Expr} {es:List Expr} {t:TA}
end
end L2
end
section
namespace J
open PySem L2
inductive A where
 | fz (d:D) | lst (as:List A) | tup (as:List A) | scr (ns:List Int) | dic (kvs:List (Key × D)) | dct (kvs:List (D × D)) | opq (a:Addr) (o:Obj)
inductive Own where
 | own | lent | ro
 deriving DecidableEq
noncomputable abbrev Slot:=Option (Own × A)
noncomputable abbrev Ro:=List Slot
inductive R where
 | val (a:A) | ref (i:Nat)
mutual
noncomputable def er:A→Option D
 | .fz d=>some d
 | .lst as=>(ers as).map D.lst
 | .tup as=>(ers as).map D.tup
 | .scr _=>none
 | .dic _=>none
 | .dct _=>none
 | .opq _ _=>none
noncomputable def ers:List A→Option (List D)
 | []=>some []
 | a :: as=>(er a).bind fun d=>(ers as).map (d :: ·)
end
noncomputable def fzs:List A→Option (List D)
 | []=>some []
 | .fz d :: as=>(fzs as).map (d :: ·)
 | _ :: _=>none
noncomputable def peek (ρ:Ro):R→Option A
 | .val a=>some a
 | .ref i=>match ρ[i]? with
  | some (some (_,a))=>some a
  | _=>none
noncomputable def peeks (ρ:Ro):List R→Option (List A)
 | []=>some []
 | r :: rs=>(peek ρ r).bind fun a=>(peeks ρ rs).map (a :: ·)
noncomputable def share (ρ:Ro):R→Option (D × Ro)
 | .val a=>(er a).map (·,ρ)
 | .ref i=>match ρ[i]? with
  | some (some (.own,a))=>(er a).map fun d=>(d,ρ.set i (some (.own,.fz d)))
  | _=>none
noncomputable def move (ρ:Ro):R→Option (A × Ro)
 | .val a=>some (a,ρ)
 | .ref i=>match ρ[i]? with
  | some (some (.own,a))=>some (a,ρ.set i none)
  | _=>none
noncomputable abbrev ME:=Ro→Option (R × Ro)
noncomputable abbrev MT:=Ro→Option (Bool × Ro)
noncomputable abbrev MA:=Ro→Option (List R × Ro)
noncomputable def Ae (i:Nat):ME:=fun ρ=>match ρ[i]? with
 | some (some (_,.fz d))=>some (.val (.fz d),ρ)
 | some (some _)=>some (.ref i,ρ)
 | _=>none
noncomputable def Ag (d:D):ME:=fun ρ=>some (.val (.fz d),ρ)
noncomputable def Ah:MA:=fun ρ=>some ([],ρ)
noncomputable def Ab (m:ME) (ms:MA):MA:=fun ρ=>(m ρ).bind fun p=>(ms p.2).map fun q=>(p.1 :: q.1,q.2)
noncomputable def opM (f:List A→Option A) (m:MA):ME:=fun ρ=>(m ρ).bind fun p=>(peeks p.2 p.1).bind fun as=>(f as).map fun a=>(.val a,p.2)
noncomputable def DX:A→Option Bool
 | .fz (.bl b)=>some b
 | .fz .non | .fz (.int _) | .fz (.str _) | .fz (.lst _) | .fz (.tup _) | .lst _ | .tup _ | .scr _ | .dic _ | .dct _ | .opq _ _=>none
noncomputable def AR (m:ME):MT:=fun ρ=>(m ρ).bind fun p=>(peek p.2 p.1).bind fun a=>(DX a).map (·,p.2)
noncomputable def andM (a b:ME):ME:=fun ρ=>(AR a ρ).bind fun p=>if p.1 then b p.2 else some (.val (.fz (.bl false)),p.2)
noncomputable def orM (a b:ME):ME:=fun ρ=>(AR a ρ).bind fun p=>if p.1 then some (.val (.fz (.bl true)),p.2) else b p.2
noncomputable def notM (a:ME):ME:=fun ρ=>(AR a ρ).map fun p=>(.val (.fz (.bl (!p.1))),p.2)
noncomputable def Ry (a b:MT):MT:=fun ρ=>(a ρ).bind fun p=>if p.1 then b p.2 else some (false,p.2)
noncomputable def orT (a b:MT):MT:=fun ρ=>(a ρ).bind fun p=>if p.1 then some (true,p.2) else b p.2
noncomputable def Dp (a:MT):MT:=fun ρ=>(a ρ).map fun p=>(!p.1,p.2)
noncomputable def T2 (c:MT) (a b:ME):ME:=fun ρ=>(c ρ).bind fun p=>if p.1 then a p.2 else b p.2
noncomputable def IL (f g:List A→Option A) (a b c:ME):ME:=fun ρ=>(a ρ).bind fun p=>(b p.2).bind fun q=>(peeks q.2 [p.1,q.1]).bind fun as=>(f as).bind fun z=>(DX z).bind fun k =>
 if k then (c q.2).bind fun r=>(peeks r.2 [q.1,r.1]).bind fun bs=>(g bs).map fun z=>(.val z,r.2) else some (.val (.fz (.bl false)),q.2)
noncomputable def Ad (m:ME):ME:=fun ρ=>(m ρ).bind fun p=>(share p.2 p.1).map fun q=>(.val (.fz q.1),q.2)
noncomputable def vals:List R→Option (List A)
 | []=>some []
 | .val a :: rs=>(vals rs).map (a :: ·)
 | .ref _ :: _=>none
noncomputable abbrev LIM:Nat:=sizeLine
noncomputable def mkT (as:List A):A:=match fzs as with
 | some ds=>.fz (.tup ds)
 | none=>.tup as
noncomputable def lstM (m:MA):ME:=fun ρ=>(m ρ).bind fun p=>(vals p.1).bind fun as=>if as.length≤LIM then some (.val (.lst as),p.2) else none
noncomputable abbrev Fn:=List (Own × A)→Option (A × List A)
noncomputable def E1 (ρ:Ro):R→Option (Own × A)
 | .val a=>some (.own,a)
 | .ref i=>match ρ[i]? with
  | some (some (.ro,a))=>some (.ro,a)
  | some (some (_,a))=>some (.lent,a)
  | _=>none
noncomputable def Cq (ρ:Ro):List R→Option (List (Own × A))
 | []=>some []
 | r :: rs=>(E1 ρ r).bind fun a=>(Cq ρ rs).map (a :: ·)
noncomputable def Ny (ρ:Ro) (i:Nat) (a:A):Ro:=match ρ[i]? with
 | some (some (st,_))=>ρ.set i (some (st,a))
 | _=>ρ
noncomputable def back:List R→List A→Ro→Ro
 | .ref i :: rs,a :: as,ρ=>back rs as (Ny ρ i a)
 | .val _ :: rs,_ :: as,ρ=>back rs as ρ
 | [],_,ρ=>ρ
 | .ref _ :: _,[],ρ=>ρ
 | .val _ :: _,[],ρ=>ρ
noncomputable def refs:List R→List Nat
 | []=>[]
 | .ref i :: rs=>i :: refs rs
 | .val _ :: rs=>refs rs
noncomputable def Al (Φ:Fn) (m:MA):ME:=fun ρ=>(m ρ).bind fun p=>(Cq p.2 p.1).bind fun args=>if (refs p.1).Nodup then (Φ args).map fun q=>(.val q.1,back p.1 q.2 p.2) else none
noncomputable def B7 (z:Str):List D:=z.cps.toList.map fun c=>.str ⟨#[c]⟩
noncomputable def Bh:A→Option (List D)
 | .fz (.lst ds)=>some ds
 | .fz (.tup ds)=>some ds
 | .lst as=>fzs as
 | .scr ns=>some (ns.map D.int)
 | .fz .non | .fz (.bl _) | .fz (.int _) | .fz (.str _) | .tup _ | .dic _ | .dct _ | .opq _ _=>none
noncomputable abbrev MI:=Ro→Option (List D × Option Nat × Ro)
noncomputable def nameOf:R→Option Nat
 | .val _=>none
 | .ref i=>some i
noncomputable def Dr (m:ME):MI:=fun ρ=>(m ρ).bind fun p=>(peek p.2 p.1).bind fun a=>(Bh a).map fun ds=>(ds,nameOf p.1,p.2)
noncomputable def IE (m:ME):MI:=fun ρ=>(m ρ).bind fun p=>match p.1 with
 | .val (.fz (.str z))=>if z.length≤LIM then some (B7 z,none,p.2) else none
 | _=>none
noncomputable def DU (lo:Int) (n:Nat):List D:=(List.range n).map fun (k:Nat)=>D.int (lo + (k:Int))
noncomputable def Bw (m:ME):MI:=fun ρ=>(m ρ).bind fun p=>match p.1 with
 | .val (.fz (.int j))=>if -(2 ^ 62)≤j∧j < 2 ^ 62 then some (DU 0 j.toNat,none,p.2) else none
 | _=>none
noncomputable def lock (ρ:Ro):Option Nat→Ro
 | none=>ρ
 | some i=>match ρ[i]? with
  | some (some (_,a))=>ρ.set i (some (.ro,a))
  | _=>ρ
noncomputable def unlock (old ρ:Ro):Option Nat→Ro
 | none=>ρ
 | some i=>match old[i]? with
  | some s=>ρ.set i s
  | none=>ρ
noncomputable def Nj (n:Nat) (d:D):Option (List D):=match n with
 | 0=>some [d]
 | n=>match d with
  | .tup ds=>if ds.length = n then some ds else none
  | _=>none
noncomputable def own (d:D):Slot:=some (.own,.fz d)
noncomputable def E5 (pat:Nat) (c:MT) (e:ME):List D→Ro→Option (List D × Ro)
 | [],ρ=>some ([],ρ)
 | d :: ds,ρ=>(Nj pat d).bind fun bs=>(c (bs.map own ++ ρ)).bind fun p =>
  if p.1 then (e p.2).bind fun q=>(share q.2 q.1).bind fun s=>(E5 pat c e ds (s.2.drop bs.length)).map fun t=>(s.1 :: t.1,t.2)
  else E5 pat c e ds (p.2.drop bs.length)
noncomputable def Ei:MT:=fun ρ=>some (true,ρ)
noncomputable def Bf (it:MI) (pat:Nat) (c:MT) (e:ME):ME:=fun ρ=>(it ρ).bind fun p=>if p.1.length≤LIM then (E5 pat c e p.1 (lock p.2.2 p.2.1)).map fun q=>(.val (.lst (q.1.map A.fz)),unlock p.2.2 q.2 p.2.1) else none
inductive Fl where
 | next (ρ:Ro) | brk (ρ:Ro) | cnt (ρ:Ro) | ret (a:A) (ρ:Ro)
noncomputable abbrev MS:=Ro→Option Fl
noncomputable def free (ρ:Ro) (i:Nat):Bool:=match ρ[i]? with
 | some none=>true
 | some (some (.own,_))=>true
 | _=>false
noncomputable def keep (ρ:Ro):R→Option (A × Ro)
 | .val a=>some (a,ρ)
 | r=>(share ρ r).map fun q=>(.fz q.1,q.2)
noncomputable def Bj:MS:=fun ρ=>some (.next ρ)
noncomputable def Fo:MS:=fun _=>none
noncomputable def AF (a b:MS):MS:=fun ρ=>(a ρ).bind fun f=>match f with
 | .next ρ1=>b ρ1
 | f=>some f
noncomputable def AL (i:Nat) (m:ME):MS:=fun ρ=>(m ρ).bind fun p=>(keep p.2 p.1).bind fun q=>if free q.2 i then some (.next (q.2.set i (some (.own,q.1)))) else none
noncomputable def Eh:A→Option (List A)
 | .tup as=>some as
 | .fz (.tup ds)=>some (ds.map A.fz)
 | .fz .non | .fz (.bl _) | .fz (.int _) | .fz (.str _) | .fz (.lst _) | .lst _ | .scr _ | .dic _ | .dct _ | .opq _ _=>none
noncomputable def BS:List Nat→List A→Ro→Option Ro
 | [],[],ρ=>some ρ
 | i :: is,a :: as,ρ=>if free ρ i then BS is as (ρ.set i (some (.own,a))) else none
 | [],_ :: _,_=>none
 | _ :: _,[],_=>none
noncomputable def K6 (is:List Nat) (m:ME):MS:=fun ρ=>(m ρ).bind fun p=>(keep p.2 p.1).bind fun q=>(Eh q.1).bind fun as=>(BS is as q.2).map .next
noncomputable def J2 (m:ME):MS:=fun ρ=>(m ρ).map fun p=>.next p.2
noncomputable def retS (m:ME):MS:=fun ρ=>(m ρ).bind fun p=>(move p.2 p.1).map fun q=>.ret q.1 q.2
noncomputable def ifS (c:MT) (a b:MS):MS:=fun ρ=>(c ρ).bind fun p=>if p.1 then a p.2 else b p.2
noncomputable def Eo (is:List Nat) (one:Bool) (d:D) (ρ:Ro):Option Ro:=match one,is with
 | true,[i]=>if free ρ i then some (ρ.set i (own d)) else none
 | false,is=>(match d with
  | .tup ds=>BS is (ds.map A.fz) ρ
  | _=>none)
 | _,_=>none
noncomputable def forL (is:List Nat) (one:Bool) (b:MS):List D→Ro→Option Fl
 | [],ρ=>some (.next ρ)
 | d :: ds,ρ=>(Eo is one d ρ).bind fun ρ1=>(b ρ1).bind fun f=>match f with
  | .next ρ2=>forL is one b ds ρ2
  | .cnt ρ2=>forL is one b ds ρ2
  | .brk ρ2=>some (.next ρ2)
  | f=>some f
noncomputable def HK (old:Ro) (n:Option Nat):Fl→Fl
 | .next ρ=>.next (unlock old ρ n)
 | .brk ρ=>.brk (unlock old ρ n)
 | .cnt ρ=>.cnt (unlock old ρ n)
 | .ret a ρ=>.ret a (unlock old ρ n)
noncomputable def FD (is:List Nat) (one:Bool) (it:MI) (b:MS):MS:=fun ρ=>(it ρ).bind fun p=>(forL is one b p.1 (lock p.2.2 p.2.1)).map (HK p.2.2 p.2.1)
noncomputable def VU (i:Nat):MS:=fun ρ=>(share ρ (.ref i)).map fun q=>.next q.2
noncomputable def GD:Slot→A
 | some (_,a)=>a
 | none=>.fz .non
noncomputable def fnM (np nn:Nat) (b:MS):Fn:=fun args=>if args.length = np then (b (args.map some ++ List.replicate (nn - np) none)).bind fun f=>match f with
  | .next ρ=>some (.fz .non,(ρ.take np).map GD)
  | .ret a ρ=>some (a,(ρ.take np).map GD)
  | _=>none
 else none
noncomputable def imm:HO→Bool
 | .tup _=>true
 | .frz _ _=>true
 | _=>false
noncomputable def Kept (L:Addr→Prop) (H H':Hp):Prop:=∀ b o,H b = some o→(¬ L b∨imm o = true)→H' b = some o
theorem Kept.refl {L:Addr→Prop} {H:Hp}:Kept L H H:=fun _ _ h _=>h
theorem Kept.trans {L L':Addr→Prop} {H H1 H2:Hp} (x:Kept L H H1) (y:Kept L' H1 H2) (h:∀ p,L' p→L p∨H p = none):Kept L H H2:=fun b o e c =>
 y b o (x b o e c) (c.imp (fun n z=>(h b z).elim n fun q=>by rw [e] at q; cases q) id)
theorem Kept.mono {L L':Addr→Prop} {H H':Hp} (x:Kept L H H') (h:∀ p,L p→L' p):Kept L' H H':=fun b o e c=>x b o e (c.imp (fun n z=>n (h b z)) id)
theorem Ek.kept {L:Addr→Prop} {H H':Hp} (s:Ek H H'):Kept L H H':=fun b o e _=>s b o e
noncomputable def VN (K:Frag) (H:Hp) (a:Addr) (xs:List V):Prop:=∀ H',(∀ o u,H a = some (.frz o u)→H' a = some (.frz o u))→SqL K H' a xs
mutual
noncomputable def Aw (K:Frag) (N:Addr→Prop) (H:Hp) (v:V):A→List Addr→Prop
 | .fz d,L=>L = []∧RepA N H v d
 | .lst as,L=>∃ a vs L',v = .ref a∧L = a :: L'∧H a = some (.lst vs)∧vs.length≤sizeLine∧As K N H vs as L'
 | .tup as,L=>∃ a vs,v = .ref a∧H a = some (.tup vs)∧vs.length≤sizeLine∧As K N H vs as L
 | .scr ns,L=>∃ a,v = .ref a∧L = []∧VN K H a (ns.map V.int)∧ns.length≤sizeLine
 | .dic kvs,L=>∃ a us,v = .ref a∧L = [a]∧H a = some (.dK us)∧us.length≤sizeLine∧Paired (fun (u:Key × V) (k:Key × D)=>u.1 = k.1∧RepA N H u.2 k.2) us kvs
 | .dct kvs,L=>∃ a us,v = .ref a∧L = [a]∧H a = some (.dT us)∧us.length≤sizeLine∧Paired (fun (u:D × V) (k:D × D)=>u.1 = k.1∧RepA N H u.2 k.2) us kvs
 | .opq a o,L=>v = .ref a∧L = []∧∃ u,H a = some (.frz o u)
noncomputable def As (K:Frag) (N:Addr→Prop) (H:Hp):List V→List A→List Addr→Prop
 | [],[],L=>L = []
 | v :: vs,a :: as,L=>∃ L1 L2,L = L1 ++ L2∧Aw K N H v a L1∧As K N H vs as L2
 | [],_ :: _,_=>False
 | _ :: _,[],_=>False
end
theorem _root_.L2.RepA.tr {N N' M:Addr→Prop} {H H':Hp} (hM:∀ p,M p→N p) (k:Kept M H H') (hN:∀ p,N' p→N p∨H p = none) {v:V} {d:D} (r:RepA N H v d):RepA N' H' v d:=by
 induction r with
 | non=>exact .non
 | bl b=>exact .bl b
 | int i=>exact .int i
 | str x hx=>exact .str x hx
 | lst h hz hn hl _ ih =>
  refine .lst (k _ _ h (.inl fun z=>hn (hM _ z))) hz (fun z=>?_) hl ih
  rcases hN _ z with q | q
  ·exact hn q
  ·rw [h] at q; cases q
 | tup h hz hl _ ih=>exact .tup (k _ _ h (.inr rfl)) hz hl ih
theorem Paired.mapQ {α β:Type} {F G:α → β → Prop}:∀ {l₁:List α} {l₂:List β},Paired F l₁ l₂ → (∀ a b,F a b→G a b)→Paired G l₁ l₂
 | _,_,.nil,_=>.nil
 | _,_,.cons r t,f=>.cons (f _ _ r) (Paired.mapQ t f)
section
variable {K:Frag} {N N' M:Addr→Prop} {H H':Hp}
mutual
theorem Aw.tr (hM:∀ p,M p→N p) (k:Kept M H H') (hN:∀ p,N' p→N p∨H p = none):∀ {a:A} {v:V} {L:List Addr},(∀ p∈L,¬ M p)→Aw K N H v a L→Aw K N' H' v a L
 | .fz d,v,L,hL,r=>by
  simp only [Aw] at r ⊢
  exact ⟨r.1,r.2.tr hM k hN⟩
 | .lst as,v,L,hL,r=>by
  simp only [Aw] at r ⊢
  obtain ⟨a,vs,L',rfl,rfl,h,hz,hs⟩:=r
  exact ⟨a,vs,L',rfl,rfl,k _ _ h (.inl (hL a (by simp))),hz,As.tr hM k hN (fun p hp=>hL p (by simp [hp])) hs⟩
 | .tup as,v,L,hL,r=>by
  simp only [Aw] at r ⊢
  obtain ⟨a,vs,rfl,h,hz,hs⟩:=r
  exact ⟨a,vs,rfl,k _ _ h (.inr rfl),hz,As.tr hM k hN hL hs⟩
 | .scr ns,v,L,hL,r=>by
  simp only [Aw] at r ⊢
  obtain ⟨a,rfl,rfl,h,hz⟩:=r
  exact ⟨a,rfl,rfl,fun H2 q=>h H2 fun o u e=>q o u (k _ _ e (.inr rfl)),hz⟩
 | .dic kvs,v,L,hL,r=>by
  simp only [Aw] at r ⊢
  obtain ⟨a,us,rfl,rfl,h,hz,hs⟩:=r
  exact ⟨a,us,rfl,rfl,k _ _ h (.inl (hL a (by simp))),hz,Paired.mapQ hs fun _ _ q=>⟨q.1,q.2.tr hM k hN⟩⟩
 | .dct kvs,v,L,hL,r=>by
  simp only [Aw] at r ⊢
  obtain ⟨a,us,rfl,rfl,h,hz,hs⟩:=r
  exact ⟨a,us,rfl,rfl,k _ _ h (.inl (hL a (by simp))),hz,Paired.mapQ hs fun _ _ q=>⟨q.1,q.2.tr hM k hN⟩⟩
 | .opq a o,v,L,hL,r=>by
  simp only [Aw] at r ⊢
  obtain ⟨rfl,rfl,u,h⟩:=r
  exact ⟨rfl,rfl,u,k _ _ h (.inr rfl)⟩
theorem As.tr (hM:∀ p,M p→N p) (k:Kept M H H') (hN:∀ p,N' p→N p∨H p = none):∀ {as:List A} {vs:List V} {L:List Addr},(∀ p∈L,¬ M p)→As K N H vs as L→As K N' H' vs as L
 | [],vs,L,hL,r=>by
  cases vs <;> simp only [As] at r ⊢
  exact r
 | a :: as,vs,L,hL,r=>by
  cases vs with
  | nil=>simp only [As] at r
  | cons v vs =>
   simp only [As] at r ⊢
   obtain ⟨L1,L2,rfl,h1,h2⟩:=r
   exact ⟨L1,L2,rfl,Aw.tr hM k hN (fun p hp=>hL p (by simp [hp])) h1,As.tr hM k hN (fun p hp=>hL p (by simp [hp])) h2⟩
end
end
noncomputable def ad (O:Addr→Prop) (L:List Addr):Addr→Prop:=fun p=>O p∨p∈L
noncomputable def NN (fp:Nat→List Addr) (O:Addr→Prop):Addr→Prop:=fun p=>(∃ i,p∈fp i)∨O p
noncomputable def Fp (fp:Nat→List Addr):Addr→Prop:=fun p=>∃ i,p∈fp i
structure Rel (K:Frag) (ρ:Ro) (σ:St) (H:Hp) (O:Addr→Prop) (fp:Nat→List Addr):Prop where
 len : ρ.length = σ.length
 slot:∀ i st a,ρ[i]? = some (some (st,a))→∃ v,σ[i]? = some (some v)∧Aw K (NN fp O) H v a (fp i)
 out:∀ i,(∀ st a,ρ[i]? ≠ some (some (st,a)))→fp i = []
 nd:∀ i,(fp i).Nodup
 inj:∀ i j p,p∈fp i→p∈fp j→i = j
 off:∀ i p,p∈fp i→¬ O p
 al:∀ p,NN fp O p→H p≠none
noncomputable def Mr (ρ ρ':Ro) (σ σ':St):Prop:=∀ (j:Nat) st a,ρ[j]? = some (some (st,a))→st ≠ .own→∃ a',ρ'[j]? = some (some (st,a')) ∧ σ'[j]? = σ[j]? ∧ (st = .ro→a' = a)
theorem Mr.refl {ρ:Ro} {σ:St}:Mr ρ ρ σ σ:=fun _ _ a h _=>⟨a,h,rfl,fun _=>rfl⟩
theorem Mr.trans {ρ ρ1 ρ2:Ro} {σ σ1 σ2:St} (x:Mr ρ ρ1 σ σ1) (y:Mr ρ1 ρ2 σ1 σ2):Mr ρ ρ2 σ σ2:=fun j st a h n=>by
 obtain ⟨a1,h1,e1,f1⟩:=x j st a h n
 obtain ⟨a2,h2,e2,f2⟩:=y j st a1 h1 n
 exact ⟨a2,h2,e2.trans e1,fun z=>(f2 z).trans (f1 z)⟩
noncomputable def RR (K:Frag) (N:Addr→Prop) (H:Hp) (σ:St) (v:V):R→List Addr→Prop
 | .val a,L=>Aw K N H v a L
 | .ref i,L=>L = [] ∧ σ[i]? = some (some v)
noncomputable def RRs (K:Frag) (N:Addr→Prop) (H:Hp) (σ:St):List V→List R→List Addr→Prop
 | [],[],L=>L = []
 | v :: vs,r :: rs,L=>∃ L1 L2,L = L1 ++ L2∧RR K N H σ v r L1∧RRs K N H σ vs rs L2
 | [],_ :: _,_=>False
 | _ :: _,[],_=>False
structure Post (K:Frag) (O:Addr→Prop) (fp:Nat→List Addr) (H:Hp) (ρ ρ':Ro) (σ σ':St) (L:List Addr) (fp':Nat→List Addr) (H':Hp):Prop where
 rel:Rel K ρ' σ' H' (ad O L) fp'
 nd:L.Nodup
 lo:∀ p∈L,¬ O p
 new:∀ p,(p∈L∨Fp fp' p)→Fp fp p∨H p = none
 kept:Kept (Fp fp) H H'
 ln : σ'.length = σ.length
 stab:Mr ρ ρ' σ σ'
noncomputable def Jh (K:Frag) (O:Addr→Prop) (fp:Nat→List Addr) (H:Hp) (ρ ρ':Ro) (σ:St) (r:R) (v:V) (H':Hp):Prop:=
 ∃ L fp',Post K O fp H ρ ρ' σ σ L fp' H'∧RR K (NN fp' (ad O L)) H' σ v r L
noncomputable def VM (K:Frag) (O:Addr→Prop) (fp:Nat→List Addr) (H:Hp) (ρ ρ':Ro) (σ:St) (rs:List R) (vs:List V) (H':Hp):Prop:=
 ∃ L fp',Post K O fp H ρ ρ' σ σ L fp' H'∧RRs K (NN fp' (ad O L)) H' σ vs rs L
noncomputable def tE (K:Frag) (m:ME):TE:=fun σ H Q=>∃ ρ O fp,Rel K ρ σ H O fp∧∃ r ρ',m ρ = some (r,ρ')∧∀ v H',Jh K O fp H ρ ρ' σ r v H'→Q v H'
noncomputable def tT (K:Frag) (m:MT):TT:=fun σ H Q=>∃ ρ O fp,Rel K ρ σ H O fp∧∃ b ρ',m ρ = some (b,ρ')∧∀ fp' H',Post K O fp H ρ ρ' σ σ [] fp' H'→Q b H'
noncomputable def tA (K:Frag) (m:MA):TA:=fun σ H Q=>∃ ρ O fp,Rel K ρ σ H O fp∧∃ rs ρ',m ρ = some (rs,ρ')∧∀ vs H',VM K O fp H ρ ρ' σ rs vs H'→Q vs H'
section
variable {K:Frag} {ρ ρ' ρ1 ρ2:Ro} {σ σ' σ1 σ2:St} {H H' H1 H2:Hp} {O O':Addr→Prop} {fp fp' fp1 fp2:Nat→List Addr} {L L1 L2:List Addr}
theorem JH {p:Addr}:ad O [] p↔O p:=by simp [ad]
theorem JG {p:Addr}:ad (ad O L1) L2 p↔ad O (L1 ++ L2) p:=by simp [ad,or_assoc]
theorem Rel.congr (r:Rel K ρ σ H O fp) (h:∀ p,O p↔O' p):Rel K ρ σ H O' fp:=by
 have e:O = O':=funext fun p=>propext (h p)
 exact e ▸ r
theorem Rel.weak (r:Rel K ρ σ H O fp) (h:∀ p,O' p→O p):Rel K ρ σ H O' fp where
 len:=r.len
 slot:=fun i st a e=>by
  obtain ⟨v,e1,q⟩:=r.slot i st a e
  exact ⟨v,e1,q.tr (M:=fun _=>False) (fun _ z=>z.elim) .refl (fun p z=>.inl (z.imp id (h p))) fun _ _ z=>z⟩
 out:=r.out
 nd:=r.nd
 inj:=r.inj
 off:=fun i p hp z=>r.off i p hp (h p z)
 al:=fun p z=>r.al p (z.imp id (h p))
theorem Rel.grow (r:Rel K ρ σ H O fp) (s:Ek H H') (hO:∀ p,O' p→O p∨H p = none) (al:∀ p,O' p→H' p≠none):Rel K ρ σ H' O' fp where
 len:=r.len
 slot:=fun i st a e=>by
  obtain ⟨v,e1,q⟩:=r.slot i st a e
  refine ⟨v,e1,q.tr (M:=fun _=>False) (fun _ z=>z.elim) (fun b o e _=>s b o e) (fun p z=>?_) fun _ _ z=>z⟩
  rcases z with z | z
  ·exact .inl (.inl z)
  ·exact (hO p z).imp .inr id
 out:=r.out
 nd:=r.nd
 inj:=r.inj
 off:=fun i p hp z=>by
  rcases hO p z with q | q
  ·exact r.off i p hp q
  ·exact r.al p (.inl ⟨i,hp⟩) q
 al:=fun p z=>by
  rcases z with z | z
  ·cases q:H p with
   | none=>exact absurd q (r.al p (.inl z))
   | some o=>rw [s p o q]; simp
  ·exact al p z
theorem Rel.post (r:Rel K ρ σ H O fp):Post K O fp H ρ ρ σ σ [] fp H:=
 ⟨r.congr fun p=>JH.symm,List.nodup_nil,fun _ h=>by simp at h,fun p h=>by rcases h with h | h; simp at h; exact .inl h,.refl,rfl,.refl⟩
theorem Post.then (x:Post K O fp H ρ ρ1 σ σ1 L1 fp1 H1) (y:Post K (ad O L1) fp1 H1 ρ1 ρ2 σ1 σ2 L2 fp2 H2):Post K O fp H ρ ρ2 σ σ2 (L1 ++ L2) fp2 H2 where
 rel:=y.rel.congr fun p=>JG
 nd:=List.nodup_append.mpr ⟨x.nd,y.nd,fun a ha b hb e=>by subst e; exact y.lo a hb (.inr ha)⟩
 lo:=fun p hp z=>by
  rcases List.mem_append.mp hp with q | q
  ·exact x.lo p q z
  ·exact y.lo p q (.inl z)
 new:=fun p hp=>by
  have key:Fp fp1 p∨H1 p = none→Fp fp p∨H p = none:=fun q=>by
   rcases q with q | q
   ·exact x.new p (.inr q)
   ·cases e:H p with
    | none=>exact .inr rfl
    | some o =>
     by_cases hf:Fp fp p
     ·exact .inl hf
     ·rw [x.kept p o e (.inl hf)] at q; cases q
  rcases hp with q | q
  ·rcases List.mem_append.mp q with q | q
   ·exact x.new p (.inl q)
   ·exact key (y.new p (.inl q))
  ·exact key (y.new p (.inr q))
 kept:=x.kept.trans y.kept fun p z=>x.new p (.inr z)
 ln:=y.ln.trans x.ln
 stab:=x.stab.trans y.stab
theorem Post.drop (x:Post K O fp H ρ ρ1 σ σ1 (L1 ++ L2) fp1 H1):Post K O fp H ρ ρ1 σ σ1 L2 fp1 H1 where
 rel:=x.rel.weak fun p z=>z.imp id fun q=>List.mem_append_right _ q
 nd:=(List.nodup_append.mp x.nd).2.1
 lo:=fun p hp=>x.lo p (List.mem_append_right _ hp)
 new:=fun p hp=>x.new p (hp.imp (List.mem_append_right _) id)
 kept:=x.kept
 ln:=x.ln
 stab:=x.stab
theorem Post.drop0 (x:Post K O fp H ρ ρ1 σ σ1 L1 fp1 H1):Post K O fp H ρ ρ1 σ σ1 [] fp1 H1:=Post.drop (L1:=L1) (L2:=[]) (by rw [List.append_nil]; exact x)
theorem Post.rr {v:V} {r:R} (y:Post K (ad O L1) fp1 H1 ρ1 ρ2 σ σ L2 fp2 H2) (hr:Rel K ρ1 σ H1 (ad O L1) fp1) (h:RR K (NN fp1 (ad O L1)) H1 σ v r L) (hL:∀ p∈L,p∈L1):RR K (NN fp2 (ad O (L1 ++ L2))) H2 σ v r L:=by
 cases r with
 | ref i=>exact h
 | val a =>
  refine Aw.tr (M:=Fp fp1) (fun p z=>.inl z) y.kept (fun p z=>?_) (fun p hp z=>?_) h
  ·rcases z with z | z
   ·exact (y.new p (.inr z)).imp (fun q=>.inl q) id
   ·rcases z with z | z
    ·exact .inl (.inr (.inl z))
    ·rcases List.mem_append.mp z with z | z
     ·exact .inl (.inr (.inr z))
     ·exact (y.new p (.inl z)).imp (fun q=>.inl q) id
  ·obtain ⟨i,hi⟩:=z
   exact hr.off i p hi (.inr (hL p hp))
theorem tE.mono {m:ME} {Q Q':VK} (h:tE K m σ H Q) (q:∀ v H',Q v H'→Q' v H'):tE K m σ H Q':=by
 obtain ⟨ρ,O,fp,r,x,ρ',e,k⟩:=h
 exact ⟨ρ,O,fp,r,x,ρ',e,fun v H' z=>q v H' (k v H' z)⟩
theorem IG {Q:List V→Hp→Prop} (h:tA K Ah σ H Q):FF σ H Q:=by
 obtain ⟨ρ,O,fp,r,x,ρ',e,k⟩:=h
 cases e
 exact k [] H ⟨[],fp,r.post,rfl⟩
theorem FC {m:ME} {ms:MA} {Q:List V→Hp→Prop} (h:tA K (Ab m ms) σ H Q):B0 (tE K m) (tA K ms) σ H Q:=by
 obtain ⟨ρ,O,fp,r,x,ρ',e,k⟩:=h
 simp only [Ab,bind_eq_some_iff,map_eq_some_iff] at e
 obtain ⟨⟨r1,ρ1⟩,e1,⟨rs,ρ2⟩,e2,e3⟩:=e
 cases e3
 refine ⟨ρ,O,fp,r,r1,ρ1,e1,fun v H1 yy=>?_⟩
 obtain ⟨L1,fp1,p1,q1⟩:=yy
 refine ⟨ρ1,ad O L1,fp1,p1.rel,rs,_,e2,fun vs H2 yy=>?_⟩
 obtain ⟨L2,fp2,p2,q2⟩:=yy
 refine k (v :: vs) H2 ⟨L1 ++ L2,fp2,p1.then p2,L1,L2,rfl,p2.rr p1.rel q1 fun _ z=>z,?_⟩
 have e:ad (ad O L1) L2 = ad O (L1 ++ L2):=funext fun p=>propext JG
 rw [← e]
 exact q2
end
section
variable {K:Frag} {N N' M:Addr→Prop} {H H':Hp}
mutual
theorem Aw.al:∀ {a:A} {v:V} {L:List Addr},Aw K N H v a L→∀ p∈L,H p≠none
 | .fz d,v,L,r,p,hp=>by
  simp only [Aw] at r
  rw [r.1] at hp; simp at hp
 | .lst as,v,L,r,p,hp=>by
  simp only [Aw] at r
  obtain ⟨a,vs,L',rfl,rfl,h,hz,hs⟩:=r
  rcases List.mem_cons.mp hp with rfl | hp
  ·rw [h]; simp
  ·exact As.al hs p hp
 | .tup as,v,L,r,p,hp=>by
  simp only [Aw] at r
  obtain ⟨a,vs,rfl,h,hz,hs⟩:=r
  exact As.al hs p hp
 | .scr ns,v,L,r,p,hp=>by
  simp only [Aw] at r
  obtain ⟨a,rfl,rfl,h,hz⟩:=r
  simp at hp
 | .dic kvs,v,L,r,p,hp=>by
  simp only [Aw] at r
  obtain ⟨a,us,rfl,rfl,h,hz,hs⟩:=r
  have:p = a:=by simpa using hp
  subst this; rw [h]; simp
 | .dct kvs,v,L,r,p,hp=>by
  simp only [Aw] at r
  obtain ⟨a,us,rfl,rfl,h,hz,hs⟩:=r
  have:p = a:=by simpa using hp
  subst this; rw [h]; simp
 | .opq a o,v,L,r,p,hp=>by
  simp only [Aw] at r
  obtain ⟨rfl,rfl,_⟩:=r
  simp at hp
theorem As.al:∀ {as:List A} {vs:List V} {L:List Addr},As K N H vs as L→∀ p∈L,H p≠none
 | [],vs,L,r,p,hp=>by
  cases vs <;> simp only [As] at r
  rw [r] at hp; simp at hp
 | a :: as,vs,L,r,p,hp=>by
  cases vs with
  | nil=>simp only [As] at r
  | cons v vs =>
   simp only [As] at r
   obtain ⟨L1,L2,rfl,h1,h2⟩:=r
   rcases List.mem_append.mp hp with hp | hp
   ·exact Aw.al h1 p hp
   ·exact As.al h2 p hp
end
theorem As.len:∀ {as:List A} {vs:List V} {L:List Addr},As K N H vs as L→vs.length = as.length:=by
 intro _l
 induction _l with
 | nil =>
  intro _m
  cases _m with
  | nil =>
   intro _ _
   exact rfl
  | cons _ _ =>
   intro _ r
   simp only [As] at r
 | cons a as ih =>
  intro _m
  cases _m with
  | nil =>
   intro _ r
   simp only [As] at r
  | cons v vs =>
   intro L r
   simp only [As] at r
   obtain ⟨L1,L2,rfl,h1,h2⟩:=r
   simp [ih h2]
noncomputable def AB (N:Addr→Prop) (H:Hp):List V→List D→Prop
 | [],[]=>True
 | v :: vs,d :: ds=>RepA N H v d∧AB N H vs ds
 | _,_=>False
theorem AB.len:∀ {vs:List V} {ds:List D},AB N H vs ds→vs.length = ds.length:=by
 intro _l
 induction _l with
 | nil =>
  intro _m
  cases _m with
  | nil =>
   intro _
   exact rfl
  | cons _ _ =>
   intro r
   simp only [AB] at r
 | cons v vs ih =>
  intro _m
  cases _m with
  | nil =>
   intro r
   simp only [AB] at r
  | cons d ds =>
   intro r
   simp [ih r.2]
theorem AB.get:∀ {vs:List V} {ds:List D},AB N H vs ds→∀ (i:Nat) v d,vs[i]? = some v→ds[i]? = some d→RepA N H v d
 | [],[],_,i,v,d,h,_=>by simp at h
 | [],_ :: _,r,_,_,_,_,_=>by simp only [AB] at r
 | _ :: _,[],r,_,_,_,_,_=>by simp only [AB] at r
 | x :: vs,y :: ds,r,0,v,d,h1,h2=>by simp at h1 h2; subst h1; subst h2; exact r.1
 | x :: vs,y :: ds,r,i + 1,v,d,h1,h2=>AB.get r.2 i v d (by simpa using h1) (by simpa using h2)
theorem AB.mk:∀ {vs:List V} {ds:List D},vs.length = ds.length→(∀ (i:Nat) v d,vs[i]? = some v→ds[i]? = some d→RepA N H v d)→AB N H vs ds:=by
 intro _l
 induction _l with
 | nil =>
  intro _m
  cases _m with
  | nil =>
   intro _ _
   exact trivial
  | cons _ _ =>
   intro hl _
   simp at hl
 | cons v vs ih =>
  intro _m
  cases _m with
  | nil =>
   intro hl _
   simp at hl
  | cons d ds =>
   intro hl h
   exact ⟨h 0 v d rfl rfl,ih (by simpa using hl) fun i v d e1 e2=>h (i + 1) v d (by simpa using e1) (by simpa using e2)⟩
theorem SD {a:Addr} {vs:List V} {ds:List D} (h:H a = some (.lst vs)) (hz:vs.length≤sizeLine) (hn:¬ N a) (r:AB N H vs ds):RepA N H (.ref a) (.lst ds):=.lst h hz hn r.len r.get
theorem Q3 {a:Addr} {vs:List V} {ds:List D} (h:H a = some (.tup vs)) (hz:vs.length≤sizeLine) (r:AB N H vs ds):RepA N H (.ref a) (.tup ds):=.tup h hz r.len r.get
theorem AB.tr (hM:∀ p,M p→N p) (k:Kept M H H') (hN:∀ p,N' p→N p∨H p = none):∀ {vs:List V} {ds:List D},AB N H vs ds→AB N' H' vs ds
 | [],[],_=>trivial
 | [],_ :: _,r=>by simp only [AB] at r
 | _ :: _,[],r=>by simp only [AB] at r
 | v :: vs,d :: ds,r=>⟨r.1.tr hM k hN,AB.tr hM k hN r.2⟩
theorem EW (h:∀ p,N' p→N p) {v:V} {d:D} (r:RepA N H v d):RepA N' H v d:=r.tr (M:=fun _=>False) (fun _ z=>z.elim) .refl fun p z=>.inl (h p z)
theorem IK (h:∀ p,N' p→N p) {vs:List V} {ds:List D} (r:AB N H vs ds):AB N' H vs ds:=r.tr (M:=fun _=>False) (fun _ z=>z.elim) .refl fun p z=>.inl (h p z)
theorem Dw (h:∀ p,N' p→N p) {v:V} {a:A} {L:List Addr} (r:Aw K N H v a L):Aw K N' H v a L:=r.tr (M:=fun _=>False) (fun _ z=>z.elim) .refl (fun p z=>.inl (h p z)) fun _ _ z=>z
theorem VH (h:∀ p,N' p→N p) {vs:List V} {as:List A} {L:List Addr} (r:As K N H vs as L):As K N' H vs as L:=r.tr (M:=fun _=>False) (fun _ z=>z.elim) .refl (fun p z=>.inl (h p z)) fun _ _ z=>z
mutual
theorem Aw.er:∀ {a:A} {v:V} {L:List Addr} {d:D},Aw K N H v a L→J.er a = some d→RepA (fun p=>N p∧p ∉ L) H v d
 | .fz d,v,L,d',r,e=>by
  simp only [Aw] at r
  simp only [J.er,Option.some.injEq] at e
  subst e
  exact EW (fun p z=>z.1) r.2
 | .lst as,v,L,d',r,e=>by
  simp only [Aw] at r
  simp only [J.er,map_eq_some_iff] at e
  obtain ⟨a,vs,L',rfl,rfl,h,hz,hs⟩:=r
  obtain ⟨ds,e,rfl⟩:=e
  exact SD h hz (fun z=>z.2 (by simp)) (IK (fun p z=>⟨z.1,fun q=>z.2 (by simp [q])⟩) (As.er hs e))
 | .tup as,v,L,d',r,e=>by
  simp only [Aw] at r
  simp only [J.er,map_eq_some_iff] at e
  obtain ⟨a,vs,rfl,h,hz,hs⟩:=r
  obtain ⟨ds,e,rfl⟩:=e
  exact Q3 h hz (As.er hs e)
 | .scr ns,v,L,d',r,e=>by simp [J.er] at e
 | .dic kvs,v,L,d',r,e=>by simp [J.er] at e
 | .dct kvs,v,L,d',r,e=>by simp [J.er] at e
 | .opq _ _,v,L,d',r,e=>by simp [J.er] at e
theorem As.er:∀ {as:List A} {vs:List V} {L:List Addr} {ds:List D},As K N H vs as L→J.ers as = some ds→AB (fun p=>N p∧p ∉ L) H vs ds
 | [],vs,L,ds,r,e=>by
  cases vs <;> simp only [As] at r
  simp only [J.ers,Option.some.injEq] at e
  subst e
  trivial
 | a :: as,vs,L,ds,r,e=>by
  cases vs with
  | nil=>simp only [As] at r
  | cons v vs =>
   simp only [As] at r
   simp only [J.ers,bind_eq_some_iff,map_eq_some_iff] at e
   obtain ⟨L1,L2,rfl,h1,h2⟩:=r
   obtain ⟨d,e1,ds',e2,rfl⟩:=e
   exact ⟨EW (fun p z=>⟨z.1,fun q=>z.2 (by simp [q])⟩) (Aw.er h1 e1),IK (fun p z=>⟨z.1,fun q=>z.2 (by simp [q])⟩) (As.er h2 e2)⟩
end
theorem As.fzs:∀ {as:List A} {vs:List V} {L:List Addr} {ds:List D},As K N H vs as L→J.fzs as = some ds→L = []∧AB N H vs ds
 | [],vs,L,ds,r,e=>by
  cases vs <;> simp only [As] at r
  simp only [J.fzs,Option.some.injEq] at e
  subst e
  exact ⟨r,trivial⟩
 | a :: as,vs,L,ds,r,e=>by
  cases vs with
  | nil=>simp only [As] at r
  | cons v vs =>
   simp only [As] at r
   obtain ⟨L1,L2,rfl,h1,h2⟩:=r
   cases a with
   | fz d =>
    simp only [J.fzs,map_eq_some_iff] at e
    obtain ⟨ds',e,rfl⟩:=e
    simp only [Aw] at h1
    obtain ⟨e1,q⟩:=As.fzs h2 e
    exact ⟨by rw [h1.1,e1]; rfl,h1.2,q⟩
   | _=>simp [J.fzs] at e
theorem D9 {v:V} {d:D} (r:RepA N H v d):Aw K N H v (.fz d) []:=by rw [Aw]; exact ⟨rfl,r⟩
theorem As.of:∀ {vs:List V} {ds:List D},AB N H vs ds→As K N H vs (ds.map A.fz) []:=by
 intro _l
 induction _l with
 | nil =>
  intro _m
  cases _m with
  | nil =>
   intro _
   simp [As]
  | cons _ _ =>
   intro r
   simp only [AB] at r
 | cons v vs ih =>
  intro _m
  cases _m with
  | nil =>
   intro r
   simp only [AB] at r
  | cons d ds =>
   intro r
   simp only [List.map_cons,As]
   exact ⟨[],[],rfl,D9 r.1,ih r.2⟩
end
section
variable {K:Frag} {ρ ρ' ρ1 ρ2:Ro} {σ σ' σ1 σ2:St} {H H' H1 H2:Hp} {O O':Addr→Prop} {fp fp' fp1 fp2:Nat→List Addr} {L L1 L2:List Addr}
noncomputable def pt (fp:Nat→List Addr) (i:Nat) (L:List Addr):Nat→List Addr:=fun j=>if j = i then L else fp j
theorem Fz {i:Nat}:pt fp i L i = L:=by simp [pt]
theorem Hj {i j:Nat} (h:j≠i):pt fp i L j = fp j:=by simp [pt,h]
theorem BG {i j:Nat} {p:Addr} (h:p∈pt fp i L j):(j = i∧p∈L)∨(j≠i∧p∈fp j):=by
 by_cases e:j = i
 ·subst e; rw [Fz] at h; exact .inl ⟨rfl,h⟩
 ·rw [Hj e] at h; exact .inr ⟨e,h⟩
theorem Rel.set (r:Rel K ρ σ H O fp) {i:Nat} {s:Slot} {o:Option V} (hi:i < ρ.length) (hO:∀ p,O' p→NN fp O p) (hL:∀ p∈L,NN fp O p) (nd:L.Nodup) (hd:∀ p∈L,∀ j,j≠i→p ∉ fp j) (ho:∀ p∈L,¬ O' p) (hoo:∀ j p,j≠i→p∈fp j→¬ O' p)
  (hs:∀ st a,s = some (st,a)→∃ v,o = some v∧Aw K (NN (pt fp i L) O') H v a L) (hn:s = none→L = []):Rel K (ρ.set i s) (σ.set i o) H O' (pt fp i L) where
 len:=by simp [r.len]
 slot:=fun j st a e=>by
  by_cases hj:j = i
  ·subst hj
   rw [List.getElem?_set_self hi] at e
   obtain ⟨v,e1,q⟩:=hs st a (Option.some.inj e)
   refine ⟨v,?_,by rw [Fz]; exact q⟩
   rw [List.getElem?_set_self (by rw [← r.len]; exact hi),e1]
  ·rw [List.getElem?_set_ne (Ne.symm hj)] at e
   obtain ⟨v,e1,q⟩:=r.slot j st a e
   refine ⟨v,by rw [List.getElem?_set_ne (Ne.symm hj)]; exact e1,?_⟩
   rw [Hj hj]
   refine Dw (fun p z=>?_) q
   rcases z with ⟨k,z⟩ | z
   ·rcases BG z with ⟨_,z⟩ | ⟨_,z⟩
    ·exact hL p z
    ·exact .inl ⟨k,z⟩
   ·exact hO p z
 out:=fun j h=>by
  by_cases hj:j = i
  ·subst hj
   rw [Fz]
   cases s with
   | none=>exact hn rfl
   | some x=>exact absurd (List.getElem?_set_self hi) (h x.1 x.2)
  ·rw [Hj hj]
   exact r.out j fun st a e=>h st a (by rw [List.getElem?_set_ne (Ne.symm hj)]; exact e)
 nd:=fun j=>by
  by_cases hj:j = i
  ·subst hj; rw [Fz]; exact nd
  ·rw [Hj hj]; exact r.nd j
 inj:=fun j k p h1 h2=>by
  rcases BG h1 with ⟨e1,z1⟩ | ⟨e1,z1⟩
  ·rcases BG h2 with ⟨e2,z2⟩ | ⟨e2,z2⟩
   ·rw [e1,e2]
   ·exact absurd z2 (hd p z1 k e2)
  ·rcases BG h2 with ⟨e2,z2⟩ | ⟨e2,z2⟩
   ·exact absurd z1 (hd p z2 j e1)
   ·exact r.inj j k p z1 z2
 off:=fun j p h z=>by
  rcases BG h with ⟨e1,z1⟩ | ⟨e1,z1⟩
  ·exact ho p z1 z
  ·exact hoo j p e1 z1 z
 al:=fun p z=>by
  rcases z with ⟨j,z⟩ | z
  ·rcases BG z with ⟨_,z⟩ | ⟨_,z⟩
   ·exact r.al p (hL p z)
   ·exact r.al p (.inl ⟨j,z⟩)
  ·exact r.al p (hO p z)
theorem ID {i:Nat} {v:V} (h : σ[i]? = some (some v)) : σ.set i (some v) = σ:=by
 apply List.ext_getElem?
 intro j
 by_cases e:j = i
 ·subst e
  have:=(List.getElem?_eq_some_iff.mp h).1
  rw [List.getElem?_set_self this,h]
 ·rw [List.getElem?_set_ne (Ne.symm e)]
theorem Az {α:Type} {l:List α} {i:Nat} {x:α} (h:l[i]? = some x):i < l.length:=(List.getElem?_eq_some_iff.mp h).1
theorem GY {p:Addr}:NN fp (ad O []) p↔NN fp O p:=by simp [NN,ad]
theorem ET {v:V} {r:R} {d:D} (x:Post K O fp H ρ ρ1 σ σ L fp1 H1) (q:RR K (NN fp1 (ad O L)) H1 σ v r L) (e:share ρ1 r = some (d,ρ2)) :
  ∃ fp2,Post K O fp H ρ ρ2 σ σ [] fp2 H1∧RepA (NN fp2 (ad O [])) H1 v d:=by
 cases r with
 | val a =>
  simp only [share,map_eq_some_iff] at e
  obtain ⟨d',e,e'⟩:=e
  cases e'
  refine ⟨fp1,x.drop0,EW (fun p z=>?_) (Aw.er q e)⟩
  have z':=GY.mp z
  refine ⟨z'.imp id .inl,fun hp=>?_⟩
  rcases z' with ⟨i,z⟩ | z
  ·exact x.rel.off i p z (.inr hp)
  ·exact x.lo p hp z
 | ref i =>
  obtain ⟨rfl,hv⟩:=q
  simp only [share] at e
  split at e
  ·rename_i a ha
   simp only [map_eq_some_iff] at e
   obtain ⟨d',e,e'⟩:=e
   cases e'
   obtain ⟨v',hv',q⟩:=x.rel.slot i _ _ ha
   rw [hv] at hv'; cases hv'
   have q2:RepA (NN (pt fp1 i []) (ad O [])) H1 v d:=EW (fun p z=>by
    rcases z with ⟨j,z⟩ | z
    ·rcases BG z with ⟨_,z⟩ | ⟨hj,z⟩
     ·simp at z
     ·exact ⟨.inl ⟨j,z⟩,fun hp=>hj (x.rel.inj j i p z hp)⟩
    ·exact ⟨.inr z,fun hp=>x.rel.off i p hp z⟩) (Aw.er q e)
   have R:=x.rel.set (i:=i) (s:=some (.own,.fz d)) (o:=some v) (L:=[]) (O':=ad O []) (Az ha) (fun p z=>.inr z) (fun p hp=>by simp at hp) List.nodup_nil (fun p hp=>by simp at hp) (fun p hp=>by simp at hp)
    (fun j p _ h=>x.rel.off j p h) (fun st a e=>by cases e; exact ⟨v,rfl,D9 q2⟩) (fun e=>by cases e)
   rw [ID hv] at R
   refine ⟨pt fp1 i [],⟨R,List.nodup_nil,fun p hp=>by simp at hp,fun p hp=>?_,x.kept,rfl,fun j st a' h n=>?_⟩,q2⟩
   ·rcases hp with hp | ⟨j,hp⟩
    ·simp at hp
    ·rcases BG hp with ⟨_,z⟩ | ⟨_,z⟩
     ·simp at z
     ·exact x.new p (.inr ⟨j,z⟩)
   ·obtain ⟨a2,h2,_,f2⟩:=x.stab j st a' h n
    refine ⟨a2,?_,rfl,f2⟩
    rw [List.getElem?_set_ne]
    ·exact h2
    ·rintro rfl
     rw [ha] at h2; cases h2; exact n rfl
  ·cases e
theorem OT {v:V} {r:R} {a:A} (x:Post K O fp H ρ ρ1 σ σ L fp1 H1) (q:RR K (NN fp1 (ad O L)) H1 σ v r L) (e:move ρ1 r = some (a,ρ2)) :
  ∃ L2 fp2,Post K O fp H ρ ρ2 σ σ L2 fp2 H1∧Aw K (NN fp2 (ad O L2)) H1 v a L2:=by
 cases r with
 | val a =>
  simp only [move,Option.some.injEq] at e
  cases e
  exact ⟨L,fp1,x,q⟩
 | ref i =>
  obtain ⟨rfl,hv⟩:=q
  simp only [move] at e
  split at e
  ·rename_i a' ha
   cases e
   obtain ⟨v',hv',q⟩:=x.rel.slot i _ _ ha
   rw [hv] at hv'; cases hv'
   have nn:∀ p,NN (pt fp1 i []) (ad O (fp1 i)) p→NN fp1 (ad O []) p:=fun p z=>by
    rcases z with ⟨j,z⟩ | z | z
    ·rcases BG z with ⟨_,z⟩ | ⟨_,z⟩
     ·simp at z
     ·exact .inl ⟨j,z⟩
    ·exact .inr (.inl z)
    ·exact .inl ⟨i,z⟩
   have R:=x.rel.set (i:=i) (s:=none) (o:=some v) (L:=[]) (O':=ad O (fp1 i)) (Az ha) (fun p z=>nn p (.inr z)) (fun p hp=>by simp at hp) List.nodup_nil (fun p hp=>by simp at hp) (fun p hp=>by simp at hp)
    (fun j p hj h z=>by
     rcases z with z | z
     ·exact x.rel.off j p h (.inl z)
     ·exact hj (x.rel.inj j i p h z)) (fun st a e=>by cases e) (fun _=>rfl)
   rw [ID hv] at R
   refine ⟨fp1 i,pt fp1 i [],⟨R,x.rel.nd i,fun p hp z=>x.rel.off i p hp (.inl z),fun p hp=>?_,x.kept,rfl,fun j st a' h n=>?_⟩,Dw nn q⟩
   ·rcases hp with hp | ⟨j,hp⟩
    ·exact x.new p (.inr ⟨i,hp⟩)
    ·rcases BG hp with ⟨_,z⟩ | ⟨_,z⟩
     ·simp at z
     ·exact x.new p (.inr ⟨j,z⟩)
   ·obtain ⟨a2,h2,_,f2⟩:=x.stab j st a' h n
    refine ⟨a2,?_,rfl,f2⟩
    rw [List.getElem?_set_ne]
    ·exact h2
    ·rintro rfl
     rw [ha] at h2; cases h2; exact n rfl
  ·cases e
end
section
variable {K:Frag} {ρ ρ' ρ1 ρ2:Ro} {σ σ' σ1 σ2:St} {H H' H1 H2:Hp} {O O' N:Addr→Prop} {fp fp' fp1 fp2:Nat→List Addr} {L L1 L2:List Addr}
theorem Np {v:V} {d:D} (r:RepA N H v d):RR K N H σ v (.val (.fz d)) []:=D9 (K:=K) r
noncomputable def La (K:Frag) (N:Addr→Prop) (H:Hp) (a:A) (v:V) (H':Hp):Prop:=Ek H H'∧∃ L,Aw K (fun p=>N p∨p∈L) H' v a L∧L.Nodup∧∀ p∈L,H p = none
noncomputable abbrev JF (K:Frag) (N:Addr→Prop) (H:Hp):List V→List A→Prop
 | [],[]=>True
 | v :: vs,a :: as=>(∃ L,Aw K N H v a L)∧JF K N H vs as
 | _,_=>False
noncomputable def OpN (K:Frag) (f:List A→Option A) (r:List V→Hp→VK→Prop):Prop:=
 ∀ N H xs as b Q,JF K N H xs as→f as = some b→(∀ v H',La K N H b v H'→Q v H')→r xs H Q
theorem Rel.peek {r:R} {v:V} {a:A} (x:Rel K ρ σ H O fp) (q:RR K (NN fp O) H σ v r L) (e:peek ρ r = some a):∃ L,Aw K (NN fp O) H v a L:=by
 cases r with
 | val b =>
  simp only [J.peek,Option.some.injEq] at e
  subst e
  exact ⟨L,q⟩
 | ref i =>
  simp only [J.peek] at e
  split at e
  ·rename_i st b hb
   cases e
   obtain ⟨v',h1,h2⟩:=x.slot i _ _ hb
   rw [q.2] at h1; cases h1
   exact ⟨_,h2⟩
  ·cases e
theorem Rel.peeks (x:Rel K ρ σ H O fp):∀ {rs:List R} {vs:List V} {as:List A} {L:List Addr},RRs K (NN fp O) H σ vs rs L→J.peeks ρ rs = some as→JF K (NN fp O) H vs as
 | [],[],as,L,_,e=>by
  simp only [J.peeks,Option.some.injEq] at e
  subst e
  trivial
 | [],_ :: _,_,_,q,_=>by simp only [RRs] at q
 | _ :: _,[],_,_,q,_=>by simp only [RRs] at q
 | r :: rs,v :: vs,as,L,q,e=>by
  simp only [J.peeks,bind_eq_some_iff,map_eq_some_iff] at e
  obtain ⟨a,e1,as',e2,rfl⟩:=e
  simp only [RRs] at q
  obtain ⟨L1,L2,rfl,q1,q2⟩:=q
  exact ⟨x.peek q1 e1,x.peeks q2 e2⟩
theorem Post.out {a:A} {v:V} (x:Post K O fp H ρ ρ1 σ σ L fp1 H1) (o:La K (NN fp1 (ad O L)) H1 a v H2):Jh K O fp H ρ ρ1 σ (.val a) v H2:=by
 obtain ⟨s,L',r,nd,nw⟩:=o
 have al:=r.al
 have alO:∀ p,NN fp1 (ad O L) p→H1 p≠none:=x.rel.al
 refine ⟨L',fp1,⟨x.rel.grow s (fun p z=>z.imp .inl (nw p)) fun p z=>?_,nd,fun p hp z=>alO p (.inr (.inl z)) (nw p hp),fun p hp=>?_,x.kept.trans (Ek.kept (L:=fun _=>False) s) fun _ z=>z.elim,x.ln,x.stab⟩,?_⟩
 ·rcases z with z | z
  ·intro q
   have:=alO p (.inr (.inl z))
   cases e:H1 p with
   | none=>exact this e
   | some o=>rw [s p o e] at q; cases q
  ·exact al p z
 ·rcases hp with hp | hp
  ·have e1:=nw p hp
   cases e:H p with
   | none=>exact .inr rfl
   | some o =>
    by_cases hf:Fp fp p
    ·exact .inl hf
    ·rw [x.kept p o e (.inl hf)] at e1; cases e1
  ·exact x.new p (.inr hp)
 ·refine Dw (fun p z=>?_) r
  rcases z with z | z | z
  ·exact .inl (.inl z)
  ·exact .inl (.inr (.inl z))
  ·exact .inr z
theorem Ot {f:List A→Option A} {r:List V→Hp→VK→Prop} {m:MA} {Q:VK} (ok:OpN K f r) (h:tE K (opM f m) σ H Q):tA K m σ H fun vs H1=>r vs H1 Q:=by
 obtain ⟨ρ,O,fp,rl,x,ρ',e,k⟩:=h
 simp only [opM,bind_eq_some_iff,map_eq_some_iff] at e
 obtain ⟨⟨rs,ρ1⟩,e1,as,e2,b,e3,e4⟩:=e
 cases e4
 refine ⟨ρ,O,fp,rl,rs,_,e1,fun vs H1 yy=>?_⟩
 obtain ⟨L,fp1,p,q⟩:=yy
 exact ok _ H1 vs as b Q (p.rel.peeks q e2) e3 fun v H' o=>k v H' (p.out o)
theorem Vq {i:Nat} {Q:VK} (h:tE K (Ae i) σ H Q):Rh i σ H Q:=by
 obtain ⟨ρ,O,fp,rl,x,ρ',e,k⟩:=h
 simp only [Ae] at e
 split at e
 ·rename_i st d hd
  cases e
  obtain ⟨v,h1,h2⟩:=rl.slot i _ _ hd
  refine ⟨v,h1,k v H ⟨[],fp,rl.post,?_⟩⟩
  rw [Aw] at h2
  exact Np (EW (fun p z=>GY.mp z) h2.2)
 ·rename_i y hn hy
  cases e
  obtain ⟨st,a⟩:=y
  obtain ⟨v,h1,h2⟩:=rl.slot i _ _ hy
  exact ⟨v,h1,k v H ⟨[],fp,rl.post,rfl,h1⟩⟩
 ·cases e
theorem II {d:D} {v:V} {Q:VK} (hv:∀ N H,RepA N H v d) (h:tE K (Ag d) σ H Q):tC v σ H Q:=by
 obtain ⟨ρ,O,fp,rl,x,ρ',e,k⟩:=h
 cases e
 exact k v H ⟨[],fp,rl.post,Np (hv _ _)⟩
theorem Rc {m:ME} {Q:VK} (h:tE K (Ad m) σ H Q):tE K m σ H Q:=by
 obtain ⟨ρ,O,fp,rl,x,ρ',e,k⟩:=h
 simp only [Ad,bind_eq_some_iff,map_eq_some_iff] at e
 obtain ⟨⟨r,ρ1⟩,e1,⟨d,ρ2⟩,e2,e3⟩:=e
 cases e3
 refine ⟨ρ,O,fp,rl,r,ρ1,e1,fun v H1 yy=>?_⟩
 obtain ⟨L,fp1,p,q⟩:=yy
 obtain ⟨fp2,p2,q2⟩:=ET p q e2
 exact k v H1 ⟨[],fp2,p2,Np q2⟩
theorem Q2 {v:V} {a:A} {b:Bool} (h:Aw K N H v a L) (e:DX a = some b):v = .bl b:=by
 cases a with
 | fz d =>
  cases d with
  | bl c =>
   simp only [DX,Option.some.injEq] at e
   subst e
   rw [Aw] at h
   obtain ⟨_,h⟩:=h
   cases h
   rfl
  | _=>simp [DX] at e
 | _=>simp [DX] at e
theorem KZ {m:ME} {Q:Bool→Hp→Prop} (h:tT K (AR m) σ H Q):tE K m σ H fun x H1=>∃ c,x = .bl c∧Q c H1:=by
 obtain ⟨ρ,O,fp,rl,x,ρ',e,k⟩:=h
 simp only [AR,bind_eq_some_iff,map_eq_some_iff] at e
 obtain ⟨⟨r,ρ1⟩,e1,a,e2,b,e3,e4⟩:=e
 cases e4
 refine ⟨ρ,O,fp,rl,r,_,e1,fun v H1 yy=>?_⟩
 obtain ⟨L,fp1,p,q⟩:=yy
 obtain ⟨L',q'⟩:=p.rel.peek q e2
 exact ⟨_,Q2 q' e3,k fp1 H1 p.drop0⟩
theorem Post.next {σ2:St} (x:Post K O fp H ρ ρ1 σ σ1 [] fp1 H1) (y:Post K O fp1 H1 ρ1 ρ2 σ1 σ2 L2 fp2 H2):Post K O fp H ρ ρ2 σ σ2 L2 fp2 H2:=by
 have e:ad O [] = O:=funext fun p=>propext JH
 exact Post.then (L1:=[]) x (by rw [e]; exact y)
theorem Post.rel0 (x:Post K O fp H ρ ρ1 σ σ1 [] fp1 H1):Rel K ρ1 σ1 H1 O fp1:=x.rel.congr fun p=>JH
theorem Jh.pre {r:R} {v:V} (x:Post K O fp H ρ ρ1 σ σ [] fp1 H1) (y:Jh K O fp1 H1 ρ1 ρ2 σ r v H2):Jh K O fp H ρ ρ2 σ r v H2:=by
 obtain ⟨L,fp2,p,q⟩:=y
 exact ⟨L,fp2,x.next p,q⟩
theorem Wz {a b:MT} {Q:Bool→Hp→Prop} (h:tT K (orT a b) σ H Q):tT K a σ H fun c H1=>if c = true then Q true H1 else tT K b σ H1 Q:=by
 obtain ⟨ρ,O,fp,rl,x,ρ',e,k⟩:=h
 simp only [orT,bind_eq_some_iff] at e
 obtain ⟨⟨c,ρ1⟩,e1,e2⟩:=e
 refine ⟨ρ,O,fp,rl,c,ρ1,e1,fun fp1 H1 p=>?_⟩
 cases c with
 | false =>
  simp at e2
  rw [if_neg Bool.false_ne_true]
  exact ⟨ρ1,O,fp1,p.rel0,x,ρ',e2,fun fp2 H2 p2=>k fp2 H2 (p.next p2)⟩
 | true =>
  simp at e2
  obtain ⟨rfl,rfl⟩:=e2
  rw [if_pos rfl]
  exact k fp1 H1 p
theorem VE {a:MT} {Q:Bool→Hp→Prop} (h:tT K (Dp a) σ H Q):tT K a σ H fun c H1=>Q (!c) H1:=by
 obtain ⟨ρ,O,fp,rl,x,ρ',e,k⟩:=h
 simp only [Dp,map_eq_some_iff] at e
 obtain ⟨⟨c,ρ1⟩,e1,e2⟩:=e
 cases e2
 exact ⟨ρ,O,fp,rl,c,_,e1,k⟩
theorem Ov {m:ME} {Q:Bool→Hp→Prop} {ρ ρ':Ro} {b:Bool} {O:Addr→Prop} {fp:Nat→List Addr} (rl:Rel K ρ σ H O fp) (e:AR m ρ = some (b,ρ')) (k:∀ fp' H',Post K O fp H ρ ρ' σ σ [] fp' H'→Q b H'):tE K m σ H fun x H1=>∃ c,x = .bl c∧Q c H1:=
 KZ ⟨ρ,O,fp,rl,b,ρ',e,k⟩
theorem Vm {a b:ME} {Q:VK} (h:tE K (andM a b) σ H Q):tE K a σ H fun x H1=>∃ c,x = .bl c∧if c = true then tE K b σ H1 Q else Q (.bl false) H1:=by
 obtain ⟨ρ,O,fp,rl,x,ρ',e,k⟩:=h
 simp only [andM,bind_eq_some_iff] at e
 obtain ⟨⟨c,ρ1⟩,e1,e2⟩:=e
 refine Ov (Q:=fun c H1=>if c = true then tE K b σ H1 Q else Q (.bl false) H1) rl e1 fun fp1 H1 p=>?_
 cases c with
 | true =>
  rw [if_pos rfl] at e2 ⊢
  exact ⟨ρ1,O,fp1,p.rel0,x,ρ',e2,fun v H2 p2=>k v H2 (p2.pre p)⟩
 | false =>
  simp at e2
  obtain ⟨rfl,rfl⟩:=e2
  rw [if_neg Bool.false_ne_true]
  exact k _ H1 ⟨[],fp1,p,Np (.bl _)⟩
theorem Vp {a:ME} {Q:VK} (h:tE K (notM a) σ H Q):tE K a σ H fun x H1=>∃ c,x = .bl c∧Q (.bl (!c)) H1:=by
 obtain ⟨ρ,O,fp,rl,x,ρ',e,k⟩:=h
 simp only [notM,map_eq_some_iff] at e
 obtain ⟨⟨c,ρ1⟩,e1,e2⟩:=e
 cases e2
 exact Ov (Q:=fun c H1=>Q (.bl (!c)) H1) rl e1 fun fp1 H1 p=>k _ H1 ⟨[],fp1,p,Np (.bl _)⟩
theorem RRs.vals:∀ {rs:List R} {vs:List V} {as:List A} {L:List Addr},RRs K N H σ vs rs L→J.vals rs = some as→As K N H vs as L:=by
 intro _l
 induction _l with
 | nil =>
  intro _m
  cases _m with
  | nil =>
   intro as L q e
   simp only [J.vals,Option.some.injEq] at e
   subst e
   simp only [RRs] at q
   simp only [As]
   exact q
  | cons _ _ =>
   intro _ _ q _
   simp only [RRs] at q
 | cons r rs ih =>
  intro _m
  cases _m with
  | nil =>
   intro _ _ q _
   simp only [RRs] at q
  | cons v vs =>
   intro as L q e
   cases r with
   | ref i=>simp [J.vals] at e
   | val a =>
    simp only [J.vals,map_eq_some_iff] at e
    obtain ⟨as',e2,rfl⟩:=e
    simp only [RRs] at q
    obtain ⟨L1,L2,rfl,q1,q2⟩:=q
    simp only [As]
    exact ⟨L1,L2,rfl,q1,ih q2 e2⟩
theorem DF {p:Addr} {o:HO} (h:H p = none):Ek H (upd H p o):=fun b o' e=>by
 rw [Ax (C2 e h)]; exact e
theorem Post.more {L':List Addr} (x:Post K O fp H ρ ρ1 σ σ1 L fp1 H1) (s:Ek H1 H2) (nd:L'.Nodup) (h:∀ p∈L',p∈L∨(H1 p = none∧H2 p≠none)):Post K O fp H ρ ρ1 σ σ1 L' fp1 H2 where
 rel:=x.rel.grow s (fun p z=>by
   rcases z with z | z
   ·exact .inl (.inl z)
   ·rcases h p z with q | q
    ·exact .inl (.inr q)
    ·exact .inr q.1) fun p z=>by
   have key:H1 p≠none→H2 p≠none:=fun n q=>by
    cases e:H1 p with
    | none=>exact n e
    | some o=>rw [s p o e] at q; cases q
   rcases z with z | z
   ·exact key (x.rel.al p (.inr (.inl z)))
   ·rcases h p z with q | q
    ·exact key (x.rel.al p (.inr (.inr q)))
    ·exact q.2
 nd:=nd
 lo:=fun p hp z=>by
  rcases h p hp with q | q
  ·exact x.lo p q z
  ·exact x.rel.al p (.inr (.inl z)) q.1
 new:=fun p hp=>by
  rcases hp with hp | hp
  ·rcases h p hp with q | q
   ·exact x.new p (.inl q)
   ·cases e:H p with
    | none=>exact .inr rfl
    | some o =>
     by_cases hf:Fp fp p
     ·exact .inl hf
     ·have:=x.kept p o e (.inl hf)
      rw [q.1] at this; cases this
  ·exact x.new p (.inr hp)
 kept:=x.kept.trans (Ek.kept (L:=fun _=>False) s) fun _ z=>z.elim
 ln:=x.ln
 stab:=x.stab
theorem Vo {m:MA} {Q:VK} (h:tE K (lstM m) σ H Q):Wt (tA K m) σ H Q:=by
 obtain ⟨ρ,O,fp,rl,x,ρ',e,k⟩:=h
 simp only [lstM,bind_eq_some_iff] at e
 obtain ⟨⟨rs,ρ1⟩,e1,as,e2,e3⟩:=e
 split at e3
 ·rename_i hz
  cases e3
  refine ⟨ρ,O,fp,rl,rs,_,e1,fun vs H1 yy=>?_⟩
  obtain ⟨L,fp1,p,q⟩:=yy
  have q':=q.vals e2
  have hl:=q'.len
  refine ⟨by rw [hl]; exact hz,fun a ha=>k _ _ ?_⟩
  have s:=DF (o:=.lst vs) ha
  have nL:a ∉ L:=fun z=>p.rel.al a (.inr (.inr z)) ha
  refine ⟨a :: L,fp1,p.more s (List.nodup_cons.mpr ⟨nL,p.nd⟩) (fun b hb=>?_),?_⟩
  ·rcases List.mem_cons.mp hb with rfl | hb
   ·exact .inr ⟨ha,by rw [AQ]; simp⟩
   ·exact .inl hb
  ·show Aw _ _ _ _ _ _
   rw [Aw]
   refine ⟨a,vs,L,rfl,rfl,AQ,by rw [hl]; exact hz,q'.tr (M:=fun _=>False) (fun _ z=>z.elim) (Ek.kept s) (fun b z=>?_) fun _ _ z=>z⟩
   rcases z with z | z | z
   ·exact .inl (.inl z)
   ·exact .inl (.inr (.inl z))
   ·rcases List.mem_cons.mp z with rfl | z
    ·exact .inr ha
    ·exact .inl (.inr (.inr z))
 ·cases e3
end
noncomputable def Pr (K:Frag) (O:Addr→Prop) (fp:Nat→List Addr) (H:Hp) (ρ:Ro) (σ:St) (D:Ends):Fl→Prop
 | .next ρ'=>∀ σ' fp' H',Post K O fp H ρ ρ' σ σ' [] fp' H'→D.nx σ' H'
 | .brk ρ'=>∀ σ' fp' H',Post K O fp H ρ ρ' σ σ' [] fp' H'→D.bk σ' H'
 | .cnt ρ'=>∀ σ' fp' H',Post K O fp H ρ ρ' σ σ' [] fp' H'→D.ct σ' H'
 | .ret a ρ'=>∀ σ' v L fp' H',Post K O fp H ρ ρ' σ σ' L fp' H'→Aw K (NN fp' (ad O L)) H' v a L→D.rt v H'
noncomputable def tS (K:Frag) (m:MS):TS:=fun D σ H=>∃ ρ O fp,Rel K ρ σ H O fp∧∃ fl,m ρ = some fl∧Pr K O fp H ρ σ D fl
section
variable {K:Frag} {ρ ρ' ρ1 ρ2:Ro} {σ σ' σ1 σ2:St} {H H' H1 H2:Hp} {O O' N:Addr→Prop} {fp fp' fp1 fp2:Nat→List Addr} {L L1 L2:List Addr} {D:Ends}
theorem Pr.pre {fl:Fl} (x:Post K O fp H ρ ρ1 σ σ1 [] fp1 H1) (w:Pr K O fp H ρ σ D fl):Pr K O fp1 H1 ρ1 σ1 D fl:=by
 cases fl with
 | next ρ'=>exact fun σ' fp' H' p=>w σ' fp' H' (x.next p)
 | brk ρ'=>exact fun σ' fp' H' p=>w σ' fp' H' (x.next p)
 | cnt ρ'=>exact fun σ' fp' H' p=>w σ' fp' H' (x.next p)
 | ret a ρ'=>exact fun σ' v L fp' H' p q=>w σ' v L fp' H' (x.next p) q
theorem S0 (h:tS K Bj D σ H):To D σ H:=by
 obtain ⟨ρ,O,fp,rl,fl,e,w⟩:=h
 cases e
 exact w σ fp H rl.post
theorem VB {a b:MS} (h:tS K (AF a b) D σ H):VD (tS K a) (tS K b) D σ H:=by
 obtain ⟨ρ,O,fp,rl,fl,e,w⟩:=h
 simp only [AF,bind_eq_some_iff] at e
 obtain ⟨f1,e1,e2⟩:=e
 refine ⟨ρ,O,fp,rl,f1,e1,?_⟩
 cases f1 with
 | next ρ1=>exact fun σ1 fp1 H1 p=>⟨ρ1,O,fp1,p.rel0,fl,e2,w.pre p⟩
 | brk ρ1=>cases e2; exact w
 | cnt ρ1=>cases e2; exact w
 | ret a ρ1=>cases e2; exact w
theorem Wy {c:MT} {a b:MS} (h:tS K (ifS c a b) D σ H):Vt (tT K c) (tS K a) (tS K b) D σ H:=by
 obtain ⟨ρ,O,fp,rl,fl,e,w⟩:=h
 simp only [ifS,bind_eq_some_iff] at e
 obtain ⟨⟨c,ρ1⟩,e1,e2⟩:=e
 refine ⟨ρ,O,fp,rl,c,ρ1,e1,fun fp1 H1 p=>?_⟩
 cases c with
 | true =>
  simp at e2
  rw [if_pos rfl]
  exact ⟨ρ1,O,fp1,p.rel0,fl,e2,w.pre p⟩
 | false =>
  simp at e2
  rw [if_neg Bool.false_ne_true]
  exact ⟨ρ1,O,fp1,p.rel0,fl,e2,w.pre p⟩
theorem Vw {m:ME} (h:tS K (J2 m) D σ H):Mj (tE K m) D σ H:=by
 obtain ⟨ρ,O,fp,rl,fl,e,w⟩:=h
 simp only [J2,map_eq_some_iff] at e
 obtain ⟨⟨r,ρ1⟩,e1,e2⟩:=e
 cases e2
 exact ⟨ρ,O,fp,rl,r,ρ1,e1,fun v H1 ⟨L,fp1,p,q⟩=>w σ fp1 H1 p.drop0⟩
theorem VA {m:ME} (h:tS K (retS m) D σ H):Wx (tE K m) D σ H:=by
 obtain ⟨ρ,O,fp,rl,fl,e,w⟩:=h
 simp only [retS,bind_eq_some_iff,map_eq_some_iff] at e
 obtain ⟨⟨r,ρ1⟩,e1,⟨a,ρ2⟩,e2,e3⟩:=e
 cases e3
 refine ⟨ρ,O,fp,rl,r,ρ1,e1,fun v H1 yy=>?_⟩
 obtain ⟨L,fp1,p,q⟩:=yy
 obtain ⟨L2,fp2,p2,q2⟩:=OT p q e2
 exact w σ v L2 fp2 H1 p2 q2
theorem PQ {i:Nat} (h:free ρ i = true):i < ρ.length∧∀ st a,ρ[i]? = some (some (st,a))→st = .own:=by
 unfold free at h
 split at h
 ·rename_i e
  exact ⟨Az e,fun st a e'=>by rw [e] at e'; cases e'⟩
 ·rename_i a e
  exact ⟨Az e,fun st a e'=>by rw [e] at e'; cases e'; rfl⟩
 ·cases h
theorem Post.store {i:Nat} {v:V} {a:A} {σ1:St} (x:Post K O fp H ρ ρ1 σ σ1 (L1 ++ L2) fp1 H1) (hf:free ρ1 i = true) (q:Aw K (NN fp1 (ad O (L1 ++ L2))) H1 v a L1) :
  Post K O fp H ρ (ρ1.set i (some (.own,a))) σ (σ1.set i (some v)) L2 (pt fp1 i L1) H1:=by
 obtain ⟨hi,ho⟩:=PQ hf
 have nd:=List.nodup_append.mp x.nd
 have nn:∀ p,NN (pt fp1 i L1) (ad O L2) p→NN fp1 (ad O (L1 ++ L2)) p:=fun p z=>by
  rcases z with ⟨j,z⟩ | z | z
  ·rcases BG z with ⟨_,z⟩ | ⟨_,z⟩
   ·exact .inr (.inr (List.mem_append_left _ z))
   ·exact .inl ⟨j,z⟩
  ·exact .inr (.inl z)
  ·exact .inr (.inr (List.mem_append_right _ z))
 refine ⟨x.rel.set (O':=ad O L2) hi (fun p z=>nn p (.inr z)) (fun p hp=>.inr (.inr (List.mem_append_left _ hp))) nd.1 (fun p hp j _ z=>x.rel.off j p z (.inr (List.mem_append_left _ hp))) (fun p hp z=>?_)
  (fun j p _ h z=>x.rel.off j p h (z.imp id (List.mem_append_right _))) (fun st a' e=>by cases e; exact ⟨v,rfl,Dw nn q⟩) (fun e=>by cases e),nd.2.1,fun p hp=>x.lo p (List.mem_append_right _ hp),fun p hp=>?_,x.kept,by rw [List.length_set]; exact x.ln,fun j st a' h n=>?_⟩
 ·rcases z with z | z
  ·exact x.lo p (List.mem_append_left _ hp) z
  ·exact nd.2.2 p hp p z rfl
 ·rcases hp with hp | ⟨j,hp⟩
  ·exact x.new p (.inl (List.mem_append_right _ hp))
  ·rcases BG hp with ⟨_,z⟩ | ⟨_,z⟩
   ·exact x.new p (.inl (List.mem_append_left _ z))
   ·exact x.new p (.inr ⟨j,z⟩)
 ·obtain ⟨a2,h2,e2,f2⟩:=x.stab j st a' h n
  have hj:j≠i:=by
   rintro rfl
   exact n (ho st a2 h2)
  exact ⟨a2,by rw [List.getElem?_set_ne (Ne.symm hj)]; exact h2,by rw [List.getElem?_set_ne (Ne.symm hj)]; exact e2,f2⟩
theorem GU {v:V} {r:R} {a:A} (x:Post K O fp H ρ ρ1 σ σ L fp1 H1) (q:RR K (NN fp1 (ad O L)) H1 σ v r L) (e:keep ρ1 r = some (a,ρ2)) :
  ∃ L2 fp2,Post K O fp H ρ ρ2 σ σ L2 fp2 H1∧Aw K (NN fp2 (ad O L2)) H1 v a L2:=by
 cases r with
 | val b =>
  simp only [keep,Option.some.injEq] at e
  cases e
  exact ⟨L,fp1,x,q⟩
 | ref i =>
  simp only [keep,map_eq_some_iff] at e
  obtain ⟨⟨d,ρ3⟩,e,e'⟩:=e
  cases e'
  obtain ⟨fp2,p,q2⟩:=ET x q e
  exact ⟨[],fp2,p,D9 q2⟩
theorem NH {i:Nat} {m:ME} (h:tS K (AL i m) D σ H):ND (tE K m) (Gu i) D σ H:=by
 obtain ⟨ρ,O,fp,rl,fl,e,w⟩:=h
 simp only [AL,bind_eq_some_iff] at e
 obtain ⟨⟨r,ρ1⟩,e1,⟨a,ρ2⟩,e2,e3⟩:=e
 split at e3
 ·rename_i hf
  cases e3
  refine ⟨ρ,O,fp,rl,r,ρ1,e1,fun v H1 yy=>?_⟩
  obtain ⟨L,fp1,p,q⟩:=yy
  obtain ⟨L2,fp2,p2,q2⟩:=GU p q e2
  exact w _ _ H1 (Post.store (L1:=L2) (L2:=[]) (by rw [List.append_nil]; exact p2) hf (by rw [List.append_nil]; exact q2))
 ·cases e3
noncomputable def E8:List Nat→TGs
 | []=>VV
 | i :: is=>S8 (Gu i) (E8 is)
theorem Jy {Q:St→Hp→Prop}:∀ {is:List Nat} {as:List A} {vs:List V} {ρ1 ρ2:Ro} {σ1:St} {fp1:Nat→List Addr} {L:List Addr},Post K O fp H ρ ρ1 σ σ1 L fp1 H1→As K (NN fp1 (ad O L)) H1 vs as L→BS is as ρ1 = some ρ2 →
  (∀ σ' fp',Post K O fp H ρ ρ2 σ σ' [] fp' H1→Q σ' H1)→E8 is vs σ1 H1 Q:=by
 intro _l
 induction _l with
 | nil =>
  intro _m
  cases _m with
  | nil =>
   intro vs ρ1 ρ2 σ1 fp1 L x q e k
   cases vs with
   | cons v vs=>simp only [As] at q
   | nil =>
    simp only [BS,Option.some.injEq] at e
    subst e
    exact ⟨rfl,k σ1 fp1 x.drop0⟩
  | cons _ _ =>
   intro _ _ _ _ _ _ _ _ e _
   simp [BS] at e
 | cons i is ih =>
  intro _m
  cases _m with
  | nil =>
   intro _ _ _ _ _ _ _ _ e _
   simp [BS] at e
  | cons a as =>
   intro vs ρ1 ρ2 σ1 fp1 L x q e k
   cases vs with
   | nil=>simp only [As] at q
   | cons v vs =>
    simp only [As] at q
    obtain ⟨L1,L2,rfl,q1,q2⟩:=q
    simp only [BS] at e
    split at e
    ·rename_i hf
     refine ⟨v,vs,rfl,?_⟩
     have p:=x.store hf q1
     refine ih p (VH (fun p z=>?_) q2) e k
     rcases z with ⟨j,z⟩ | z | z
     ·rcases BG z with ⟨_,z⟩ | ⟨_,z⟩
      ·exact .inr (.inr (List.mem_append_left _ z))
      ·exact .inl ⟨j,z⟩
     ·exact .inr (.inl z)
     ·exact .inr (.inr (List.mem_append_right _ z))
    ·cases e
theorem Aw.parts {v:V} {a:A} {as:List A} (q:Aw K N H v a L) (e:Eh a = some as):∃ p vs,v = .ref p∧SqT K H p vs∧As K N H vs as L:=by
 cases a with
 | tup bs =>
  simp only [Eh,Option.some.injEq] at e
  subst e
  rw [Aw] at q
  obtain ⟨p,vs,rfl,h,hz,hs⟩:=q
  exact ⟨p,vs,rfl,.inl (.inl h),hs⟩
 | fz d =>
  cases d with
  | tup ds =>
   simp only [Eh,Option.some.injEq] at e
   subst e
   rw [Aw] at q
   obtain ⟨rfl,q⟩:=q
   cases q with
   | tup h hz hl hr=>exact ⟨_,_,rfl,.inl (.inl h),As.of (AB.mk hl hr)⟩
  | _=>simp [Eh] at e
 | _=>simp [Eh] at e
theorem IC:∀ {is:List Nat} {as:List A} {ρ1 ρ2:Ro},BS is as ρ1 = some ρ2→is.length = as.length:=by
 intro _l
 induction _l with
 | nil =>
  intro _m
  cases _m with
  | nil =>
   intro _ _ _
   exact rfl
  | cons _ _ =>
   intro _ _ e
   simp [BS] at e
 | cons i is ih =>
  intro _m
  cases _m with
  | nil =>
   intro _ _ e
   simp [BS] at e
  | cons a as =>
   intro _ _ e
   simp only [BS] at e
   split at e
   ·simp [ih e]
   ·cases e
theorem VC {is:List Nat} {m:ME} (h:tS K (K6 is m) D σ H):ND (tE K m) (TQ K is.length (E8 is)) D σ H:=by
 obtain ⟨ρ,O,fp,rl,fl,e,w⟩:=h
 simp only [K6,bind_eq_some_iff,map_eq_some_iff] at e
 obtain ⟨⟨r,ρ1⟩,e1,⟨a,ρ2⟩,e2,as,e3,ρ3,e4,e5⟩:=e
 cases e5
 refine ⟨ρ,O,fp,rl,r,ρ1,e1,fun v H1 yy=>?_⟩
 obtain ⟨L,fp1,p,q⟩:=yy
 obtain ⟨L2,fp2,p2,q2⟩:=GU p q e2
 obtain ⟨pa,vs,rfl,hS,hs⟩:=q2.parts e3
 exact ⟨pa,vs,rfl,hS,by rw [hs.len,IC e4],Jy p2 hs e4 fun σ' fp' p'=>w σ' fp' H1 p'⟩
end
noncomputable def ItR (J:It) (C:(Addr→Prop)→Hp→Prop) (ds:List D):Prop:=∀ N H,C N H→(∀ i,i < ds.length→J.go i H)∧(∀ i,ds.length≤i→J.stop i H)∧∀ i x H' d,J.yld i H x H'→ds[i]? = some d→Ek H H'∧RepA N H' x d
noncomputable def WC (H H':Hp):Prop:=∀ p xs,H p = some (.tup xs)→H' p = some (.tup xs)
noncomputable def ItP (K:Frag) (O:Addr→Prop) (fp:Nat→List Addr) (H:Hp) (ρ ρ':Ro) (σ:St) (ds:List D) (n:Option Nat) (J:It) (H':Hp):Prop:=
 ∃ r v a L fp',Post K O fp H ρ ρ' σ σ L fp' H'∧RR K (NN fp' (ad O L)) H' σ v r L∧n = nameOf r∧peek ρ' r = some a∧ItR J (fun N H=>(∃ L,Aw K N H v a L)∧WC H' H) ds
noncomputable def tI (K:Frag) (m:MI):TI:=fun σ H R=>∃ ρ O fp,Rel K ρ σ H O fp∧∃ ds n ρ',m ρ = some (ds,n,ρ')∧∀ J H',ItP K O fp H ρ ρ' σ ds n J H'→R J H'
section
variable {K:Frag} {ρ ρ' ρ1 ρ2:Ro} {σ σ' σ1 σ2:St} {H H' H1 H2:Hp} {O O' N:Addr→Prop} {fp fp' fp1 fp2:Nat→List Addr} {L L1 L2:List Addr}
theorem Es {n:Option Nat} {j:Nat}:(lock ρ n)[j]? = match ρ[j]? with
  | some (some (st,a))=>some (some (if n = some j then .ro else st,a))
  | x=>x:=by
 cases n with
 | none =>
  simp only [lock]
  split <;> simp_all
 | some i =>
  simp only [lock]
  split
  ·rename_i st a e
   by_cases h:j = i
   ·subst h
    rw [List.getElem?_set_self (Az e),e]
    simp
   ·rw [List.getElem?_set_ne (Ne.symm h)]
    split
    ·have:¬ (some i = some j):=fun z=>h (Option.some.inj z).symm
     simp [this, *]
    ·rfl
  ·rename_i hn
   by_cases h:j = i
   ·subst h
    split
    ·rename_i st a e
     exact absurd e (hn st a)
    ·rfl
   ·split
    ·have:¬ (some i = some j):=fun z=>h (Option.some.inj z).symm
     simp [this, *]
    ·rfl
theorem Rel.lock {n:Option Nat} (r:Rel K ρ σ H O fp):Rel K (J.lock ρ n) σ H O fp where
 len:=by
  rw [← r.len]
  cases n with
  | none=>rfl
  | some i=>simp only [J.lock]; split <;> simp
 slot:=fun i st a e=>by
  rw [Es] at e
  split at e
  ·rename_i st' a' e'
   simp only [Option.some.injEq,Prod.mk.injEq] at e
   obtain ⟨_,rfl⟩:=e
   exact r.slot i _ _ e'
  ·exact r.slot i _ _ e
 out:=fun i h=>r.out i fun st a e=>h (if n = some i then .ro else st) a (by rw [Es,e])
 nd:=r.nd
 inj:=r.inj
 off:=r.off
 al:=r.al
theorem Post.unlock {n:Option Nat} {a:A} (hn:∀ i,n = some i→∃ st,ρ1[i]? = some (some (st,a))) (x:Post K O fp1 H1 (J.lock ρ1 n) ρ2 σ1 σ2 L fp2 H2):Post K O fp1 H1 ρ1 (J.unlock ρ1 ρ2 n) σ1 σ2 L fp2 H2:=by
 cases n with
 | none=>exact x
 | some i =>
  obtain ⟨st,e⟩:=hn i rfl
  obtain ⟨a',e2,es,ea⟩:=x.stab i .ro a (by rw [Es,e]; simp) (by decide)
  cases ea rfl
  have eu:J.unlock ρ1 ρ2 (some i) = ρ2.set i (some (st,a)):=by simp only [J.unlock,e]
  rw [eu]
  have get:∀ j st' b,(ρ2.set i (some (st,a)))[j]? = some (some (st',b))→∃ st'',ρ2[j]? = some (some (st'',b)):=fun j st' b q=>by
   by_cases h:j = i
   ·subst h
    rw [List.getElem?_set_self (Az e2)] at q
    cases q
    exact ⟨_,e2⟩
   ·rw [List.getElem?_set_ne (Ne.symm h)] at q
    exact ⟨_,q⟩
  refine ⟨⟨by rw [List.length_set]; exact x.rel.len,fun j st' b q=>?_,fun j h=>?_,x.rel.nd,x.rel.inj,x.rel.off,x.rel.al⟩,x.nd,x.lo,x.new,x.kept,x.ln,fun j st' b q hs=>?_⟩
  ·obtain ⟨st'',q⟩:=get j st' b q
   exact x.rel.slot j _ _ q
  ·refine x.rel.out j fun st' b q=>?_
   by_cases hj:j = i
   ·subst hj
    exact h st a (List.getElem?_set_self (Az e2))
   ·exact h st' b (by rw [List.getElem?_set_ne (Ne.symm hj)]; exact q)
  ·by_cases hj:j = i
   ·subst hj
    rw [e] at q
    cases q
    exact ⟨a,List.getElem?_set_self (Az e2),es,fun _=>rfl⟩
   ·have q':(J.lock ρ1 (some i))[j]? = some (some (st',b)):=by
     rw [Es,q]
     have:¬ (some i = some j):=fun z=>hj (Option.some.inj z).symm
     simp [this]
    obtain ⟨b',q2,s2,f2⟩:=x.stab j st' b q' hs
    exact ⟨b',by rw [List.getElem?_set_ne (Ne.symm hj)]; exact q2,s2,f2⟩
noncomputable def OI (K:Frag) (is:List Nat):Bool→TG
 | true=>Gu (is.headD 0)
 | false=>TQ K is.length (E8 is)
theorem RA {is:List Nat} {one:Bool} {d:D} {x:V} {Q:St→Hp→Prop} (p:Post K O fp H ρ ρ1 σ σ1 [] fp1 H1) (q:RepA (NN fp1 O) H1 x d) (e:Eo is one d ρ1 = some ρ2) (k:∀ σ' fp',Post K O fp H ρ ρ2 σ σ' [] fp' H1→Q σ' H1) :
  OI K is one x σ1 H1 Q:=by
 have q0:RepA (NN fp1 (ad O [])) H1 x d:=EW (fun p z=>GY.mp z) q
 cases one with
 | true =>
  unfold Eo at e
  match is,e with
  | [i],e =>
   dsimp only at e
   split at e
   ·rename_i hf
    cases e
    exact k _ _ (Post.store (L1:=[]) (L2:=[]) p hf (D9 (K:=K) q0))
   ·cases e
  | [],e=>simp at e
  | _ :: _ :: _,e=>simp at e
 | false =>
  unfold Eo at e
  dsimp only at e
  cases d with
  | tup ds =>
   dsimp only at e
   cases q0 with
   | tup h hz hl hr =>
    refine ⟨_,_,rfl,.inl (.inl h),?_,Jy p (As.of (AB.mk hl hr)) e k⟩
    have:=IC e
    rw [List.length_map] at this
    rw [hl,this]
  | _=>simp at e
theorem Vk {r:R} {v:V} {a:A} {n:Option Nat} (hn:n = nameOf r) (hr:Rel K ρ1 σ H1 (ad O L) fp1) (q:RR K (NN fp1 (ad O L)) H1 σ v r L) (e:peek ρ1 r = some a) (p:Post K (ad O L) fp1 H1 (J.lock ρ1 n) ρ2 σ σ2 [] fp2 H2) :
  ∃ L',Aw K (NN fp2 (ad O L)) H2 v a L':=by
 cases r with
 | val b =>
  simp only [peek,Option.some.injEq] at e
  subst e
  refine ⟨L,Aw.tr (M:=Fp fp1) (fun p z=>.inl z) p.kept (fun x z=>?_) (fun x hx z=>?_) q⟩
  ·rcases z with z | z
   ·exact (p.new x (.inr z)).imp (fun y=>.inl y) id
   ·exact .inl (.inr z)
  ·obtain ⟨i,hi⟩:=z
   exact hr.off i x hi (.inr hx)
 | ref i =>
  subst hn
  simp only [peek] at e
  split at e
  ·rename_i st b hb
   cases e
   obtain ⟨a',e2,es,ea⟩:=p.stab i .ro a (by rw [Es,hb]; simp [nameOf]) (by decide)
   cases ea rfl
   obtain ⟨v',h1,h2⟩:=p.rel0.slot i _ _ e2
   rw [es,q.2] at h1
   cases h1
   exact ⟨_,h2⟩
  ·cases e
theorem Vy {is:List Nat} {one:Bool} {it:MI} {b:MS} {D:Ends} (h:tS K (FD is one it b) D σ H):Ws (tI K it) (OI K is one) (tS K b) D σ H:=by
 obtain ⟨ρ,O,fp,rl,fl,e,w⟩:=h
 simp only [FD,bind_eq_some_iff,map_eq_some_iff] at e
 obtain ⟨⟨ds,n,ρ1⟩,e1,f,e2,e3⟩:=e
 subst e3
 refine ⟨ρ,O,fp,rl,ds,n,ρ1,e1,fun J H1 yy=>?_⟩
 obtain ⟨r,v,a,L,fp1,p1,q1,hn,ha,hJ⟩:=yy
 have hlk:∀ i,n = some i→∃ st,ρ1[i]? = some (some (st,a)):=fun i hi=>by
  rw [hn] at hi
  cases r with
  | val b=>simp [nameOf] at hi
  | ref j =>
   simp only [nameOf,Option.some.injEq] at hi
   subst hi
   simp only [peek] at ha
   split at ha
   ·rename_i st b hb
    cases ha
    exact ⟨st,hb⟩
   ·cases ha
 have rl1:Rel K (lock ρ1 n) σ H1 (ad O L) fp1:=p1.rel.lock
 -- what is wanted of the loop's end
 have w1:Pr K (ad O L) fp1 H1 (lock ρ1 n) σ D f:=by
  have un:∀ {ρ2:Ro} {σ2:St} {L2:List Addr} {fp2:Nat→List Addr} {H2:Hp},Post K (ad O L) fp1 H1 (lock ρ1 n) ρ2 σ σ2 L2 fp2 H2→Post K O fp H ρ (unlock ρ1 ρ2 n) σ σ2 L2 fp2 H2:=fun y=>(p1.then (y.unlock hlk)).drop
  cases f with
  | next ρ2=>exact fun σ' fp' H' p=>w σ' fp' H' (un p)
  | brk ρ2=>exact fun σ' fp' H' p=>w σ' fp' H' (un p)
  | cnt ρ2=>exact fun σ' fp' H' p=>w σ' fp' H' (un p)
  | ret b ρ2=>exact fun σ' v L2 fp' H' p q=>w σ' v L2 fp' H' (un p) (Dw (fun x z=>by
    rcases z with z | z | z
    ·exact .inl z
    ·exact .inr (.inl (.inl z))
    ·exact .inr (.inr z)) q)
 refine ⟨fun i m σ' H'=>m = ds.length - i∧i≤ds.length∧∃ ρ' fp',Post K (ad O L) fp1 H1 (lock ρ1 n) ρ' σ σ' [] fp' H'∧forL is one b (ds.drop i) ρ' = some f,⟨ds.length,by simp,Nat.zero_le _,lock ρ1 n,fp1,rl1.post,by simpa using e2⟩,?_⟩
 rintro i m σ2 H2 ⟨rfl,hi,ρ2,fp2,p2,e2⟩
 obtain ⟨L',src⟩:=Vk hn p1.rel q1 ha p2
 obtain ⟨go,stop,yld⟩:=hJ _ _ ⟨⟨L',src⟩,fun _ _ h=>p2.kept _ _ h (.inr rfl)⟩
 by_cases hlt:i < ds.length
 ·refine .inr ⟨go i hlt,_,fun σ' H' z=>⟨ds.length - (i + 1),by omega,rfl,hlt,z⟩,fun x H3 y=>?_⟩
  have hd:ds[i]? = some ds[i]:=by simp [hlt]
  obtain ⟨sm,qx⟩:=yld i x H3 _ y hd
  rw [List.drop_eq_getElem_cons hlt] at e2
  simp only [forL,bind_eq_some_iff] at e2
  obtain ⟨ρ3,e3,g,e4,e5⟩:=e2
  have p3:Post K (ad O L) fp1 H1 (lock ρ1 n) ρ2 σ σ2 [] fp2 H3:=p2.more sm List.nodup_nil (fun p hp=>by simp at hp)
  refine RA p3 qx e3 fun σ4 fp4 p4=>?_
  refine ⟨ρ3,ad O L,fp4,p4.rel0,g,e4,?_⟩
  cases g with
  | next ρ5=>exact fun σ' fp' H' p=>⟨ρ5,fp',p4.next p,e5⟩
  | cnt ρ5=>exact fun σ' fp' H' p=>⟨ρ5,fp',p4.next p,e5⟩
  | brk ρ5 =>
   cases e5
   exact fun σ' fp' H' p=>w1 σ' fp' H' (p4.next p)
  | ret c ρ5 =>
   cases e5
   exact fun σ' v L fp' H' p q=>w1 σ' v L fp' H' (p4.next p) q
 ·have:i = ds.length:=by omega
  subst this
  simp only [List.drop_length,forL,Option.some.injEq] at e2
  subst e2
  exact .inl ⟨stop _ (Nat.le_refl _),w1 _ _ _ p2⟩
theorem Gw {v:V} {a:A} {ds:List D} (q:Aw K N H v a L) (e:Bh a = some ds):∃ p vs,v = .ref p∧(SqL K H p vs∨SqT K H p vs)∧AB N H vs ds:=by
 cases a with
 | fz d =>
  rw [Aw] at q
  obtain ⟨rfl,q⟩:=q
  cases d with
  | lst es =>
   simp only [Bh,Option.some.injEq] at e
   subst e
   cases q with
   | lst h hz hn hl hr=>exact ⟨_,_,rfl,.inl (.inl (.inl h)),AB.mk hl hr⟩
  | tup es =>
   simp only [Bh,Option.some.injEq] at e
   subst e
   cases q with
   | tup h hz hl hr=>exact ⟨_,_,rfl,.inr (.inl (.inl h)),AB.mk hl hr⟩
  | _=>simp [Bh] at e
 | lst as =>
  simp only [Bh] at e
  rw [Aw] at q
  obtain ⟨p,vs,L',rfl,rfl,h,hz,hs⟩:=q
  exact ⟨p,vs,rfl,.inl (.inl (.inl h)),(hs.fzs e).2⟩
 | scr ns =>
  simp only [Bh,Option.some.injEq] at e
  subst e
  rw [Aw] at q
  obtain ⟨p,rfl,rfl,h,hz⟩:=q
  refine ⟨p,_,rfl,.inl (h H fun _ _ z=>z),AB.mk (by simp) fun i v d e1 e2=>?_⟩
  rw [List.getElem?_map] at e1 e2
  cases q:ns[i]? with
  | none=>rw [q] at e1; cases e1
  | some k =>
   rw [q] at e1 e2
   cases e1; cases e2
   exact .int k
 | _=>simp [Bh] at e
noncomputable def P7:A→Bool
 | .fz (.tup _)=>true
 | _=>false
theorem FX {v:V} {a:A} {ds:List D} (q:Aw K N H v a L) (e:Bh a = some ds):∃ p vs,v = .ref p∧(if P7 a then SqT K H p vs else SqL K H p vs)∧AB N H vs ds:=by
 cases a with
 | fz d =>
  rw [Aw] at q
  obtain ⟨rfl,q⟩:=q
  cases d with
  | lst es =>
   simp only [Bh,Option.some.injEq] at e
   subst e
   cases q with
   | lst h hz hn hl hr=>exact ⟨_,_,rfl,.inl (.inl h),AB.mk hl hr⟩
  | tup es =>
   simp only [Bh,Option.some.injEq] at e
   subst e
   cases q with
   | tup h hz hl hr=>exact ⟨_,_,rfl,.inl (.inl h),AB.mk hl hr⟩
  | _=>simp [Bh] at e
 | lst as =>
  simp only [Bh] at e
  rw [Aw] at q
  obtain ⟨p,vs,L',rfl,rfl,h,hz,hs⟩:=q
  exact ⟨p,vs,rfl,.inl (.inl h),(hs.fzs e).2⟩
 | scr ns =>
  obtain ⟨p,vs,e1,e2,e3⟩:=Gw q e
  rw [Aw] at q
  obtain ⟨p',rfl,rfl,h,hz⟩:=q
  cases e1
  refine ⟨p,_,rfl,h H fun _ _ z=>z,?_⟩
  simp only [Bh,Option.some.injEq] at e
  subst e
  refine AB.mk (by simp) fun i v d e1 e2=>?_
  rw [List.getElem?_map] at e1 e2
  cases q:ns[i]? with
  | none=>rw [q] at e1; cases e1
  | some k =>
   rw [q] at e1 e2
   cases e1; cases e2
   exact .int k
 | _=>simp [Bh] at e
noncomputable def V0 (K:Frag) (tl:TE):TI:=fun σ H R=>tl σ H fun x H1=>∃ a,x = .ref a∧(((∃ xs,SqL K H1 a xs)∧R (Itl K a) H1)∨((∃ xs,SqT K H1 a xs)∧R (Itt K a) H1))
theorem TB {vs:List V} {ds:List D} (q:AB N H vs ds) {i:Nat} (h:i < ds.length):∃ x,vs[i]? = some x:=⟨vs[i]'(by rw [q.len]; exact h),by simp⟩
theorem Vr {m:ME} {R:It→Hp→Prop} (h:tI K (Dr m) σ H R):V0 K (tE K m) σ H R:=by
 obtain ⟨ρ,O,fp,rl,ds,n,ρ',e,k⟩:=h
 simp only [Dr,bind_eq_some_iff,map_eq_some_iff] at e
 obtain ⟨⟨r,ρ1⟩,e1,a,e2,ds',e3,e4⟩:=e
 cases e4
 refine ⟨ρ,O,fp,rl,r,ρ1,e1,fun v H1 yy=>?_⟩
 obtain ⟨L,fp1,p,q⟩:=yy
 obtain ⟨L',q'⟩:=p.rel.peek q e2
 obtain ⟨pa,vs,rfl,hk,_⟩:=FX q' e3
 refine ⟨pa,rfl,?_⟩
 cases hT:P7 a with
 | false =>
  rw [hT] at hk
  refine .inl ⟨⟨vs,hk⟩,k _ _ ⟨r,.ref pa,a,L,fp1,p,q,rfl,e2,fun N H2 yy=>?_⟩⟩
  obtain ⟨⟨L2,q2⟩,_⟩:=yy
  obtain ⟨pb,ws,e5,hk2,hd⟩:=FX q2 e3
  cases e5
  rw [hT] at hk2
  have hk2:SqL K H2 pa ws:=hk2
  refine ⟨fun i hi=>?_,fun i hi=>⟨ws,hk2,by rw [hd.len]; exact hi⟩,fun i x H' d y e=>?_⟩
  ·obtain ⟨x,hx⟩:=TB hd hi
   exact ⟨ws,x,hk2,hx⟩
  ·obtain ⟨rfl,y⟩:=y
   exact ⟨fun _ _ z=>z,hd.get i x d (y ws hk2) e⟩
 | true =>
  rw [hT] at hk
  refine .inr ⟨⟨vs,hk⟩,k _ _ ⟨r,.ref pa,a,L,fp1,p,q,rfl,e2,fun N H2 yy=>?_⟩⟩
  obtain ⟨⟨L2,q2⟩,_⟩:=yy
  obtain ⟨pb,ws,e5,hk2,hd⟩:=FX q2 e3
  cases e5
  rw [hT] at hk2
  have hk2:SqT K H2 pa ws:=hk2
  refine ⟨fun i hi=>?_,fun i hi=>⟨ws,hk2,by rw [hd.len]; exact hi⟩,fun i x H' d y e=>?_⟩
  ·obtain ⟨x,hx⟩:=TB hd hi
   exact ⟨ws,x,hk2,hx⟩
  ·obtain ⟨rfl,y⟩:=y
   exact ⟨fun _ _ z=>z,hd.get i x d (y ws hk2) e⟩
end
noncomputable def WB (K:Frag):Nat→TU
 | 0=>Rm
 | n + 1=>fun v H vs=>∃ a,v = .ref a∧SqT K H a vs∧vs.length = n + 1
noncomputable def sh (n:Nat) (fp:Nat→List Addr):Nat→List Addr:=fun j=>if j < n then [] else fp (j - n)
section
variable {K:Frag} {ρ ρ' ρ1 ρ2:Ro} {σ σ' σ1 σ2:St} {H H' H1 H2:Hp} {O O' N:Addr→Prop} {fp fp' fp1 fp2:Nat→List Addr} {L L1:List Addr}
theorem N0 {n:Nat} {p:Addr}:Fp (sh n fp) p↔Fp fp p:=by
 constructor
 ·rintro ⟨j,h⟩
  unfold sh at h
  split at h
  ·simp at h
  ·exact ⟨_,h⟩
 ·rintro ⟨j,h⟩
  refine ⟨j + n,?_⟩
  unfold sh
  rw [if_neg (by lia),Nat.add_sub_cancel]
  exact h
theorem Qw {n:Nat} {p:Addr}:NN (sh n fp) O p↔NN fp O p:=or_congr N0 Iff.rfl
theorem Rel.block {vs:List V} {bs:List D} (r:Rel K ρ σ H O fp) (q:AB (NN fp O) H vs bs):Rel K (bs.map own ++ ρ) (vs.map some ++ σ) H O (sh bs.length fp) where
 len:=by simp [r.len,q.len]
 slot:=fun i st a e=>by
  by_cases hi:i < bs.length
  ·rw [List.getElem?_append_left (by simpa using hi),List.getElem?_map] at e
   have hb:bs[i]? = some bs[i]:=by simp [hi]
   rw [hb] at e
   simp only [Option.map_some,own,Option.some.injEq,Prod.mk.injEq] at e
   obtain ⟨rfl,rfl⟩:=e
   have hv:vs[i]? = some (vs[i]'(by rw [q.len]; exact hi)):=by simp
   refine ⟨_,by rw [List.getElem?_append_left (by simpa [q.len] using hi),List.getElem?_map,hv]; rfl,?_⟩
   simp only [sh,hi,if_true]
   exact D9 (EW (fun p z=>Qw.mp z) (q.get i _ _ hv hb))
  ·rw [List.getElem?_append_right (by simpa using hi),List.length_map] at e
   obtain ⟨v,e1,q1⟩:=r.slot _ _ _ e
   refine ⟨v,by rw [List.getElem?_append_right (by simpa [q.len] using hi),List.length_map,q.len]; exact e1,?_⟩
   simp only [sh,hi,if_false]
   exact Dw (fun p z=>Qw.mp z) q1
 out:=fun i h=>by
  unfold sh
  split
  ·rfl
  ·rename_i hi
   exact r.out _ fun st a e=>h st a (by rw [List.getElem?_append_right (by simpa using hi),List.length_map]; exact e)
 nd:=fun i=>by
  unfold sh
  split
  ·exact List.nodup_nil
  ·exact r.nd _
 inj:=fun i j p h1 h2=>by
  unfold sh at h1 h2
  split at h1
  ·simp at h1
  ·split at h2
   ·simp at h2
   ·have:=r.inj _ _ p h1 h2
    lia
 off:=fun i p h=>by
  unfold sh at h
  split at h
  ·simp at h
  ·exact r.off _ p h
 al:=fun p z=>r.al p (Qw.mp z)
theorem Post.unblock {vs:List V} {bs:List D} (hl:vs.length = bs.length) (x:Post K O (sh bs.length fp) H (bs.map own ++ ρ) ρ2 (vs.map some ++ σ) (vs.map some ++ σ) L fp2 H2):Post K O fp H ρ (ρ2.drop bs.length) σ σ L (fun j=>fp2 (j + bs.length)) H2 where
 rel:=by
  have nn:∀ p,NN (fun j=>fp2 (j + bs.length)) (ad O L) p→NN fp2 (ad O L) p:=fun p z=>z.imp (fun ⟨j,h⟩=>⟨_,h⟩) id
  have hlen:=x.rel.len
  rw [List.length_append,List.length_map,hl] at hlen
  refine ⟨by rw [List.length_drop,hlen]; lia,fun i st a e=>?_,fun i h=>?_,fun i=>x.rel.nd _,fun i j p h1 h2=>?_,fun i p h=>x.rel.off _ p h,fun p z=>x.rel.al p (nn p z)⟩
  ·rw [List.getElem?_drop] at e
   obtain ⟨v,e1,q⟩:=x.rel.slot _ _ _ e
   refine ⟨v,?_,Dw nn (by rw [Nat.add_comm]; exact q)⟩
   rw [List.getElem?_append_right (by rw [List.length_map]; lia),List.length_map] at e1
   rw [← e1]
   congr 1
   lia
  ·exact x.rel.out _ fun st a e=>h st a (by rw [List.getElem?_drop,Nat.add_comm]; exact e)
  ·have:=x.rel.inj _ _ p h1 h2
   lia
 nd:=x.nd
 lo:=x.lo
 new:=fun p hp=>(x.new p (hp.imp id fun ⟨j,h⟩=>⟨_,h⟩)).imp N0.mp id
 kept:=x.kept.mono fun p z=>N0.mp z
 ln:=rfl
 stab:=fun j st a h n=>by
  have e:(bs.map own ++ ρ)[j + bs.length]? = some (some (st,a)):=by rw [List.getElem?_append_right (by simp),List.length_map,Nat.add_sub_cancel]; exact h
  obtain ⟨a',e1,_,f⟩:=x.stab _ _ _ e n
  exact ⟨a',by rw [List.getElem?_drop,Nat.add_comm]; exact e1,rfl,f⟩
theorem Post.updT {p:Addr} {o:HO} {ys:List V} (x:Post K O fp H ρ ρ1 σ σ1 L fp1 H1) (hp:p∈L) (hn:H p = none) (hy:H1 p = some (.lst ys)):Post K O fp H ρ ρ1 σ σ1 L fp1 (upd H1 p o):=by
 have off:∀ i,p ∉ fp1 i:=fun i z=>x.rel.off i p z (.inr hp)
 have alp:∀ q,H1 q≠none→upd H1 p o q≠none:=fun q z=>by
  by_cases e:q = p
  ·subst e; rw [AQ]; simp
  ·rw [Ax e]; exact z
 have k:Kept (fun q=>q = p) H1 (upd H1 p o):=fun b u e c=>by
  by_cases hb:b = p
  ·subst hb
   rcases c with c | c
   ·exact absurd rfl c
   ·rw [hy] at e; cases e; cases c
  ·rw [Ax hb]; exact e
 refine ⟨⟨x.rel.len,fun i st a e=>?_,x.rel.out,x.rel.nd,x.rel.inj,x.rel.off,fun q z=>alp q (x.rel.al q z)⟩,x.nd,x.lo,x.new,fun b u e c=>?_,x.ln,x.stab⟩
 ·obtain ⟨v,e1,q⟩:=x.rel.slot i st a e
  exact ⟨v,e1,q.tr (M:=fun q=>q = p) (fun b z=>by rw [z]; exact .inr (.inr hp)) k (fun b z=>.inl z) fun b hb z=>off i (z ▸ hb)⟩
 ·have hb:b≠p:=fun z=>by rw [z,hn] at e; cases e
  rw [Ax hb]
  exact x.kept b u e c
theorem EB {p:Addr} {o:HO} {ys:List V} (hy:H p = some (.lst ys)):Kept (fun q=>q = p) H (upd H p o):=fun b u e c=>by
 by_cases hb:b = p
 ·subst hb
  rcases c with c | c
  ·exact absurd rfl c
  ·rw [hy] at e; cases e; cases c
 ·rw [Ax hb]; exact e
theorem Post.ds {vs:List V} {ds:List D} (x:Post K O fp H ρ ρ1 σ σ1 L fp1 H1) (q:AB (NN fp O) H vs ds):AB (NN fp1 (ad O L)) H1 vs ds:=
 q.tr (M:=Fp fp) (fun p z=>.inl z) x.kept fun p z=>by
  rcases z with z | z | z
  ·exact (x.new p (.inr z)).imp (fun y=>.inl y) id
  ·exact .inl (.inr z)
  ·exact (x.new p (.inl z)).imp (fun y=>.inl y) id
theorem Hb:∀ {vs ws:List V} {ds es:List D},AB N H vs ds→AB N H ws es→AB N H (vs ++ ws) (ds ++ es)
 | [],_,[],_,_,q=>q
 | [],_,_ :: _,_,r,_=>by simp only [AB] at r
 | _ :: _,_,[],_,r,_=>by simp only [AB] at r
 | v :: vs,ws,d :: ds,es,r,q=>⟨r.1,Hb r.2 q⟩
theorem Se {n:Nat} {d:D} {bs:List D} {x:V} (q:RepA N H x d) (e:Nj n d = some bs):∃ vs,WB K n x H vs∧AB N H vs bs:=by
 cases n with
 | zero =>
  simp only [Nj,Option.some.injEq] at e
  subst e
  exact ⟨[x],rfl,q,trivial⟩
 | succ n =>
  simp only [Nj] at e
  cases d with
  | tup ds =>
   dsimp only at e
   split at e
   ·rename_i hl
    cases e
    cases q with
    | tup h hz hl' hr=>exact ⟨_,⟨_,rfl,.inl (.inl h),by rw [hl']; exact hl⟩,AB.mk hl' hr⟩
   ·cases e
  | _=>simp at e
theorem SQ {r:R} {v:V} {a:A} {n:Option Nat} {Lt:List Addr} (hn:n = nameOf r) (hr:Rel K ρ1 σ H1 (ad O L) fp1) (q:RR K (NN fp1 (ad O L)) H1 σ v r L) (e:peek ρ1 r = some a) (p:Post K (ad O L) fp1 H1 (J.lock ρ1 n) ρ2 σ σ2 Lt fp2 H2) :
  ∃ L',Aw K (NN fp2 (ad (ad O L) Lt)) H2 v a L':=by
 cases r with
 | val b =>
  simp only [peek,Option.some.injEq] at e
  subst e
  refine ⟨L,Aw.tr (M:=Fp fp1) (fun p z=>.inl z) p.kept (fun x z=>?_) (fun x hx z=>?_) q⟩
  ·rcases z with z | z | z
   ·exact (p.new x (.inr z)).imp (fun y=>.inl y) id
   ·exact .inl (.inr z)
   ·exact (p.new x (.inl z)).imp (fun y=>.inl y) id
  ·obtain ⟨i,hi⟩:=z
   exact hr.off i x hi (.inr hx)
 | ref i =>
  subst hn
  simp only [peek] at e
  split at e
  ·rename_i st b hb
   cases e
   obtain ⟨a',e2,es,ea⟩:=p.stab i .ro a (by rw [Es,hb]; simp [nameOf]) (by decide)
   cases ea rfl
   obtain ⟨v',h1,h2⟩:=p.rel.slot i _ _ e2
   rw [es,q.2] at h1
   cases h1
   exact ⟨_,h2⟩
  ·cases e
theorem KY {it:MI} {pat:Nat} {c:MT} {e:ME} {Q:VK} (h:tE K (Bf it pat c e) σ H Q):tLc (tI K it) (WB K pat) (tT K c) (tE K e) σ H Q:=by
 obtain ⟨ρ,O,fp,rl,x,ρ',h0,k⟩:=h
 simp only [Bf,bind_eq_some_iff] at h0
 obtain ⟨⟨ds,n,ρ1⟩,e1,h0⟩:=h0
 split at h0
 case isFalse=>cases h0
 rename_i hz
 simp only [map_eq_some_iff] at h0
 obtain ⟨⟨es,ρf⟩,e2,e3⟩:=h0
 cases e3
 refine ⟨ρ,O,fp,rl,ds,n,ρ1,e1,fun J H1 yy acc hacc=>?_⟩
 obtain ⟨r,v,a,L,fp1,p1,q1,hn,ha,hJ⟩:=yy
 have hlk:∀ i,n = some i→∃ st,ρ1[i]? = some (some (st,a)):=fun i hi=>by
  rw [hn] at hi
  cases r with
  | val b=>simp [nameOf] at hi
  | ref j =>
   simp only [nameOf,Option.some.injEq] at hi
   subst hi
   simp only [peek] at ha
   split at ha
   ·rename_i st b hb
    cases ha
    exact ⟨st,hb⟩
   ·cases ha
 have rl1:Rel K (lock ρ1 n) σ H1 (ad O L) fp1:=p1.rel.lock
 have st0:Post K (ad O L) fp1 H1 (lock ρ1 n) (lock ρ1 n) σ σ [acc] fp1 (upd H1 acc (.lst [])):=rl1.post.more (DF hacc) (by simp) fun p hp=>by
  have:p = acc:=by simpa using hp
  subst this
  exact .inr ⟨hacc,by rw [AQ]; simp⟩
 refine ⟨fun i m ys H'=>m = ds.length - i∧i≤ds.length∧H' acc = some (.lst ys)∧ys.length≤i∧∃ ρ' fp' done rest,Post K (ad O L) fp1 H1 (lock ρ1 n) ρ' σ σ [acc] fp' H'∧AB (NN fp' (ad (ad O L) [acc])) H' ys done∧E5 pat c e (ds.drop i) ρ' = some (rest,ρf)∧es = done ++ rest,
  ⟨ds.length,by simp,Nat.zero_le _,AQ,by simp,lock ρ1 n,fp1,[],es,st0,trivial,by simpa using e2,rfl⟩,?_⟩
 rintro i m ys H2 ⟨rfl,hi,hy,hyl,ρ2,fp2,done,rest,p2,qd,e2,ees⟩
 refine ⟨hy,?_⟩
 obtain ⟨L',src⟩:=SQ hn p1.rel q1 ha p2
 have offacc:∀ j,acc ∉ fp2 j:=fun j z=>p2.rel.off j acc z (.inr (by simp))
 by_cases hlt:i < ds.length
 ·obtain ⟨go,stop,yld⟩:=hJ _ _ ⟨⟨L',src⟩,fun _ _ h=>p2.kept _ _ h (.inr rfl)⟩
  refine .inr ⟨go i hlt,fun x H3 y=>?_⟩
  have hd:ds[i]? = some ds[i]:=by simp [hlt]
  obtain ⟨sm,qx0⟩:=yld i x H3 _ y hd
  have qx:RepA (NN fp2 (ad (ad O L) [acc])) H3 x ds[i]:=qx0
  have p3:Post K (ad O L) fp1 H1 (lock ρ1 n) ρ2 σ σ [acc] fp2 H3:=p2.more sm p2.nd fun p hp=>.inl hp
  have hy3:H3 acc = some (.lst ys):=sm _ _ hy
  have qd3:AB (NN fp2 (ad (ad O L) [acc])) H3 ys done:=qd.tr (M:=fun _=>False) (fun _ z=>z.elim) (Ek.kept sm) fun p z=>.inl z
  rw [List.drop_eq_getElem_cons hlt] at e2
  simp only [E5,bind_eq_some_iff] at e2
  obtain ⟨bs,eb,⟨b,ρ3⟩,ec,e4⟩:=e2
  obtain ⟨vs,hu,hvs⟩:=Se (K:=K) qx eb
  have rb:=p3.rel.block hvs
  refine ⟨vs,hu,_,_,_,rb,b,ρ3,ec,fun fp4 H4 p4=>?_⟩
  have keep:∀ {ρ5:Ro} {fp5:Nat→List Addr} {H5:Hp},Post K (ad (ad O L) [acc]) (sh bs.length fp2) H3 (bs.map own ++ ρ2) ρ5 (vs.map some ++ σ) (vs.map some ++ σ) [] fp5 H5 →
    H5 acc = some (.lst ys)∧Post K (ad O L) fp1 H1 (lock ρ1 n) (ρ5.drop bs.length) σ σ [acc] (fun j=>fp5 (j + bs.length)) H5∧AB (NN (fun j=>fp5 (j + bs.length)) (ad (ad O L) [acc])) H5 ys done:=fun {ρ5 fp5 H5} p5=>by
   have u:=p5.unblock hvs.len
   refine ⟨p5.kept _ _ hy3 (.inl fun z=>?_),p3.then u,IK (fun p z=>GY.mpr z) (u.ds qd3)⟩
   obtain ⟨j,z⟩:=N0.mp z
   exact offacc j z
  cases b with
  | false =>
   simp only [Bool.false_eq_true,if_false] at e4
   dsimp only
   rw [if_neg Bool.false_ne_true]
   obtain ⟨h1,h2,h3⟩:=keep p4
   exact ⟨ds.length - (i + 1),by lia,rfl,hlt,h1,by lia,_,_,done,rest,h2,h3,e4,ees⟩
  | true =>
   simp only [if_true,bind_eq_some_iff,map_eq_some_iff] at e4
   obtain ⟨⟨r5,ρ5⟩,e5,⟨d6,ρ6⟩,e6,⟨rest',ρ7⟩,e7,e8⟩:=e4
   cases e8
   dsimp only
   rw [if_pos rfl]
   refine ⟨ρ3,_,fp4,p4.rel0,r5,ρ5,e5,fun y H5 yy=>?_⟩
   obtain ⟨L5,fp5,p5,q5⟩:=yy
   obtain ⟨fp6,p6,q6⟩:=ET p5 q5 e6
   obtain ⟨h1,h2,h3⟩:=keep (p4.next p6)
   have hacc1:H1 acc = none:=hacc
   refine ⟨h1,Nat.lt_of_lt_of_le (Nat.lt_of_le_of_lt hyl hlt) hz,ds.length - (i + 1),by lia,rfl,hlt,AQ,by simp; lia,_,_,done ++ [d6],rest',h2.updT (by simp) hacc1 h1,?_,e7,by rw [ees]; simp⟩
   have tr:∀ {ws:List V} {fs:List D},AB (NN (fun j=>fp6 (j + bs.length)) (ad (ad O L) [acc])) H5 ws fs→AB (NN (fun j=>fp6 (j + bs.length)) (ad (ad O L) [acc])) (upd H5 acc (.lst (ys ++ [y]))) ws fs:=fun q =>
    q.tr (M:=fun q=>q = acc) (fun b z=>by rw [z]; exact .inr (.inr (by simp))) (EB h1) fun p z=>.inl z
   refine tr (Hb h3 ⟨EW (fun p z=>?_) q6,trivial⟩)
   exact GY.mpr (z.imp (fun ⟨j,q⟩=>⟨_,q⟩) id)
 ·have:i = ds.length:=by lia
  subst this
  obtain ⟨go,stop,yld⟩:=hJ _ _ ⟨⟨L',src⟩,fun _ _ h=>p2.kept _ _ h (.inr rfl)⟩
  simp only [List.drop_length,E5,Option.some.injEq,Prod.mk.injEq] at e2
  obtain ⟨rfl,rfl⟩:=e2
  refine .inl ⟨stop _ (Nat.le_refl _),k _ _ ?_⟩
  have p3:=(p1.then (p2.unlock hlk)).drop
  refine ⟨[acc],fp2,p3,?_⟩
  show Aw _ _ _ _ _ _
  rw [Aw]
  rw [List.append_nil] at ees
  subst ees
  refine ⟨acc,ys,[],rfl,rfl,hy,Nat.le_trans hyl hz,As.of (IK (fun p z=>?_) qd)⟩
  rcases z with z | z | z
  ·exact .inl z
  ·exact .inr (.inl (.inl z))
  ·exact .inr (.inr z)
end
noncomputable def EO:List (Own × A)→List A→Ro
 | (st,_) :: args,a :: as=>(if st = .own then none else some (st,a)) :: EO args as
 | [],_=>[]
 | _ :: _,[]=>[]
noncomputable def VI (K:Frag) (O:Addr→Prop) (fp:Nat→List Addr) (H:Hp) (args:List (Own × A)) (as':List A) (vs:List V) (a:A) (v:V) (H':Hp):Prop:=
 ∃ L fp',Post K O fp H (args.map some) (EO args as') (vs.map some) (vs.map some) L fp' H'∧Aw K (NN fp' (ad O L)) H' v a L
noncomputable def spJ (K:Frag) (Φ:Fn) (np:Nat):Sp:=fun vs H Q _=>∃ args O fp,vs.length = np∧Rel K (args.map some) (vs.map some) H O fp∧∃ a as',Φ args = some (a,as')∧∀ v H',VI K O fp H args as' vs a v H'→Q v H'
theorem Ik:∀ {args:List (Own × A)} {as:List A} {j:Nat} {st:Own} {a:A},(EO args as)[j]? = some (some (st,a))→∃ a0,args[j]? = some (st,a0)∧st ≠ .own∧as[j]? = some a
 | [],_,j,st,a,h=>by simp [EO] at h
 | _ :: _,[],j,st,a,h=>by simp [EO] at h
 | (st0,a0) :: args,b :: as,0,st,a,h=>by
  simp only [EO,List.getElem?_cons_zero,Option.some.injEq] at h
  split at h
  ·cases h
  ·rename_i hs
   cases h
   exact ⟨a0,rfl,hs,rfl⟩
 | (st0,a0) :: args,b :: as,j + 1,st,a,h=>by
  simp only [EO,List.getElem?_cons_succ] at h
  obtain ⟨a1,h1,h2,h3⟩:=Ik h
  exact ⟨a1,by simpa using h1,h2,by simpa using h3⟩
theorem HY:∀ {args:List (Own × A)} {as:List A} {j:Nat} {st:Own} {a0 a:A},args[j]? = some (st,a0)→st ≠ .own→as[j]? = some a→(EO args as)[j]? = some (some (st,a))
 | [],_,j,st,a0,a,h,_,_=>by simp at h
 | _ :: _,[],j,st,a0,a,_,_,h=>by simp at h
 | (st0,b0) :: args,b :: as,0,st,a0,a,h,hs,h2=>by
  simp at h h2
  obtain ⟨rfl,rfl⟩:=h
  subst h2
  simp [EO,hs]
 | (st0,b0) :: args,b :: as,j + 1,st,a0,a,h,hs,h2=>by
  simp only [EO,List.getElem?_cons_succ]
  exact HY (by simpa using h) hs (by simpa using h2)
theorem Il:∀ {args:List (Own × A)} {as:List A},(EO args as).length = min args.length as.length
 | [],_=>by simp [EO]
 | _ :: _,[]=>by simp [EO]
 | (st,_) :: args,a :: as=>by simp [EO,Il]
section
variable {K:Frag} {ρ ρ' ρ1 ρ2:Ro} {σ σ' σ1 σ2:St} {H H' H1 H2:Hp} {O O' N:Addr→Prop} {fp fp' fp1 fp2:Nat→List Addr} {L L1:List Addr}
theorem L6 {args:List (Own × A)} {vs:List V} {n:Nat} (hl:vs.length = args.length) (x:Post K O fp H (args.map some ++ List.replicate n none) ρ' (vs.map some ++ List.replicate n none) σ' L fp' H') :
  ∃ fp2,Post K O fp H (args.map some) (EO args ((ρ'.take args.length).map GD)) (vs.map some) (vs.map some) L fp2 H'∧∀ p,NN fp2 (ad O L) p→NN fp' (ad O L) p:=by
 have hlen:args.length ≤ ρ'.length:=by
  have:=x.rel.len
  have:=x.ln
  simp at this
  lia
 have a0:∀ {j:Nat} {st:Own} {a:A},args[j]? = some (st,a)→(args.map some ++ List.replicate n (none:Slot))[j]? = some (some (st,a)):=fun {j st a} e=>by
  rw [List.getElem?_append_left (by simpa using Az e),List.getElem?_map,e]; rfl
 have v0:∀ {j:Nat},j < args.length→(vs.map some ++ List.replicate n (none:Option V))[j]? = (vs.map some)[j]?:=fun {j} h=>by
  rw [List.getElem?_append_left (by rw [List.length_map,hl]; exact h)]
 -- where a lent name stands
 have key:∀ {j:Nat} {st:Own} {a:A},args[j]? = some (st,a)→st ≠ .own→∃ a',ρ'[j]? = some (some (st,a')) ∧ σ'[j]? = (vs.map some)[j]? ∧ (st = .ro→a' = a)∧((ρ'.take args.length).map GD)[j]? = some a':=fun {j st a} e h=>by
  obtain ⟨a',e1,e2,e3⟩:=x.stab j st a (a0 e) h
  refine ⟨a',e1,by rw [e2,v0 (Az e)],e3,?_⟩
  rw [List.getElem?_map,List.getElem?_take_of_lt (Az e),e1]
  rfl
 let fp2:Nat→List Addr:=fun j=>match (EO args ((ρ'.take args.length).map GD))[j]? with
  | some (some _)=>fp' j
  | _=>[]
 have sub:∀ j p,p∈fp2 j→p∈fp' j∧∃ st a,(EO args ((ρ'.take args.length).map GD))[j]? = some (some (st,a)):=fun j p h=>by
  simp only [fp2] at h
  split at h
  ·rename_i y e
   exact ⟨h,y.1,y.2,e⟩
  ·simp at h
 have nn:∀ p,NN fp2 (ad O L) p→NN fp' (ad O L) p:=fun p z=>z.imp (fun ⟨j,q⟩=>⟨j,(sub j p q).1⟩) id
 refine ⟨fp2,⟨⟨?_,fun j st a e=>?_,fun j h=>?_,fun j=>?_,fun i j p h1 h2=>x.rel.inj i j p (sub i p h1).1 (sub j p h2).1,fun j p h=>x.rel.off j p (sub j p h).1,fun p z=>x.rel.al p (nn p z)⟩,x.nd,x.lo,fun p hp=>x.new p (hp.imp id fun ⟨j,q⟩=>⟨j,(sub j p q).1⟩),x.kept,rfl,fun j st a e h=>?_⟩,nn⟩
 ·rw [Il]; simp [hl]; lia
 ·obtain ⟨a0,e1,e2,e3⟩:=Ik e
  obtain ⟨a',e4,e5,_,e6⟩:=key e1 e2
  rw [e3] at e6; cases e6
  obtain ⟨v,e7,q⟩:=x.rel.slot j st a e4
  refine ⟨v,by rw [← e5]; exact e7,?_⟩
  have:fp2 j = fp' j:=by simp only [fp2,e]
  rw [this]
  exact Dw nn q
 ·simp only [fp2]
  split
  ·rename_i y e
   exact absurd e (h y.1 y.2)
  ·rfl
 ·simp only [fp2]
  split
  ·exact x.rel.nd j
  ·exact List.nodup_nil
 ·rw [List.getElem?_map] at e
  cases q:args[j]? with
  | none=>rw [q] at e; cases e
  | some y =>
   rw [q] at e
   cases e
   obtain ⟨a',e4,e5,e6,e7⟩:=key q h
   exact ⟨a',HY q h e7,rfl,e6⟩
theorem Rel.start {args:List (Own × A)} {vs:List V} (r:Rel K (args.map some) (vs.map some) H O fp) (n:Nat):Rel K (args.map some ++ List.replicate n none) (vs.map some ++ List.replicate n none) H O fp where
 len:=by have:=r.len; simp at this ⊢; exact this
 slot:=fun i st a e=>by
  by_cases hi:i < args.length
  ·rw [List.getElem?_append_left (by simpa using hi)] at e
   obtain ⟨v,e1,q⟩:=r.slot i st a e
   exact ⟨v,by rw [List.getElem?_append_left (by simpa using Az e1)]; exact e1,q⟩
  ·rw [List.getElem?_append_right (by simpa using hi),List.getElem?_replicate] at e
   split at e <;> cases e
 out:=fun i h=>r.out i fun st a e=>h st a (by rw [List.getElem?_append_left (by simpa using Az e)]; exact e)
 nd:=r.nd
 inj:=r.inj
 off:=r.off
 al:=r.al
theorem JK {np nn:Nat} {b:MS} {vs:List V} {Q:VK} {E:XK} (h:spJ K (fnM np nn b) np vs H Q E):tS K b { nx:=fun _ H'=>Q .non H',rt:=Q } (vs.map some ++ List.replicate (nn - np) none) H:=by
 obtain ⟨args,O,fp,hl,rl,a,as',e,k⟩:=h
 have hl2:vs.length = args.length:=by have:=rl.len; simp at this; exact this.symm
 simp only [fnM] at e
 split at e
 ·rename_i ha
  simp only [bind_eq_some_iff] at e
  obtain ⟨f,e1,e2⟩:=e
  refine ⟨_,O,fp,rl.start (nn - np),f,e1,?_⟩
  cases f with
  | next ρ' =>
   cases e2
   intro σ' fp' H' p
   obtain ⟨fp2,p2,_⟩:=L6 hl2 p
   rw [ha] at p2
   exact k _ _ ⟨[],fp2,p2,D9 .non⟩
  | ret b ρ' =>
   cases e2
   intro σ' v L fp' H' p q
   obtain ⟨fp2,p2,n2⟩:=L6 hl2 p
   rw [ha] at p2
   exact k _ _ ⟨L,fp2,p2,Dw n2 q⟩
  | brk ρ'=>cases e2
  | cnt ρ'=>cases e2
 ·cases e
theorem RRs.split:∀ {rs:List R} {vs:List V} {L:List Addr},RRs K N H σ vs rs L→L.Nodup→∃ Ls:Nat→List Addr,(∀ j v r,vs[j]? = some v→rs[j]? = some r→RR K N H σ v r (Ls j))∧(∀ j p,p∈Ls j→p∈L)∧(∀ j,(Ls j).Nodup) ∧
  (∀ i j p,p∈Ls i→p∈Ls j→i = j)∧vs.length = rs.length∧∀ j,rs.length≤j→Ls j = []:=by
 intro _l
 induction _l with
 | nil =>
  intro _m
  cases _m with
  | nil =>
   intro L q nd
   exact ⟨fun _=>[],fun j v r h=>by simp at h,fun j p h=>by simp at h,fun _=>List.nodup_nil,fun i j p h=>by simp at h,rfl,fun _ _=>rfl⟩
  | cons _ _ =>
   intro _ q _
   simp only [RRs] at q
 | cons r rs ih =>
  intro _m
  cases _m with
  | nil =>
   intro _ q _
   simp only [RRs] at q
  | cons v vs =>
   intro L q nd
   simp only [RRs] at q
   obtain ⟨L1,L2,rfl,q1,q2⟩:=q
   obtain ⟨n1,n2,n3⟩:=List.nodup_append.mp nd
   obtain ⟨Ls,h1,h2,h3,h4,h5,h6⟩:=ih q2 n2
   refine ⟨fun j=>match j with | 0=>L1 | j + 1=>Ls j,fun j w s e1 e2=>?_,fun j p h=>?_,fun j=>?_,fun i j p e1 e2=>?_,by simp [h5],fun j hj=>?_⟩
   ·cases j with
    | zero=>simp at e1 e2; subst e1; subst e2; exact q1
    | succ j=>exact h1 j w s (by simpa using e1) (by simpa using e2)
   ·cases j with
    | zero=>exact List.mem_append_left _ h
    | succ j=>exact List.mem_append_right _ (h2 j p h)
   ·cases j with
    | zero=>exact n1
    | succ j=>exact h3 j
   ·cases i with
    | zero =>
     cases j with
     | zero=>rfl
     | succ j=>exact absurd rfl (n3 p e1 p (h2 j p e2))
    | succ i =>
     cases j with
     | zero=>exact absurd rfl (n3 p e2 p (h2 i p e1))
     | succ j=>rw [h4 i j p e1 e2]
   ·cases j with
    | zero=>simp at hj
    | succ j=>exact h6 j (by simpa using hj)
theorem Eu:∀ {rs:List R} {j i:Nat},rs[j]? = some (.ref i)→i∈refs rs
 | [],j,i,h=>by simp at h
 | .ref k :: rs,0,i,h=>by simp at h; subst h; simp [refs]
 | .val a :: rs,0,i,h=>by simp at h
 | .ref k :: rs,j + 1,i,h=>by simp only [refs]; exact List.mem_cons_of_mem _ (Eu (by simpa using h))
 | .val a :: rs,j + 1,i,h=>by simp only [refs]; exact Eu (by simpa using h)
theorem Iv:∀ {rs:List R},(refs rs).Nodup→∀ {i j k:Nat},rs[i]? = some (.ref k)→rs[j]? = some (.ref k)→i = j
 | [],_,i,j,k,h,_=>by simp at h
 | .val a :: rs,nd,0,_,_,h,_=>by simp at h
 | .val a :: rs,nd,_ + 1,0,_,_,h=>by simp at h
 | .val a :: rs,nd,i + 1,j + 1,k,h1,h2=>by
  have e:=Iv (rs:=rs) nd (i:=i) (j:=j) (k:=k) (by simpa using h1) (by simpa using h2)
  rw [e]
 | .ref a :: rs,nd,0,0,_,_,_=>rfl
 | .ref a :: rs,nd,0,j + 1,k,h1,h2=>by
  simp at h1; subst h1
  simp only [refs,List.nodup_cons] at nd
  exact absurd (Eu (by simpa using h2)) nd.1
 | .ref a :: rs,nd,i + 1,0,k,h1,h2=>by
  simp at h2; subst h2
  simp only [refs,List.nodup_cons] at nd
  exact absurd (Eu (by simpa using h1)) nd.1
 | .ref a :: rs,nd,i + 1,j + 1,k,h1,h2=>by
  simp only [refs,List.nodup_cons] at nd
  have e:=Iv (rs:=rs) nd.2 (i:=i) (j:=j) (k:=k) (by simpa using h1) (by simpa using h2)
  rw [e]
theorem IB {i k:Nat} {a:A}:(Ny ρ k a)[i]? = if i = k then (match ρ[i]? with | some (some (st,_))=>some (some (st,a)) | x=>x) else ρ[i]?:=by
 unfold Ny
 split
 ·rename_i st b e
  by_cases h:i = k
  ·subst h
   rw [List.getElem?_set_self (Az e),if_pos rfl,e]
  ·rw [List.getElem?_set_ne (Ne.symm h),if_neg h]
 ·rename_i hn
  by_cases h:i = k
  ·subst h
   rw [if_pos rfl]
   split
   ·rename_i st b e
    exact absurd e (hn st b)
   ·rfl
  ·rw [if_neg h]
theorem En:∀ {rs:List R} {as:List A} {ρ:Ro} {i:Nat},i ∉ refs rs→(back rs as ρ)[i]? = ρ[i]?
 | [],as,ρ,i,_=>by cases as <;> rfl
 | .ref k :: rs,[],ρ,i,_=>rfl
 | .val k :: rs,[],ρ,i,_=>rfl
 | .ref k :: rs,a :: as,ρ,i,h=>by
  simp only [refs,List.mem_cons,not_or] at h
  simp only [back]
  rw [En h.2,IB,if_neg h.1]
 | .val k :: rs,a :: as,ρ,i,h=>by
  simp only [refs] at h
  simp only [back]
  exact En h
theorem Gf:∀ {rs:List R} {as:List A} {ρ:Ro} {i j:Nat} {st:Own} {b a:A},(refs rs).Nodup→rs[j]? = some (.ref i)→as[j]? = some a → ρ[i]? = some (some (st,b))→(back rs as ρ)[i]? = some (some (st,a))
 | [],as,ρ,i,j,st,b,a,_,h,_,_=>by simp at h
 | _ :: _,[],ρ,i,j,st,b,a,_,_,h,_=>by simp at h
 | .ref k :: rs,c :: as,ρ,i,0,st,b,a,nd,h1,h2,h3=>by
  simp at h1 h2
  subst h1; subst h2
  simp only [refs,List.nodup_cons] at nd
  simp only [back]
  rw [En nd.1,IB,if_pos rfl,h3]
 | .val k :: rs,c :: as,ρ,i,0,st,b,a,nd,h1,h2,h3=>by simp at h1
 | .ref k :: rs,c :: as,ρ,i,j + 1,st,b,a,nd,h1,h2,h3=>by
  simp only [refs,List.nodup_cons] at nd
  simp only [back]
  have hk:i≠k:=by
   rintro rfl
   exact nd.1 (Eu (by simpa using h1))
  exact Gf nd.2 (by simpa using h1) (by simpa using h2) (by rw [IB,if_neg hk]; exact h3)
 | .val k :: rs,c :: as,ρ,i,j + 1,st,b,a,nd,h1,h2,h3=>by
  simp only [refs] at nd
  simp only [back]
  exact Gf nd (by simpa using h1) (by simpa using h2) h3
theorem HN:∀ {rs:List R} {as:List A} {ρ:Ro},(back rs as ρ).length = ρ.length
 | [],as,ρ=>by cases as <;> rfl
 | .ref k :: rs,[],ρ=>rfl
 | .val k :: rs,[],ρ=>rfl
 | .ref k :: rs,a :: as,ρ=>by
  simp only [back]
  rw [HN]
  unfold Ny
  split <;> simp
 | .val k :: rs,a :: as,ρ=>by simp only [back]; exact HN
theorem args_get:∀ {rs:List R} {args:List (Own × A)},Cq ρ rs = some args→args.length = rs.length∧∀ (j:Nat) (r:R),rs[j]? = some r→∃ y,args[j]? = some y∧E1 ρ r = some y:=by
 intro _l
 induction _l with
 | nil =>
  intro args h
  simp only [Cq,Option.some.injEq] at h
  subst h
  exact ⟨rfl,fun j r h=>by simp at h⟩
 | cons r rs ih =>
  intro args h
  simp only [Cq,bind_eq_some_iff,map_eq_some_iff] at h
  obtain ⟨y,h1,ys,h2,rfl⟩:=h
  obtain ⟨e1,e2⟩:=ih h2
  refine ⟨by simp [e1],fun j s hj=>?_⟩
  cases j with
  | zero=>simp at hj; subst hj; exact ⟨y,rfl,h1⟩
  | succ j=>exact e2 j s (by simpa using hj)
theorem Em {i:Nat} {y:Own × A} (h:E1 ρ (.ref i) = some y):∃ st,ρ[i]? = some (some (st,y.2))∧y.1 ≠ .own∧(st = .ro→y.1 = .ro):=by
 simp only [E1] at h
 split at h
 ·rename_i a e
  cases h
  exact ⟨_,e,fun z=>(by cases z),fun _=>rfl⟩
 ·rename_i st a hn e
  cases h
  refine ⟨_,e,fun z=>(by cases z),fun z=>?_⟩
  exact (hn z).elim
 ·cases h
end
section
variable {K:Frag} {ρ ρ' ρ1 ρ2:Ro} {σ σ' σ1 σ2:St} {H H' H1 H2:Hp} {O O' N:Addr→Prop} {fp fp' fp1 fp2:Nat→List Addr} {L L1:List Addr}
noncomputable def fpC (rs:List R) (Ls fp1:Nat→List Addr):Nat→List Addr:=fun j=>match rs[j]? with
 | some (.val _)=>Ls j
 | some (.ref i)=>fp1 i
 | none=>[]
noncomputable def ixR (rs:List R) (i:Nat):Option Nat:=rs.findIdx? fun r=>match r with
 | .ref k=>k == i
 | .val _=>false
theorem Gy {rs:List R} {i j:Nat} (h:ixR rs i = some j):rs[j]? = some (.ref i):=by
 unfold ixR at h
 obtain ⟨hj,h1,_⟩:=List.findIdx?_eq_some_iff_getElem.mp h
 cases e:rs[j] with
 | val a=>rw [e] at h1; simp at h1
 | ref k =>
  rw [e] at h1
  have:k = i:=by simpa using h1
  subst this
  rw [List.getElem?_eq_getElem hj,e]
theorem Gx {rs:List R} {i:Nat} (h:ixR rs i = none):i ∉ refs rs:=by
 unfold ixR at h
 rw [List.findIdx?_eq_none_iff] at h
 intro hm
 have:∀ {rs:List R},i∈refs rs→R.ref i∈rs:=by
  intro rs
  induction rs with
  | nil=>intro h; simp [refs] at h
  | cons r rs ih =>
   intro h
   cases r with
   | val a=>simp only [refs] at h; exact List.mem_cons_of_mem _ (ih h)
   | ref k =>
    simp only [refs,List.mem_cons] at h
    rcases h with rfl | h
    ·exact List.mem_cons_self
    ·exact List.mem_cons_of_mem _ (ih h)
 have:=h _ (this hm)
 simp at this
theorem Oq {Φ:Fn} {np:Nat} {m:MA} {Q:VK} {E:XK} (hnp:∀ args y,Φ args = some y→args.length = np) (h:tE K (Al Φ m) σ H Q):Mi (spJ K Φ np) [] E (tA K m) σ H Q:=by
 obtain ⟨ρ,O,fp,rl,x,ρ',e,k⟩:=h
 simp only [Al,bind_eq_some_iff] at e
 obtain ⟨⟨rs,ρ1⟩,e1,args,e2,e3⟩:=e
 split at e3
 case isFalse=>cases e3
 rename_i hnd
 simp only [map_eq_some_iff] at e3
 obtain ⟨⟨a,as'⟩,e3,e4⟩:=e3
 cases e4
 refine ⟨ρ,O,fp,rl,rs,ρ1,e1,fun vs H1 yy=>?_⟩
 obtain ⟨L,fp1,p,q⟩:=yy
 obtain ⟨Ls,s1,s2,s3,s4,s5,s6⟩:=q.split p.nd
 obtain ⟨g1,g2⟩:=args_get e2
 rw [List.append_nil]
 have rs_of:∀ {j:Nat} {y:Own × A},args[j]? = some y→∃ r v,rs[j]? = some r∧vs[j]? = some v∧E1 ρ1 r = some y:=fun {j y} hy=>by
  have hj:j < rs.length:=by rw [← g1]; exact Az hy
  obtain ⟨y',h1,h2⟩:=g2 j rs[j] (by simp [hj])
  rw [hy] at h1; cases h1
  exact ⟨rs[j],vs[j]'(by rw [s5]; exact hj),by simp [hj],by simp,h2⟩
 -- what goes with the call
 have fpc:∀ j pp,pp∈fpC rs Ls fp1 j→(∃ a,rs[j]? = some (.val a)∧pp∈Ls j)∨(∃ i,rs[j]? = some (.ref i)∧pp∈fp1 i):=fun j pp hp=>by
  unfold fpC at hp
  split at hp
  ·rename_i a e; exact .inl ⟨a,e,hp⟩
  ·rename_i i e; exact .inr ⟨i,e,hp⟩
  ·simp at hp
 have cN:∀ pp,Fp (fpC rs Ls fp1) pp→NN fp1 (ad O L) pp:=fun pp ⟨j,hp⟩=>by
  rcases fpc j pp hp with ⟨_,_,hp⟩ | ⟨i,_,hp⟩
  ·exact .inr (.inr (s2 j pp hp))
  ·exact .inl ⟨i,hp⟩
 have oN:∀ pp,O pp→¬ Fp (fpC rs Ls fp1) pp:=fun pp ho ⟨j,hp⟩=>by
  rcases fpc j pp hp with ⟨_,_,hp⟩ | ⟨i,_,hp⟩
  ·exact p.lo pp (s2 j pp hp) ho
  ·exact p.rel.off i pp hp (.inl ho)
 have kN:∀ i pp,pp∈fp1 i→i ∉ refs rs→¬ Fp (fpC rs Ls fp1) pp:=fun i pp hp hi ⟨j,hq⟩=>by
  rcases fpc j pp hq with ⟨_,_,hq⟩ | ⟨i',hr,hq⟩
  ·exact p.rel.off i pp hp (.inr (s2 j pp hq))
  ·have:=p.rel.inj i i' pp hp hq
   subst this
   exact hi (Eu hr)
 let OC:Addr→Prop:=fun pp=>NN fp1 (ad O L) pp∧¬ Fp (fpC rs Ls fp1) pp
 have cNN:∀ pp,NN (fpC rs Ls fp1) OC pp→NN fp1 (ad O L) pp:=fun pp z=>z.elim (cN pp) fun z=>z.1
 have relC:Rel K (args.map some) (vs.map some) H1 OC (fpC rs Ls fp1):=by
  refine ⟨by simp [g1,s5],fun j st b hb=>?_,fun j h=>?_,fun j=>?_,fun i j pp h1 h2=>?_,fun j pp hp z=>z.2 ⟨j,hp⟩,fun pp z=>p.rel.al pp (cNN pp z)⟩
  ·rw [List.getElem?_map] at hb
   cases hy:args[j]? with
   | none=>rw [hy] at hb; cases hb
   | some y =>
    rw [hy] at hb
    cases hb
    obtain ⟨r,v,hr,hv,ha⟩:=rs_of hy
    refine ⟨v,by rw [List.getElem?_map,hv]; rfl,Dw cNN ?_⟩
    have q1:=s1 j v r hv hr
    cases r with
    | val c =>
     simp only [E1,Option.some.injEq] at ha
     cases ha
     have:fpC rs Ls fp1 j = Ls j:=by simp [fpC,hr]
     rw [this]
     exact q1
    | ref i =>
     obtain ⟨st',h1,h2,_⟩:=Em ha
     obtain ⟨v',h3,h4⟩:=p.rel.slot i _ _ h1
     rw [q1.2] at h3; cases h3
     have:fpC rs Ls fp1 j = fp1 i:=by simp [fpC,hr]
     rw [this]
     exact h4
  ·unfold fpC
   split
   ·rename_i c e
    obtain ⟨y,hy,_⟩:=g2 j _ e
    exact absurd (by rw [List.getElem?_map,hy]; rfl) (h y.1 y.2)
   ·rename_i c e
    obtain ⟨y,hy,_⟩:=g2 j _ e
    exact absurd (by rw [List.getElem?_map,hy]; rfl) (h y.1 y.2)
   ·rfl
  ·unfold fpC
   split
   ·exact s3 j
   ·exact p.rel.nd _
   ·exact List.nodup_nil
  ·rcases fpc i pp h1 with ⟨c1,r1,z1⟩ | ⟨i1,r1,z1⟩
   ·rcases fpc j pp h2 with ⟨c2,r2,z2⟩ | ⟨i2,r2,z2⟩
    ·exact s4 i j pp z1 z2
    ·exact absurd (.inr (s2 i pp z1)) (p.rel.off i2 pp z2)
   ·rcases fpc j pp h2 with ⟨c2,r2,z2⟩ | ⟨i2,r2,z2⟩
    ·exact absurd (.inr (s2 j pp z2)) (p.rel.off i1 pp z1)
    ·have:=p.rel.inj i1 i2 pp z1 z2
     subst this
     exact Iv hnd r1 r2
 refine ⟨args,OC,fpC rs Ls fp1,by rw [s5,← g1]; exact hnp _ _ e3,relC,a,as',e3,fun v H2 ⟨L',fpD,pc,qc⟩=>k v H2 ?_⟩
 -- behind the call
 have hlen:rs.length≤as'.length:=by
  have:=pc.rel.len
  rw [Il] at this
  simp at this
  lia
 let fp2:Nat→List Addr:=fun i=>match ixR rs i with
  | some j=>fpD j
  | none=>fp1 i
 have fp2c:∀ i pp,pp∈fp2 i→(∃ j,rs[j]? = some (.ref i)∧pp∈fpD j)∨(i ∉ refs rs∧pp∈fp1 i):=fun i pp hp=>by
  simp only [fp2] at hp
  split at hp
  ·rename_i j e; exact .inl ⟨j,Gy e,hp⟩
  ·rename_i e; exact .inr ⟨Gx e,hp⟩
 have oOC:∀ pp,O pp→OC pp:=fun pp z=>⟨.inr (.inl z),oN pp z⟩
 have fOC:∀ i pp,pp∈fp1 i→i ∉ refs rs→OC pp:=fun i pp hp hi=>⟨.inl ⟨i,hp⟩,kN i pp hp hi⟩
 have nD:∀ pp,NN fp2 (ad O L') pp→NN fpD (ad OC L') pp:=fun pp z=>by
  rcases z with ⟨i,z⟩ | z | z
  ·rcases fp2c i pp z with ⟨j,_,z⟩ | ⟨hi,z⟩
   ·exact .inl ⟨j,z⟩
   ·exact .inr (.inl (fOC i pp z hi))
  ·exact .inr (.inl (oOC pp z))
  ·exact .inr (.inr z)
 have hnew:∀ pp,(pp∈L'∨Fp fpD pp)→NN fp1 (ad O L) pp∨H1 pp = none:=fun pp z=>(pc.new pp z).imp (cN pp) id
 have back1:∀ pp,(Fp (fpC rs Ls fp1) pp∨H1 pp = none)→Fp fp pp∨H pp = none:=fun pp z=>by
  rcases z with ⟨j,z⟩ | z
  ·rcases fpc j pp z with ⟨_,_,z⟩ | ⟨i,_,z⟩
   ·exact p.new pp (.inl (s2 j pp z))
   ·exact p.new pp (.inr ⟨i,z⟩)
  ·cases e:H pp with
   | none=>exact .inr rfl
   | some o =>
    by_cases hf:Fp fp pp
    ·exact .inl hf
    ·rw [p.kept pp o e (.inl hf)] at z; cases z
 have slot2:∀ i st b,(back rs as' ρ1)[i]? = some (some (st,b))→(∃ j,ixR rs i = some j∧rs[j]? = some (.ref i)∧as'[j]? = some b∧∃ c,ρ1[i]? = some (some (st,c)))∨(ixR rs i = none∧i ∉ refs rs ∧ ρ1[i]? = some (some (st,b))):=fun i st b hb=>by
  cases e:ixR rs i with
  | some j =>
   have hr:=Gy e
   have hj:j < rs.length:=Az hr
   obtain ⟨y,hy,ha⟩:=g2 j _ hr
   obtain ⟨st',h1,_,_⟩:=Em ha
   have hb':=Gf (as:=as') (a:=as'[j]'(by lia)) hnd hr (by simp) h1
   rw [hb] at hb'
   cases hb'
   exact .inl ⟨j,rfl,hr,by simp,_,h1⟩
  | none =>
   have hi:=Gx e
   rw [En hi] at hb
   exact .inr ⟨rfl,hi,hb⟩
 have rel2:Rel K (back rs as' ρ1) σ H2 (ad O L') fp2:=by
  refine ⟨by rw [HN]; exact p.rel.len,fun i st b hb=>?_,fun i h=>?_,fun i=>?_,fun i1 i2 pp h1 h2=>?_,fun i pp h z=>?_,fun pp z=>pc.rel.al pp (nD pp z)⟩
  ·rcases slot2 i st b hb with ⟨j,ej,hr,hb2,c,hc⟩ | ⟨ej,hi,hb2⟩
   ·obtain ⟨y,hy,ha⟩:=g2 j _ hr
    obtain ⟨st',h1,h2,_⟩:=Em ha
    obtain ⟨v',h3,h4⟩:=pc.rel.slot j _ _ (HY (st:=y.1) (a0:=y.2) hy h2 hb2)
    have hv:vs[j]? = some v':=by
     rw [List.getElem?_map] at h3
     cases e:vs[j]? with
     | none=>rw [e] at h3; cases h3
     | some w=>rw [e] at h3; cases h3; rfl
    have q1:=s1 j v' _ hv hr
    have:fp2 i = fpD j:=by simp only [fp2,ej]
    exact ⟨v',q1.2,by rw [this]; exact Dw nD h4⟩
   ·obtain ⟨v',h3,h4⟩:=p.rel.slot i _ _ hb2
    have:fp2 i = fp1 i:=by simp only [fp2,ej]
    refine ⟨v',h3,?_⟩
    rw [this]
    refine h4.tr (M:=Fp (fpC rs Ls fp1)) cN pc.kept (fun pp z=>?_) fun pp hp=>kN i pp hp hi
    rcases z with ⟨i',z⟩ | z | z
    ·rcases fp2c i' pp z with ⟨j,_,z⟩ | ⟨_,z⟩
     ·exact hnew pp (.inr ⟨j,z⟩)
     ·exact .inl (.inl ⟨i',z⟩)
    ·exact .inl (.inr (.inl z))
    ·exact hnew pp (.inl z)
  ·simp only [fp2]
   split
   ·rename_i j ej
    have hr:=Gy ej
    have hj:j < rs.length:=Az hr
    obtain ⟨y,hy,ha⟩:=g2 j _ hr
    obtain ⟨st',h1,_,_⟩:=Em ha
    exact absurd (Gf (as:=as') (a:=as'[j]'(by lia)) hnd hr (by simp) h1) (h _ _)
   ·rename_i ej
    exact p.rel.out i fun st b hb=>h st b (by rw [En (Gx ej)]; exact hb)
  ·simp only [fp2]
   split
   ·exact pc.rel.nd _
   ·exact p.rel.nd _
  ·rcases fp2c i1 pp h1 with ⟨j1,r1,z1⟩ | ⟨r1,z1⟩
   ·rcases fp2c i2 pp h2 with ⟨j2,r2,z2⟩ | ⟨r2,z2⟩
    ·have:=pc.rel.inj j1 j2 pp z1 z2
     subst this
     rw [r1] at r2; cases r2; rfl
    ·exact absurd (.inl (fOC i2 pp z2 r2)) (pc.rel.off j1 pp z1)
   ·rcases fp2c i2 pp h2 with ⟨j2,r2,z2⟩ | ⟨r2,z2⟩
    ·exact absurd (.inl (fOC i1 pp z1 r1)) (pc.rel.off j2 pp z2)
    ·exact p.rel.inj i1 i2 pp z1 z2
  ·rcases fp2c i pp h with ⟨j,r1,z1⟩ | ⟨r1,z1⟩
   ·exact pc.rel.off j pp z1 (z.imp (oOC pp) id)
   ·rcases z with z | z
    ·exact p.rel.off i pp z1 (.inl z)
    ·exact pc.lo pp z (fOC i pp z1 r1)
 refine ⟨L',fp2,⟨rel2,pc.nd,fun pp hp z=>pc.lo pp hp (oOC pp z),fun pp hp=>?_,p.kept.trans pc.kept fun pp z=>back1 pp (.inl z),rfl,p.stab.trans fun i st b hb hs=>?_⟩,Dw nD qc⟩
 ·rcases hp with hp | ⟨i,hp⟩
  ·exact back1 pp (pc.new pp (.inl hp))
  ·rcases fp2c i pp hp with ⟨j,_,z⟩ | ⟨_,z⟩
   ·exact back1 pp (pc.new pp (.inr ⟨j,z⟩))
   ·exact p.new pp (.inr ⟨i,z⟩)
 ·cases e:ixR rs i with
  | none=>exact ⟨b,by rw [En (Gx e)]; exact hb,rfl,fun _=>rfl⟩
  | some j =>
   have hr:=Gy e
   have hj:j < rs.length:=Az hr
   obtain ⟨y,hy,ha⟩:=g2 j _ hr
   obtain ⟨st',h1,h2,h3⟩:=Em ha
   rw [hb] at h1; cases h1
   refine ⟨_,Gf (as:=as') (a:=as'[j]'(by lia)) hnd hr (by simp) hb,rfl,fun z=>?_⟩
   obtain ⟨a',h4,_,h5⟩:=pc.stab j y.1 y.2 (by rw [List.getElem?_map,hy]; rfl) h2
   obtain ⟨_,_,_,h6⟩:=Ik h4
   have:as'[j]? = some (as'[j]'(by lia)):=by simp
   rw [this] at h6
   have e5:=h5 (h3 z)
   have e6:as'[j]'(by lia) = a':=Option.some.inj h6
   rw [e6,e5]
end
end J
end
section
namespace J
open PySem PySem.Spec PyProof.Rows L2
noncomputable def JE (X:Cx) (e:Expr) (m:ME):Prop:=PE X e (tE X.K m)
noncomputable def JT (X:Cx) (e:Expr) (m:MT):Prop:=PT X e (tT X.K m)
noncomputable def JW (X:Cx) (e:Expr) (m:MT):Prop:=PW X e (tT X.K m)
noncomputable def JA (X:Cx) (es:List Expr) (m:MA):Prop:=PA X es (tA X.K m)
noncomputable def JI (X:Cx) (tg e:Expr) (m:MI):Prop:=PI X tg e (tI X.K m)
noncomputable def JS (X:Cx) (s:Stmt) (m:MS):Prop:=PS X s (tS X.K m)
noncomputable def JSs (X:Cx) (s:List Stmt) (m:MS):Prop:=PSs X s (tS X.K m)
section
variable {X:Cx} {a b c e:Expr} {es:List Expr} {m m1 m2 m3:ME} {ms:MA} {mt mt2:MT} {mi:MI} {p pos pos':Pos} {x:Str} {s:Stmt} {ss:List Stmt} {w1 w2:MS}
theorem AO {t t':TE} (h:PE X e t) (w:∀ σ H Q,t' σ H Q→t σ H Q):PE X e t':=fun pins s σ H Q I q=>h pins s σ H Q I (w σ H Q q)
theorem HG {t t':TT} (h:PT X e t) (w:∀ σ H Q,t' σ H Q→t σ H Q):PT X e t':=fun pins s σ H Q I q=>h pins s σ H Q I (w σ H Q q)
theorem Sz {t t':TT} (h:PW X e t) (w:∀ σ H Q,t' σ H Q→t σ H Q):PW X e t':=fun wh pins s σ H Q I q=>h wh pins s σ H Q I (w σ H Q q)
theorem Oa {t t':TA} (h:PA X es t) (w:∀ σ H Q,t' σ H Q→t σ H Q):PA X es t':=fun pp pins s σ H Q I q=>h pp pins s σ H Q I (w σ H Q q)
theorem Bz {t t':TS} (h:PS X s t) (w:∀ D σ H,t' D σ H→t D σ H):PS X s t':=fun pins s σ H D I q=>h pins s σ H D I (w D σ H q)
theorem Fi {t t':TS} (h:PSs X ss t) (w:∀ D σ H,t' D σ H→t D σ H):PSs X ss t':=fun pins s σ H D I q=>h pins s σ H D I (w D σ H q)
theorem GG {tg:Expr} {t t':TI} (h:PI X tg e t) (w:∀ σ H R,t' σ H R→t σ H R):PI X tg e t':=fun pins s σ H R I q=>h pins s σ H R I (w σ H R q)
theorem Qj (i:Nat) (hN:X.N[i]? = some x) (hv:Vis X.env.scope x) (hd:(x == ("__debug__" : Str)) = false) (hcd:(x == ("__classdict__" : Str)) = false):JE X (.Name x pos) (Ae i):=AO (Kw hN hv hd hcd) fun _ _ _ h=>Vq h
theorem Ai {i:Int} {j:Nat}:JE X (.Constant (.int i) j pos) (Ag (.int i)):=AO UP fun _ _ _ h=>II (fun _ _=>.int i) h
theorem CB {b:Bool} {j:Nat}:JE X (.Constant (.bool b) j pos) (Ag (.bl b)):=AO Wc fun _ _ _ h=>II (fun _ _=>.bl b) h
theorem J7 {j:Nat}:JE X (.Constant .none j pos) (Ag .non):=AO UY fun _ _ _ h=>II (fun _ _=>.non) h
theorem Av {z:Str} {j:Nat} (hz:z.length≤sizeLine):JE X (.Constant (.str z) j pos) (Ag (.str z)):=AO U1 fun _ _ _ h=>II (fun _ _=>.str z hz) h
theorem J6 {n:Int} (G:GInt X.mg x n) (hg:Gl X x) (hd:(x == ("__debug__" : Str)) = false):JE X (.Name x pos) (Ag (.int n)):=AO (Sk G rfl hg hd) fun _ _ _ h=>II (fun _ _=>.int n) h
theorem Ac (h:JE X e m):JE X e (Ad m):=AO h fun _ _ _ h=>Rc h
theorem Af:JA X [] Ah:=Oa Eg fun _ _ _ h=>IG h
theorem Aa (hs:starEach (e :: es) X.env = (false,eval e X.env) :: starEach es X.env) (h:JE X e m) (t:JA X es ms):JA X (e :: es) (Ab m ms):=Oa (Cp h t hs) fun _ _ _ h=>FC h
noncomputable def r1L (r:V→Hp→VK→Prop):List V→Hp→VK→Prop:=fun xs H Q=>∃ x,xs = [x]∧r x H Q
noncomputable def r2L (r:R2):List V→Hp→VK→Prop:=fun xs H Q=>∃ x y,xs = [x,y]∧r x y H Q
noncomputable def m1L (m:ME):MA:=Ab m Ah
noncomputable def m2L (m m':ME):MA:=Ab m (Ab m' Ah)
theorem two {K:Frag} {f:List A→Option A} {r:R2} (ok:OpN K f (r2L r)) {σ:L2.St} {H:Hp} {Q:VK} (h:tE K (opM f (m2L m1 m2)) σ H Q):tOp r (tE K m1) (tE K m2) σ H Q:=by
 have h1:=FC (Ot ok h)
 refine tE.mono h1 fun v H1 h2=>tE.mono (FC h2) fun u H2 h3=>?_
 obtain ⟨x,y,e,q⟩:=IG h3
 cases e
 exact q
theorem one {K:Frag} {f:List A→Option A} {r:V→Hp→VK→Prop} (ok:OpN K f (r1L r)) {σ:L2.St} {H:Hp} {Q:VK} (h:tE K (opM f (m1L m)) σ H Q):tUn r (tE K m) σ H Q:=by
 refine tE.mono (FC (Ot ok h)) fun v H1 h2=>?_
 obtain ⟨x,e,q⟩:=IG h2
 cases e
 exact q
theorem AA {op:Operator} {f:List A→Option A} {r:R2} (ok:OpN X.K f (r2L r)) (ho:OpR X (binaryOp op) r) (ha:JE X a m1) (hb:JE X b m2):JE X (.BinOp a op b pos) (opM f (m2L m1 m2)):=AO (Wf ho ha hb) fun _ _ _ h=>two ok h
theorem N3 {op:UnaryOp} {f:List A→Option A} {r:V→Hp→VK→Prop} (ok:OpN X.K f (r1L r)) (ho:UnR X (unaryOp op) r) (ha:JE X a m):JE X (.UnaryOp op a pos) (opM f (m1L m)):=AO (Wg ho ha) fun _ _ _ h=>one ok h
theorem Fb {op:CmpOp} {f:List A→Option A} {r:R2} (ok:OpN X.K f (r2L r)) (ho:OpR X (compareOp op) r) (hm:behindInMarks op b = false) (ha:JE X a m1) (hb:JE X b m2):JE X (.Compare a [op] [b] pos) (opM f (m2L m1 m2)):=AO (Si ho ha hb hm) fun _ _ _ h=>two ok h
theorem BA {op:CmpOp} {f:List A→Option A} {r:R2} (ok:OpN X.K f (r2L r)) (ho:OpR X (compareOp op) r) (hm:behindInMarks op b = false) (ha:JE X a m1) (hb:JE X b m2):JT X (.Compare a [op] [b] pos) (AR (opM f (m2L m1 m2))):=
 HG (Oh ho ha hb hm) fun _ _ _ h=>two ok (KZ h)
theorem AX {f:List A→Option A} {r:R2} (ok:OpN X.K f (r2L r)) (ho:IxR X r) (hs:NS b) (ha:JE X a m1) (hb:JE X b m2):JE X (.Subscript a b pos) (opM f (m2L m1 m2)):=AO (Wd ho ha hb hs) fun _ _ _ h=>two ok h
theorem AE {id:String} {f:List A→Option A} {r:List V→Hp→VK→Prop} (ok:OpN X.K f r) (hc:Cc X (.builtin id) r) (hm:X.mg x = none) (hv:bootBuiltins x = some (.builtin id)) (hn:x ≠ "__name__") (hdb:(x == ("__debug__" : Str)) = false) (hg:Gl X x)
  (he:starEach (e :: es) X.env = (false,eval e X.env) :: starEach es X.env) (hpl:(backTo pos (starEach es X.env)).any (·.1) = false) (ha:JA X (e :: es) ms):JE X (.Call (.Name x p) (e :: es) [] pos) (opM f ms):=
 AO (O5 hc hm hv hn hdb hg he hpl ha) fun _ _ _ h=>Ot ok h
theorem Qd {T:String} {f:List A→Option A} {r:List V→Hp→VK→Prop} (ok:OpN X.K f r) (hc:Cc X (.type T) r) (hm:X.mg x = none) (hv:bootBuiltins x = some (.type T)) (hn:x ≠ "__name__") (hdb:(x == ("__debug__" : Str)) = false) (hg:Gl X x)
  (he:starEach (e :: es) X.env = (false,eval e X.env) :: starEach es X.env) (hpl:(backTo pos (starEach es X.env)).any (·.1) = false) (ha:JA X (e :: es) ms):JE X (.Call (.Name x p) (e :: es) [] pos) (opM f ms):=
 AO (O6 hc hm hv hn hdb hg he hpl ha) fun _ _ _ h=>Ot ok h
theorem EL {op:BoolOp} (h:JE X a m):JE X (.BoolOp op [a] pos) m:=U0 h
theorem Ee (ha:JE X a m1) (hb:JE X (.BoolOp .And (b :: es) pos) m2):JE X (.BoolOp .And (a :: b :: es) pos) (andM m1 m2):=AO (UO ha hb) fun _ _ _ h=>Vm h
theorem Uc (ha:JE X a m1):JE X (.UnaryOp .Not a pos) (notM m1):=AO (UZ ha) fun _ _ _ h=>Vp h
theorem Cg (he:∀ whole,isTrue e X.env whole = (do let v ← whole; standAt e.pos; holding [v] (truthy v))) (h:JE X e m):JT X e (AR m):=HG (Sw he h) fun _ _ _ h=>KZ h
theorem MX (ha:JT X a mt):JW X (.BoolOp .Or [a] pos) mt:=U9 ha
theorem Qp (ha:JT X a mt) (hb:JW X (.BoolOp .Or (b :: es) pos) mt2):JW X (.BoolOp .Or (a :: b :: es) pos) (orT mt mt2):=Sz (Wh ha hb) fun _ _ _ h=>Wz h
theorem Ka (h:JW X e mt):JT X e mt:=h.pt
theorem CL (ha:JT X a mt):JT X (.UnaryOp .Not a pos) (Dp mt):=HG (QW ha) fun _ _ _ h=>VE h
theorem Rb {K:Frag} {f g:List A→Option A} {r r':R2} (ok:OpN K f (r2L r)) (ok':OpN K g (r2L r')) {σ:L2.St} {H:Hp} {Q:VK} (h:tE K (IL f g m1 m2 m3) σ H Q):NF r r' (tE K m1) (tE K m2) (tE K m3) σ H Q:=by
 obtain ⟨ρ,O,fp,rl,y,ρ',h0,k⟩:=h
 simp only [IL,bind_eq_some_iff] at h0
 obtain ⟨⟨r1,ρ1⟩,e1,⟨r2,ρ2⟩,e2,as,e3,z,e4,kb,e5,e6⟩:=h0
 refine ⟨ρ,O,fp,rl,r1,ρ1,e1,fun v1 H1 yy=>?_⟩
 obtain ⟨L1,fp1,p1,q1⟩:=yy
 refine ⟨ρ1,ad O L1,fp1,p1.rel,r2,ρ2,e2,fun v2 H2 yy=>?_⟩
 obtain ⟨L2,fp2,p2,q2⟩:=yy
 have p12:=p1.then p2
 have q1':=p2.rr p1.rel q1 fun _ z=>z
 have q2':RR K (NN fp2 (ad O (L1 ++ L2))) H2 σ v2 r2 L2:=by
  have e:ad (ad O L1) L2 = ad O (L1 ++ L2):=funext fun p=>propext JG
  rw [← e]
  exact q2
 have hs:JF K (NN fp2 (ad O (L1 ++ L2))) H2 [v1,v2] as:=p12.rel.peeks (rs:=[r1,r2]) (L:=L1 ++ L2) ⟨L1,L2,rfl,q1',L2,[],by simp,q2',rfl⟩ e3
 have key:=ok _ H2 [v1,v2] as z (fun u H3=>∃ kk,u = .bl kk∧if kk = true then tE K m3 σ H3 fun w H4=>r' v2 w H4 Q else Q (.bl false) H3) hs e4 ?_
 ·obtain ⟨x',y',e,q⟩:=key
  cases e
  exact q
 intro u H3 o
 obtain ⟨sm,L3,q3,nd3,nw3⟩:=o
 have hb:=Q2 q3 e5
 refine ⟨kb,hb,?_⟩
 have p3:Post K O fp H ρ ρ2 σ σ (L1 ++ L2) fp2 H3:=p12.more sm p12.nd fun p hp=>.inl hp
 cases kb with
 | false =>
  rw [if_neg Bool.false_ne_true]
  simp at e6
  obtain ⟨rfl,rfl⟩:=e6
  exact k _ H3 ⟨[],fp2,p3.drop0,Np (.bl _)⟩
 | true =>
  rw [if_pos rfl]
  simp only [if_true,bind_eq_some_iff,map_eq_some_iff] at e6
  obtain ⟨⟨r3,ρ3⟩,e7,bs,e8,z2,e9,e10⟩:=e6
  cases e10
  refine ⟨ρ2,ad O (L1 ++ L2),fp2,p3.rel,r3,ρ3,e7,fun v3 H4 yy=>?_⟩
  obtain ⟨L4,fp4,p4,q4⟩:=yy
  have p34:=p3.then p4
  have q2'':RR K (NN fp2 (ad O (L1 ++ L2))) H3 σ v2 r2 L2:=by
   cases r2 with
   | ref i=>exact q2'
   | val a=>exact Aw.tr (M:=fun _=>False) (fun _ z=>z.elim) (Ek.kept sm) (fun p z=>.inl z) (fun _ _ z=>z) q2'
  have q2f:=p4.rr p3.rel q2'' fun p z=>List.mem_append_right _ z
  have q4':RR K (NN fp4 (ad O ((L1 ++ L2) ++ L4))) H4 σ v3 r3 L4:=by
   have e:ad (ad O (L1 ++ L2)) L4 = ad O ((L1 ++ L2) ++ L4):=funext fun p=>propext JG
   rw [← e]
   exact q4
  have hs2:JF K (NN fp4 (ad O ((L1 ++ L2) ++ L4))) H4 [v2,v3] bs:=p34.rel.peeks (rs:=[r2,r3]) (L:=L2 ++ L4) ⟨L2,L4,rfl,q2f,L4,[],by simp,q4',rfl⟩ e8
  obtain ⟨x',y',e,q⟩:=ok' _ H4 [v2,v3] bs z2 Q hs2 e9 fun u H5 o=>k u H5 (p34.out o)
  cases e
  exact q
theorem MQ {op op':CmpOp} {f g:List A→Option A} {r r':R2} (ok:OpN X.K f (r2L r)) (ok':OpN X.K g (r2L r')) (ho:OpR X (compareOp op) r) (ho':OpR X (compareOp op') r') (hm:lastMarks [op,op'] [b,c] = false) (ha:JE X a m1) (hb:JE X b m2) (hc:JE X c m3) :
  JE X (.Compare a [op,op'] [b,c] pos) (IL f g m1 m2 m3):=AO (QK ho ho' ha hb hc hm) fun _ _ _ h=>Rb ok ok' h
theorem Ui {op op':CmpOp} {f g:List A→Option A} {r r':R2} (ok:OpN X.K f (r2L r)) (ok':OpN X.K g (r2L r')) (ho:OpR X (compareOp op) r) (ho':OpR X (compareOp op') r') (hm:lastMarks [op,op'] [b,c] = false) (ha:JE X a m1) (hb:JE X b m2) (hc:JE X c m3) :
  JT X (.Compare a [op,op'] [b,c] pos) (AR (IL f g m1 m2 m3)):=HG (QV ho ho' ha hb hc hm) fun _ _ _ h=>Rb ok ok' (KZ h)
theorem Am (h:JA X es ms):JE X (.List es pos) (lstM ms):=AO (UX h) fun _ _ _ h=>Vo h
theorem Ap {P:Program} {w:World} {K:Frag} {mg:Str→Option Value} {base:Heap} {CX:CXT} {k j:Nat} {ps:List Str} {Φ:Fn} {np:Nat} {E:XK} (D:Def P w K mg base CX k x ps (spJ K Φ np)) (hnp:∀ args y,Φ args = some y→args.length = np)
  (hP:X.prog = P) (hw:X.w = w) (hK:X.K = K) (hm:X.mg = mg) (hb:X.base = base) (hr:Room j X.A) (hkj:k≤j) (hx:Passes CX X E) (hdb:(x == ("__debug__" : Str)) = false) (hg:Gl X x)
  (he:starEach (e :: es) X.env = (false,eval e X.env) :: starEach es X.env) (hpl:(backTo pos (starEach es X.env)).any (·.1) = false) (ha:JA X (e :: es) ms):JE X (.Call (.Name x p) (e :: es) [] pos) (Al Φ ms):=by
 subst hP hw hK hm hb
 exact AO (G5 D hr hkj hx ha hg hdb he hpl) fun _ _ _ h=>Oq hnp h
noncomputable def JEc (X:Cx) (own:List Str) (scope:Scope) (e:Expr) (m:ME):Prop:=∀ C s H fp pins,JE (cxC X own scope C s H fp pins) e m
noncomputable def JTc (X:Cx) (own:List Str) (scope:Scope) (ifs:List Expr) (m:MT):Prop:=∀ C s H fp pins,PTs (cxC X own scope C s H fp pins) ifs (tT X.K m)
theorem CM {own:List Str} {scope:Scope}:JTc X own scope [] Ei:=fun C s H fp pins=>fun _ _ _ H _ I h=>by
 obtain ⟨ρ,O,fp,r,x,ρ',e,k⟩:=h
 cases e
 exact Sx _ _ _ H _ I (k fp H r.post)
theorem Kb {own:List Str} {scope:Scope} (h:∀ C s H fp pins,JT (cxC X own scope C s H fp pins) c mt):JTc X own scope [c] mt:=fun C s H fp pins=>Sy (h C s H fp pins)
theorem Dm {scope:Scope} {iter elt:Expr} {ifs:List Expr} {px:Pos} (hok:BX [x] X.N scope X.env.scope = true) (hc:X.calm = true) (hn:X.N.Nodup) (hx:scope.names.lookup x = some .local)
  (hs:∀ z,foldedSetIterable iter X.env z = pure z) (hi:JI X (.Name x px) iter mi) (ht:JTc X [x] scope ifs mt) (he:JEc X [x] scope elt m) :
  JE X (.ListComp elt [⟨.Name x px,iter,ifs,0⟩] scope pos) (Bf mi 0 mt m):=
 AO (UW (te:=tE X.K m) hok hc ⟨hn⟩ rfl hx hs hi ht (fun C s H fp pins=>he C s H fp pins)) fun _ _ _ h=>KY h
theorem U5 {tg l:Expr} {tl:TE} (hl:PE X l tl):PI X tg l (V0 X.K tl):=by
 intro pins s σ H R I h
 refine thn (hl pins s σ H _ I h) fun v s1 yy=>?_
 obtain ⟨y,H1,I1,r1,q1⟩:=yy
 obtain ⟨a,e,q1⟩:=q1
 subst e
 cases r1
 rcases q1 with ⟨⟨xs,hq⟩,q⟩ | ⟨⟨xs,hq⟩,q⟩
 ·obtain ⟨its,rv,p,hz⟩:=I1.list hq
  refine wpAny_pyIter_list p.isList ?_
  refine ⟨s1.heap.objs.size,[s1.heap.objs.size],_,_,H1,rfl,I1.kept (t':=s1.toks) fun b o e=>Heap.get?_push_of_some _ e,Po a _,⟨_,Heap.get?_push_size _ rfl,rfl,rfl⟩,fun b hb=>?_,q⟩
  have e:b = s1.heap.objs.size:=by simpa using hb
  subst e
  exact I1.fpOk (Nat.le_refl _) (I1.hok.fresh (Nat.le_refl _))
 ·obtain ⟨its,rv,p,hz⟩:=I1.tuple hq
  refine wpAny_pyIter_tuple (show s1.heap.IsTuple a its.toArray from p) ?_
  refine ⟨s1.heap.objs.size,[s1.heap.objs.size],_,_,H1,rfl,I1.kept (t':=s1.toks) fun b o e=>Heap.get?_push_of_some _ e,NJ a _,⟨_,Heap.get?_push_size _ rfl,rfl,rfl⟩,fun b hb=>?_,q⟩
  have e:b = s1.heap.objs.size:=by simpa using hb
  subst e
  exact I1.fpOk (Nat.le_refl _) (I1.hok.fresh (Nat.le_refl _))
theorem FY {tg:Expr} (h:JE X e m):JI X tg e (Dr m):=GG (U5 h) fun _ _ _ h=>Vr h
theorem Vs {K:Frag} {σ:L2.St} {H:Hp} {R:It→Hp→Prop} (h:tI K (IE m) σ H R):V1 (tE K m) σ H R:=by
 obtain ⟨ρ,O,fp,rl,ds,n,ρ',e,k⟩:=h
 simp only [IE,bind_eq_some_iff] at e
 obtain ⟨⟨r,ρ1⟩,e1,e2⟩:=e
 dsimp only at e2
 split at e2
 ·rename_i z
  split at e2
  ·rename_i hz
   cases e2
   refine ⟨ρ,O,fp,rl,_,_,e1,fun v H1 yy=>?_⟩
   obtain ⟨L,fp1,p,q⟩:=yy
   have q':Aw K (NN fp1 (ad O L)) H1 v (.fz (.str z)) L:=q
   rw [Aw] at q'
   obtain ⟨rfl,q'⟩:=q'
   cases q'
   refine ⟨z,rfl,k _ _ ⟨.val (.fz .non),.non,.fz .non,[],fp1,p,D9 (K:=K) .non,rfl,rfl,fun N H2 _=>?_⟩⟩
   have hl:(B7 z).length = z.cps.size:=by simp [B7]
   refine ⟨fun i hi=>by show i < z.cps.size; lia,fun i hi=>by show z.cps.size≤i; lia,fun i v H' d y e=>?_⟩
   obtain ⟨rfl,c,hc,rfl⟩:=y
   refine ⟨fun _ _ z=>z,?_⟩
   have:d = .str ⟨#[c]⟩:=by
    simp only [B7,List.getElem?_map] at e
    have hc':z.cps.toList[i]? = some c:=by simpa using hc
    rw [hc'] at e
    cases e
    rfl
   subst this
   exact .str _ (by show 1≤sizeLine; decide)
  ·cases e2
 ·cases e2
theorem MU {tg:Expr} (h:JE X e m):JI X tg e (IE m):=GG (U6 h) fun _ _ _ h=>Vs h
theorem Ou {K:Frag} {σ:L2.St} {H:Hp} {R:It→Hp→Prop} (h:tI K (Bw m) σ H R):P0 (B0 (tE K m) FF) σ H R:=by
 obtain ⟨ρ,O,fp,rl,ds,n,ρ',e,k⟩:=h
 simp only [Bw,bind_eq_some_iff] at e
 obtain ⟨⟨r,ρ1⟩,e1,e2⟩:=e
 dsimp only at e2
 split at e2
 ·rename_i j
  split at e2
  ·rename_i hz
   cases e2
   refine ⟨ρ,O,fp,rl,_,_,e1,fun v H1 yy=>?_⟩
   obtain ⟨L,fp1,p,q⟩:=yy
   have q':Aw K (NN fp1 (ad O L)) H1 v (.fz (.int j)) L:=q
   rw [Aw] at q'
   obtain ⟨rfl,q'⟩:=q'
   cases q'
   refine ⟨j,rfl,hz.1,hz.2,k _ _ ⟨.val (.fz .non),.non,.fz .non,[],fp1,p,D9 (K:=K) .non,rfl,rfl,fun N H2 _=>?_⟩⟩
   have hl:(DU 0 j.toNat).length = j.toNat:=by simp [DU]
   refine ⟨fun i hi=>by show i < j.toNat; lia,fun i hi=>by show j.toNat≤i; lia,fun i v H' d y e=>?_⟩
   obtain ⟨rfl,rfl⟩:=y
   refine ⟨fun _ _ z=>z,?_⟩
   have hi:i < j.toNat:=by have:=Az e; lia
   simp only [DU,List.getElem?_map,List.getElem?_range hi,Option.map_some,Option.some.injEq] at e
   subst e
   exact .int _
  ·cases e2
 ·cases e2
theorem D3 {tg:Expr} (hg:Gl X "range") (hm:X.mg "range" = none) (hs:starEach [a] X.env = [(false,eval a X.env)]) (h:JE X a m):JI X tg (.Call (.Name "range" p) [a] [] pos) (Bw m):=GG (O8 hg hm (Cp h Eg hs) hs) fun _ _ _ h=>Ou h
theorem Ba:JSs X [] Bj:=Fi Su fun _ _ _ h=>S0 h
theorem An (h:JS X s w1):JSs X [s] w1:=Sv h
theorem Ak (h:JS X s w1) (t:JSs X ss w2):JSs X (s :: ss) (AF w1 w2):=Fi (Ir h t) fun _ _ _ h=>VB h
theorem Js:JSs X ss Fo:=fun _ _ _ _ _ _ y=>by
 obtain ⟨_,_,_,_,_,h,_⟩:=y
 cases h
theorem Lx:JS X s Fo:=fun _ _ _ _ _ _ y=>by
 obtain ⟨_,_,_,_,_,h,_⟩:=y
 cases h
theorem Qo (hs:swapsWith e none pos.line X.env = pure false) (h:JE X e m):JS X (.Expr e pos) (J2 m):=Bz (GH h hs) fun _ _ _ h=>Vw h
theorem AH (h:JE X e m):JS X (.Return (some e) pos) (retS m):=Bz (QR h) fun _ _ _ h=>VA h
theorem B4 {st st':List Stmt} (hc:JT X c mt) (ha:JSs X st w1) (hb:JSs X st' w2):JS X (.If c st st' pos) (ifS mt w1 w2):=Bz (Og hc ha hb) fun _ _ _ h=>Wy h
theorem AK (i:Nat) (hN:X.N.Nodup) (hi:X.N[i]? = some x) (hx:Loc X.env.scope x) (hf:X.fn x = true) (hs:swapsWith e (some (.Name x pos')) pos.line X.env = pure false) (h:JE X e m):JS X (.Assign [.Name x pos'] e pos) (AL i m):=
 Bz (U8 hN hi hx h hs (.inl hf)) fun _ _ _ h=>NH h
theorem FZ {tg iter:Expr} {st:List Stmt} {is:List Nat} {one:Bool} (hp:PassesOwn (model X.prog X.w) X.A X.env X.xe) (hc:X.calm = true) (hi:JI X tg iter mi) (hg:PG X tg (OI X.K is one)) (hb:JSs X st w1)
  (hs:∀ y,foldedSetIterable iter X.env y = pure y):JS X (.For tg iter st [] pos) (FD is one mi w1):=Bz (U7 hp hc hi hg hb hs) fun _ _ _ h=>Vy h
theorem G6 (i:Nat) (hN:X.N.Nodup) (hi:X.N[i]? = some x) (hx:Loc X.env.scope x) (hf:X.fn x = true):PG X (.Name x pos) (OI X.K [i] true):=Oe hN hi hx (.inl hf)
theorem Of:PGs X [] (E8 []):=Sm
theorem Fg (i:Nat) {is:List Nat} (hN:X.N.Nodup) (hi:X.N[i]? = some x) (hx:Loc X.env.scope x) (hf:X.fn x = true) (t:PGs X es (E8 is))
  (hs:(assignEach (.Name x pos :: es) X.env).map (·.2) = assign (.Name x pos) X.env :: (assignEach es X.env).map (·.2)):PGs X (.Name x pos :: es) (E8 (i :: is)):=QN (Oe hN hi hx (.inl hf)) t hs
theorem Od {is:List Nat} {k:Nat} (hc:X.calm = true) (h:PGs X es (E8 is)) (hn:(assignEach es X.env).length = is.length) (hst:(assignEach es X.env).findIdx? (·.1) = none):PG X (.Tuple es k pos) (OI X.K is false):=U4 hc h hn hst
theorem Uh {tg:Expr} {is:List Nat} (hg:PG X tg (OI X.K is false)) (hs:swapsWithSole [tg] e pos.line X.env = pure false) (hw:swappedStores [tg] e X.env = pure none) (h1:(assignEach [tg] X.env).map (·.2) = [assign tg X.env]) (h:JE X e m) :
  JS X (.Assign [tg] e pos) (K6 is m):=Bz (QP h hg hs hw h1) fun _ _ _ h=>VC h
end
end J
end
section
namespace L2
open PySem PySem.Spec PyProof.Rows
section
variable {P:Program} {w:World} {H:Hp} {s:Shared} {N N':Addr→Prop}
theorem L0 (hok:HOk P w H s.heap) {A:Around} {n:Nat} {x y:V} {d e:D} {v u:Value} (r:RepA N H x d) (q:RepA N' H y e) (rx:RelV x v) (ry:RelV y u) (hs:Sh n d) (hu:A.units + n < cLine):SeqAt.RcNeAt A s v u (!eqD d e):=by
 cases r with
 | non =>
  cases rx
  cases q with
  | non=>cases ry; exact SeqAt.RcNeAt.none_none
  | bl b=>cases ry; exact SeqAt.RcNeAt.none_bool b
  | int b=>obtain ⟨t,rfl⟩:=ry; exact SeqAt.RcNeAt.none_int b t
  | str b=>obtain ⟨t,rfl⟩:=ry; exact SeqAt.RcNeAt.none_str b t
  | lst h=>cases ry; obtain ⟨its,_,hl⟩:=A3 hok h; exact SeqAt.RcNeAt.none_list hl (lt0 hu)
  | tup h=>cases ry; obtain ⟨its,_,hl⟩:=Be hok h; exact SeqAt.RcNeAt.none_tuple hl (lt0 hu)
 | bl a =>
  cases rx
  cases q with
  | non=>cases ry; exact SeqAt.RcNeAt.bool_none a
  | bl b=>cases ry; exact SeqAt.RcNeAt.bool_bool a b
  | int b=>obtain ⟨t,rfl⟩:=ry; exact SeqAt.RcNeAt.bool_int a b t
  | str b=>obtain ⟨t,rfl⟩:=ry; exact SeqAt.RcNeAt.bool_str a b t
  | lst h=>cases ry; obtain ⟨its,_,hl⟩:=A3 hok h; exact SeqAt.RcNeAt.bool_list a hl (lt0 hu)
  | tup h=>cases ry; obtain ⟨its,_,hl⟩:=Be hok h; exact SeqAt.RcNeAt.bool_tuple a hl (lt0 hu)
 | int a =>
  obtain ⟨t',rfl⟩:=rx
  cases q with
  | non=>cases ry; exact SeqAt.RcNeAt.int_none a t'
  | bl b=>cases ry; exact SeqAt.RcNeAt.int_bool a t' b
  | int b=>obtain ⟨t,rfl⟩:=ry; exact SeqAt.RcNeAt.int_int a t' b t
  | str b=>obtain ⟨t,rfl⟩:=ry; exact SeqAt.RcNeAt.int_str a t' b t
  | lst h=>cases ry; obtain ⟨its,_,hl⟩:=A3 hok h; exact SeqAt.RcNeAt.int_list a t' hl (lt0 hu)
  | tup h=>cases ry; obtain ⟨its,_,hl⟩:=Be hok h; exact SeqAt.RcNeAt.int_tuple a t' hl (lt0 hu)
 | str a =>
  obtain ⟨t',rfl⟩:=rx
  cases q with
  | non=>cases ry; exact SeqAt.RcNeAt.str_none a t'
  | bl b=>cases ry; exact SeqAt.RcNeAt.str_bool a t' b
  | int b=>obtain ⟨t,rfl⟩:=ry; exact SeqAt.RcNeAt.str_int a t' b t
  | str b=>obtain ⟨t,rfl⟩:=ry; exact SeqAt.RcNeAt.str_str a t' b t
  | lst h=>cases ry; obtain ⟨its,_,hl⟩:=A3 hok h; exact SeqAt.RcNeAt.str_list a t' hl (lt0 hu)
  | tup h=>cases ry; obtain ⟨its,_,hl⟩:=Be hok h; exact SeqAt.RcNeAt.str_tuple a t' hl (lt0 hu)
 | @lst a vs ds h hz hn hl hr =>
  cases rx
  obtain ⟨its,rv,hil⟩:=A3 hok h
  cases hs with
  | @lst n _ hs =>
   cases q with
   | non=>cases ry; exact SeqAt.RcNeAt.list_none hil (lt0 hu)
   | bl b=>cases ry; exact SeqAt.RcNeAt.list_bool b hil (lt0 hu)
   | int b=>obtain ⟨t,rfl⟩:=ry; exact SeqAt.RcNeAt.list_int b t hil (lt0 hu)
   | str b=>obtain ⟨t,rfl⟩:=ry; exact SeqAt.RcNeAt.list_str b t hil (lt0 hu)
   | @lst a' vs' es h' hz' hn' hl' hr' =>
    cases ry
    obtain ⟨its',rv',hil'⟩:=A3 hok h'
    have l1:=rv.length
    have l2:=rv'.length
    rw [Gn]
    by_cases hlen:ds.length = es.length
    ·rw [Df hlen,show ds.length = its.toArray.size by simp; lia]
     refine SeqAt.RcNeAt.lists hil hil' (by simp; lia) (lt0 hu) (Er rv rv' hl hl' fun i v d v' e u u' e1 e2 e3 e4 ru ru'=>?_)
     exact HU hok (hr i v d e1 e2) (hr' i v' e e3 e4) ru ru' (hs d (List.mem_of_getElem? e2)) (lt1 hu)
    ·have:DV ds es = false:=by
      cases q:DV ds es with
      | false=>rfl
      | true=>exact absurd (Dg q) hlen
     rw [this]
     exact SeqAt.RcNeAt.lists_lengths hil hil' (by simp; lia) (lt0 hu)
   | tup h' =>
    cases ry
    obtain ⟨its',_,hl'⟩:=Be hok h'
    exact SeqAt.RcNeAt.list_tuple hil hl' (lt0 hu)
 | @tup a vs ds h hz hl hr =>
  cases rx
  obtain ⟨its,rv,hil⟩:=Be hok h
  cases hs with
  | @tup n _ hs =>
   cases q with
   | non=>cases ry; exact SeqAt.RcNeAt.tuple_none hil (lt0 hu)
   | bl b=>cases ry; exact SeqAt.RcNeAt.tuple_bool b hil (lt0 hu)
   | int b=>obtain ⟨t,rfl⟩:=ry; exact SeqAt.RcNeAt.tuple_int b t hil (lt0 hu)
   | str b=>obtain ⟨t,rfl⟩:=ry; exact SeqAt.RcNeAt.tuple_str b t hil (lt0 hu)
   | @tup a' vs' es h' hz' hl' hr' =>
    cases ry
    obtain ⟨its',rv',hil'⟩:=Be hok h'
    have l1:=rv.length
    have l2:=rv'.length
    have q:=SeqAt.RcNeAt.tuples (A:=A) hil hil' (lt0 hu) (Er rv rv' hl hl' fun i v d v' e u u' e1 e2 e3 e4 ru ru'=>HU hok (hr i v d e1 e2) (hr' i v' e e3 e4) ru ru' (hs d (List.mem_of_getElem? e2)) (lt1 hu))
    rw [FH]
    by_cases hlen:ds.length = es.length
    ·have e1:(its.toArray.size == its'.toArray.size) = true:=by simp; lia
     have e2:min its.toArray.size its'.toArray.size = ds.length:=by simp; lia
     rw [e1,e2,Bool.and_true,← Df hlen] at q
     exact q
    ·have e1:(its.toArray.size == its'.toArray.size) = false:=by simp; lia
     have e3:DV ds es = false:=by
      cases q:DV ds es with
      | false=>rfl
      | true=>exact absurd (Dg q) hlen
     rw [e1,Bool.and_false] at q
     rw [e3]
     exact q
   | lst h' =>
    cases ry
    obtain ⟨its',_,hl'⟩:=A3 hok h'
    exact SeqAt.RcNeAt.tuple_list hil hl' (lt0 hu)
end
section
variable {X:Cx} {k:Nat}
noncomputable def Vb:R2:=fun x y H Q=>∃ d e,Rep H x d∧Rep H y e∧Sh 16 d∧Q (.bl (!eqD d e)) H
theorem Ng (hr:Room k X.A):OpR X (compareOp .NotEq) Vb:=by
 intro pins s σ H x y v u Q I rx ry h
 obtain ⟨d,e,r1,r2,hs,q⟩:=h
 exact EqBoolInt.of_rcne (L0 I.hok r1 r2 rx ry hs (by have:=hr.units; lia)) ⟨.bl _,H,I,rfl,q⟩
end
end L2
namespace J
open PySem PySem.Spec PyProof.Rows L2
section
variable {K:Frag} {N:Addr→Prop} {H H':Hp} {L:List Addr} {v:V} {a:A}
theorem GI {d:D}:Aw K N H v (.fz d) L↔L = []∧RepA N H v d:=by rw [Aw]
theorem Bc {i:Int} (h:Aw K N H v (.fz (.int i)) L):v = .int i:=by
 obtain ⟨_,h⟩:=GI.mp h
 cases h; rfl
theorem C5 {z:Str} (h:Aw K N H v (.fz (.str z)) L):v = .str z∧z.length≤sizeLine:=by
 obtain ⟨_,h⟩:=GI.mp h
 cases h with
 | str z hz=>exact ⟨rfl,hz⟩
theorem G4 {d:D} (h:RepA N H v d):La K N H (.fz d) v H:=⟨fun _ _ z=>z,[],D9 (K:=K) (EW (fun p z=>z.elim id fun q=>by simp at q) h),List.nodup_nil,fun _ h=>by simp at h⟩
theorem CO {i:Int}:La K N H (.fz (.int i)) (.int i) H:=G4 (.int i)
theorem C3 {b:Bool}:La K N H (.fz (.bl b)) (.bl b) H:=G4 (.bl b)
theorem HF {z:Str} (h:z.length≤sizeLine):La K N H (.fz (.str z)) (.str z) H:=G4 (.str z h)
theorem Sd {p:Addr} {vs:List V} {ds:List D} (hp:H p = none) (hz:vs.length≤sizeLine) (q:AB N H vs ds):La K N H (.lst (ds.map A.fz)) (.ref p) (upd H p (.lst vs)):=by
 have sm:=DF (o:=.lst vs) hp
 refine ⟨sm,[p],?_,by simp,fun b hb=>by simp at hb; rw [hb]; exact hp⟩
 rw [Aw]
 refine ⟨p,vs,[],rfl,rfl,AQ,hz,As.of (q.tr (M:=fun _=>False) (fun _ z=>z.elim) (Ek.kept sm) fun b z=>?_)⟩
 rcases z with z | z
 ·exact .inl z
 ·simp at z; subst z; exact .inr hp
noncomputable def fzU:A→Option D
 | .fz d=>some d
 | .lst _ | .tup _ | .scr _ | .dic _ | .dct _ | .opq _ _=>none
noncomputable def EK:D→Option Int
 | .int i=>some i
 | .non | .bl _ | .str _ | .lst _ | .tup _=>none
noncomputable def Fj:D→Option Str
 | .str z=>some z
 | .non | .bl _ | .int _ | .lst _ | .tup _=>none
noncomputable def BJ (a:A):Option Int:=(fzU a).bind EK
noncomputable def CP (a:A):Option Str:=(fzU a).bind Fj
theorem J3 {a:A} {d:D} (h:fzU a = some d):a = .fz d:=by
 cases a with
 | fz d'=>cases h; rfl
 | _=>cases h
theorem A9 {a:A} {i:Int} (h:BJ a = some i):a = .fz (.int i):=by
 obtain ⟨d,h1,h2⟩:=bind_eq_some_iff.mp h
 cases J3 h1
 cases d with
 | int j=>cases h2; rfl
 | _=>cases h2
theorem CQ {a:A} {z:Str} (h:CP a = some z):a = .fz (.str z):=by
 obtain ⟨d,h1,h2⟩:=bind_eq_some_iff.mp h
 cases J3 h1
 cases d with
 | str j=>cases h2; rfl
 | _=>cases h2
noncomputable def on1 (f:A→Option A):List A→Option A
 | []=>none
 | [a]=>f a
 | _ :: _ :: _=>none
noncomputable def on2 (f:A→A→Option A):List A→Option A
 | []=>none
 | [_]=>none
 | [a,b]=>f a b
 | _ :: _ :: _ :: _=>none
noncomputable def on3 (f:A→A→A→Option A):List A→Option A
 | []=>none
 | [_]=>none
 | [_,_]=>none
 | [a,b,c]=>f a b c
 | _ :: _ :: _ :: _ :: _=>none
theorem Ef {f:A→Option A} {as:List A} {c:A} (h:on1 f as = some c):∃ a,as = [a]∧f a = some c:=by
 cases as with
 | nil=>cases h
 | cons a as=>cases as with
  | nil=>exact ⟨a,rfl,h⟩
  | cons b as=>cases h
theorem Cv {f:A→A→Option A} {as:List A} {c:A} (h:on2 f as = some c):∃ a b,as = [a,b]∧f a b = some c:=by
 cases as with
 | nil=>cases h
 | cons a as=>cases as with
  | nil=>cases h
  | cons b as=>cases as with
   | nil=>exact ⟨a,b,rfl,h⟩
   | cons b as=>cases h
noncomputable def FR:A→Option (List (Key × D))
 | .dic kvs=>some kvs
 | .fz _ | .lst _ | .tup _ | .scr _ | .dct _ | .opq _ _=>none
theorem RG {a:A} {kvs:List (Key × D)} (h:FR a = some kvs):a = .dic kvs:=by
 cases a with
 | dic k=>cases h; rfl
 | _=>cases h
noncomputable def GZ:A→Option Unit
 | .fz .non=>some ()
 | .fz (.bl _) | .fz (.int _) | .fz (.str _) | .fz (.lst _) | .fz (.tup _) | .lst _ | .tup _ | .scr _ | .dic _ | .dct _ | .opq _ _=>none
noncomputable def FT (C:Int→Int→Bool) (g:Int→Int→Int):List A→Option A:=on2 fun a b=>(BJ a).bind fun i=>(BJ b).bind fun j=>if C i j then some (.fz (.int (g i j))) else none
noncomputable def Lu (g:Int→Int→Bool):List A→Option A:=on2 fun q1 q2=>(BJ q1).bind fun i=>(BJ q2).bind fun j=>some (.fz (.bl (g i j)))
theorem cons_of {xs:List V} {a:A} {as:List A} (h:JF K N H xs (a :: as)):∃ x t L1,xs = x :: t∧Aw K N H x a L1∧JF K N H t as:=by
 cases xs with
 | nil=>cases h
 | cons x t =>
  obtain ⟨⟨L,h⟩,q⟩:=h
  exact ⟨x,t,L,rfl,h,q⟩
theorem Dq {xs:List V} {a:A} (h:JF K N H xs [a]):∃ x L1,xs = [x]∧Aw K N H x a L1:=by
 obtain ⟨x,t,L1,rfl,h1,q⟩:=cons_of h
 cases t with
 | nil=>exact ⟨x,L1,rfl,h1⟩
 | cons y t=>cases q
theorem Bx {xs:List V} {a b:A} (h:JF K N H xs [a,b]):∃ x y L1 L2,xs = [x,y]∧Aw K N H x a L1∧Aw K N H y b L2:=by
 obtain ⟨x,t,L1,rfl,h1,q⟩:=cons_of h
 obtain ⟨y,L2,rfl,h2⟩:=Dq q
 exact ⟨x,y,L1,L2,rfl,h1,h2⟩
theorem GB {C:Int→Int→Bool} {C':Int→Int→Prop} {g:Int→Int→Int} (hC:∀ i j,C i j = true→C' i j):OpN K (FT C g) (r2L (rI C' fun i j=>.int (g i j))):=by
 intro N H xs as b Q hs e k
 replace e:=Cv e
 obtain ⟨a1,b1,rfl,e⟩:=e
 simp only [bind_eq_some_iff] at e
 obtain ⟨i,ei,j,ej,e⟩:=e
 cases A9 ei
 cases A9 ej
 split at e
 ·rename_i hc
  cases e
  obtain ⟨x,y,L1,L2,rfl,h1,h2⟩:=Bx hs
  cases Bc h1
  cases Bc h2
  exact ⟨_,_,rfl,i,j,rfl,rfl,hC i j hc,k _ _ CO⟩
 ·cases e
theorem Ie {g:Int→Int→Int}:OpN K (FT (fun _ _=>true) g) (r2L (rI0 fun i j=>.int (g i j))):=by
 intro N H xs as b Q hs e k
 replace e:=Cv e
 obtain ⟨a1,b1,rfl,e⟩:=e
 simp only [bind_eq_some_iff] at e
 obtain ⟨i,ei,j,ej,e⟩:=e
 cases A9 ei
 cases A9 ej
 rw [if_pos trivial] at e
 cases e
 obtain ⟨x,y,L1,L2,rfl,h1,h2⟩:=Bx hs
 cases Bc h1
 cases Bc h2
 exact ⟨_,_,rfl,i,j,rfl,rfl,k _ _ CO⟩
theorem LN {g:Int→Int→Bool}:OpN K (Lu g) (r2L (rI0 fun i j=>.bl (g i j))):=by
 intro N H xs as b Q hs e k
 replace e:=Cv e
 obtain ⟨q1,q2,rfl,e⟩:=e
 replace e:=bind_eq_some_iff.mp e
 obtain ⟨i,eq1,e⟩:=e
 cases A9 eq1
 clear eq1
 replace e:=bind_eq_some_iff.mp e
 obtain ⟨j,eq2,e⟩:=e
 cases A9 eq2
 clear eq2
 cases e
 obtain ⟨x,y,L1,L2,rfl,h1,h2⟩:=Bx hs
 cases Bc h1
 cases Bc h2
 exact ⟨_,_,rfl,i,j,rfl,rfl,k _ _ C3⟩
noncomputable def C6:=FT (fun _ _=>true) fun i j=>i - j
noncomputable def Lo:=FT (fun _ j=>decide (0 < j∧j < 1099511627776)) fun i j=>i / j
noncomputable def LF:=FT (fun _ j=>decide (0 < j)) fun i j=>i % j
noncomputable def Sr:=FT (fun i j=>decide (0≤j∧j≤1000000∧i.natAbs < 2 ^ 64)) fun i j=>i ^ j.toNat
noncomputable def Ez:=FT (fun i j=>decide (0≤j∧j≤1000000∧i.natAbs < 2 ^ 64)) fun i j=>i * 2 ^ j.toNat
noncomputable def Hu:=FT (fun _ j=>decide (0≤j)) fun i j=>i / 2 ^ j.toNat
noncomputable def Gg:=FT (fun _ _=>true) fun i j=>Builtin.bitAnd i j
noncomputable def Mw:=FT (fun _ _=>true) fun i j=>Builtin.bitOr i j
noncomputable def gtA:=Lu fun i j=>decide (j < i)
noncomputable def geA:=Lu fun i j=>decide (j≤i)
theorem N6:OpN K Lo (r2L (rI Tq fun i j=>.int (i / j))):=GB fun i j h=>by simpa [Tq] using h
theorem Ih:OpN K LF (r2L (rI (fun _ j=>0 < j) fun i j=>.int (i % j))):=GB fun i j h=>by simpa using h
theorem UE:OpN K Sr (r2L (rI OA fun i j=>.int (i ^ j.toNat))):=GB fun i j h=>by simpa [OA] using h
theorem Nb:OpN K Ez (r2L (rI OA fun i j=>.int (i * 2 ^ j.toNat))):=GB fun i j h=>by simpa [OA] using h
theorem UG:OpN K Hu (r2L (rI (fun _ j=>0≤j) fun i j=>.int (i / 2 ^ j.toNat))):=GB fun i j h=>by simpa using h
noncomputable def DR:A→Option (List D)
 | .fz (.lst ds)=>some ds
 | .lst as=>fzs as
 | .fz .non | .fz (.bl _) | .fz (.int _) | .fz (.str _) | .fz (.tup _) | .tup _ | .scr _ | .dic _ | .dct _ | .opq _ _=>none
theorem Dn {ds:List D} (q:Aw K N H v a L) (e:DR a = some ds):∃ p vs,v = .ref p∧H p = some (.lst vs)∧vs.length≤sizeLine∧AB N H vs ds:=by
 cases a with
 | fz d =>
  obtain ⟨_,q⟩:=GI.mp q
  cases d with
  | lst es =>
   simp only [DR,Option.some.injEq] at e
   subst e
   cases q with
   | lst h hz hn hl hr=>exact ⟨_,_,rfl,h,hz,AB.mk hl hr⟩
  | _=>simp [DR] at e
 | lst as =>
  simp only [DR] at e
  rw [Aw] at q
  obtain ⟨p,vs,L',rfl,rfl,h,hz,hs⟩:=q
  exact ⟨p,vs,rfl,h,hz,(hs.fzs e).2⟩
 | _=>simp [DR] at e
noncomputable def A4:List A→Option A:=on2 fun a b=>((BJ a).bind fun i=>(BJ b).map fun j=>A.fz (.int (i + j))).or (((CP a).bind fun x=>(CP b).bind fun y=>if x.length + y.length≤LIM then some (.fz (.str (x ++ y))) else none).or ((DR a).bind fun xs=>(DR b).bind fun ys=>if xs.length + ys.length≤LIM then some (.lst ((xs ++ ys).map A.fz)) else none))
theorem Mh (x y:Str):(x ++ y).length = x.length + y.length:=strLen_append x y
theorem A6:OpN K A4 (r2L fun x y H Q=>(rI0 (fun i j=>.int (i + j))) x y H Q∨(∃ i j,x = .str i∧y = .str j∧i.length + j.length≤sizeLine∧Q (.str (i ++ j)) H)∨Va x y H Q):=by
 intro N H xs as b Q hs e k
 replace e:=Cv e
 obtain ⟨a,b,rfl,e⟩:=e
 rcases Option.or_eq_some_iff.mp e with e | ⟨_,e⟩
 ·simp only [bind_eq_some_iff,map_eq_some_iff] at e
  obtain ⟨i,ei,j,ej,rfl⟩:=e
  cases A9 ei
  cases A9 ej
  obtain ⟨x,y,L1,L2,rfl,h1,h2⟩:=Bx hs
  cases Bc h1
  cases Bc h2
  exact ⟨_,_,rfl,.inl ⟨i,j,rfl,rfl,k _ _ CO⟩⟩
 ·rcases Option.or_eq_some_iff.mp e with e | ⟨_,e⟩
  ·simp only [bind_eq_some_iff] at e
   obtain ⟨i,ei,j,ej,e9⟩:=e
   cases CQ ei
   cases CQ ej
   split at e9
   ·rename_i hz
    cases e9
    obtain ⟨x,y,L1,L2,rfl,h1,h2⟩:=Bx hs
    obtain ⟨rfl,_⟩:=C5 h1
    obtain ⟨rfl,_⟩:=C5 h2
    exact ⟨_,_,rfl,.inr (.inl ⟨i,j,rfl,rfl,hz,k _ _ (HF (by rw [Mh]; exact hz))⟩)⟩
   ·cases e9
  ·simp only [bind_eq_some_iff] at e
   obtain ⟨ds,e1,es,e2,e3⟩:=e
   split at e3
   ·rename_i hz
    cases e3
    obtain ⟨x,y,L1,L2,rfl,h1,h2⟩:=Bx hs
    obtain ⟨p,vs,rfl,hp,z1,q1⟩:=Dn h1 e1
    obtain ⟨p',vs',rfl,hp',z2,q2⟩:=Dn h2 e2
    have hl:(vs ++ vs').length≤sizeLine:=by rw [List.length_append,q1.len,q2.len]; exact hz
    exact ⟨_,_,rfl,.inr (.inr ⟨p,p',vs,vs',rfl,rfl,hp,hp',by rw [List.length_append] at hl; exact hl,fun q hq=>k _ _ (Sd hq hl (Hb q1 q2))⟩)⟩
   ·cases e3
theorem AW {X:Cx}:OpR X (binaryOp .Add) (fun x y H Q=>(rI0 (fun i j=>.int (i + j))) x y H Q∨(∃ i j,x = .str i∧y = .str j∧i.length + j.length≤sizeLine∧Q (.str (i ++ j)) H)∨Va x y H Q):=UH.or (Nd.or UJ)
noncomputable def Kh:List A→Option A:=on2 fun q1 q2=>(BJ q1).bind fun i=>(BJ q2).bind fun j=>if (-(2 ^ 64) < i∧i < 2 ^ 64)∨(-(2 ^ 64) < j∧j < 2 ^ 64) then some (.fz (.int (i * j))) else none
theorem Kp:OpN K Kh (r2L (rI Rt fun i j=>.int (i * j))):=by
 intro N H xs as b Q hs e k
 replace e:=Cv e
 obtain ⟨q1,q2,rfl,e⟩:=e
 replace e:=bind_eq_some_iff.mp e
 obtain ⟨i,eq1,e⟩:=e
 cases A9 eq1
 clear eq1
 replace e:=bind_eq_some_iff.mp e
 obtain ⟨j,eq2,e⟩:=e
 cases A9 eq2
 clear eq2
 split at e
 ·rename_i hc
  cases e
  obtain ⟨x,y,L1,L2,rfl,h1,h2⟩:=Bx hs
  cases Bc h1
  cases Bc h2
  exact ⟨_,_,rfl,i,j,rfl,rfl,hc,k _ _ CO⟩
 ·cases e
noncomputable def GX:List A→Option A:=on1 fun q1=>(BJ q1).bind fun i=>some (.fz (.int (-i)))
theorem Kq:OpN K GX (r1L (rU fun i=>.int (-i))):=by
 intro N H xs as b Q hs e k
 replace e:=Ef e
 obtain ⟨q1,rfl,e⟩:=e
 replace e:=bind_eq_some_iff.mp e
 obtain ⟨i,eq1,e⟩:=e
 cases A9 eq1
 clear eq1
 cases e
 obtain ⟨x,L1,rfl,h1⟩:=Dq hs
 cases Bc h1
 exact ⟨_,rfl,i,rfl,k _ _ CO⟩
mutual
noncomputable def shB:Nat→D→Bool
 | _,.non=>true
 | _,.bl _=>true
 | _,.int _=>true
 | _,.str _=>true
 | 0,.lst _=>false
 | 0,.tup _=>false
 | n + 1,.lst ds=>NA n ds
 | n + 1,.tup ds=>NA n ds
noncomputable def NA:Nat→List D→Bool
 | _,[]=>true
 | n,d :: ds=>shB n d && NA n ds
end
mutual
theorem Nz:∀ {n:Nat} {d:D},shB n d = true→Sh n d
 | _,.non,_=>.non
 | _,.bl b,_=>.bl b
 | _,.int i,_=>.int i
 | _,.str x,_=>.str x
 | 0,.lst _,h=>by simp [shB] at h
 | 0,.tup _,h=>by simp [shB] at h
 | n + 1,.lst ds,h=>.lst (KI (by simpa [shB] using h))
 | n + 1,.tup ds,h=>.tup (KI (by simpa [shB] using h))
theorem KI:∀ {n:Nat} {ds:List D},NA n ds = true→∀ d∈ds,Sh n d
 | _,[],_,d,hd=>by simp at hd
 | n,e :: ds,h,d,hd=>by
  simp only [NA,Bool.and_eq_true] at h
  rcases List.mem_cons.mp hd with q | hd
  ·rw [q]; exact Nz h.1
  ·exact KI h.2 d hd
end
noncomputable def eqA:List A→Option A:=on2 fun a b=>(er a).bind fun d=>(er b).bind fun e=>if shB 16 d then some (.fz (.bl (eqD d e))) else none
noncomputable def neA:List A→Option A:=on2 fun a b=>(er a).bind fun d=>(er b).bind fun e=>if shB 16 d then some (.fz (.bl (!eqD d e))) else none
theorem Iw {d:D} (q:Aw K N H v a L) (e:er a = some d):Rep H v d:=(Aw.er q e).rep
theorem D6:OpN K eqA (r2L WO):=by
 intro N H xs as b Q hs e k
 replace e:=Cv e
 obtain ⟨a,b,rfl,e⟩:=e
 simp only [bind_eq_some_iff] at e
 obtain ⟨d,e1,d',e2,e3⟩:=e
 split at e3
 ·rename_i hz
  cases e3
  obtain ⟨x,y,L1,L2,rfl,h1,h2⟩:=Bx hs
  exact ⟨_,_,rfl,d,d',Iw h1 e1,Iw h2 e2,Nz hz,k _ _ C3⟩
 ·cases e3
theorem N8:OpN K neA (r2L Vb):=by
 intro N H xs as b Q hs e k
 replace e:=Cv e
 obtain ⟨a,b,rfl,e⟩:=e
 simp only [bind_eq_some_iff] at e
 obtain ⟨d,e1,d',e2,e3⟩:=e
 split at e3
 ·rename_i hz
  cases e3
  obtain ⟨x,y,L1,L2,rfl,h1,h2⟩:=Bx hs
  exact ⟨_,_,rfl,d,d',Iw h1 e1,Iw h2 e2,Nz hz,k _ _ C3⟩
 ·cases e3
noncomputable def ltA:List A→Option A:=on2 fun a b=>((BJ a).bind fun i=>(BJ b).map fun j=>A.fz (.bl (decide (i < j)))).or ((CP a).bind fun x=>(CP b).map fun y=>A.fz (.bl (decide (x.cps.toList < y.cps.toList))))
noncomputable def leA:List A→Option A:=on2 fun a b=>((BJ a).bind fun i=>(BJ b).map fun j=>A.fz (.bl (decide (i≤j)))).or ((CP a).bind fun x=>(CP b).map fun y=>A.fz (.bl (!decide (y.cps.toList < x.cps.toList))))
theorem N7:OpN K ltA (r2L Tj):=by
 intro N H xs as b Q hs e k
 replace e:=Cv e
 obtain ⟨a,b,rfl,e⟩:=e
 rcases Option.or_eq_some_iff.mp e with e | ⟨_,e⟩
 ·simp only [bind_eq_some_iff,map_eq_some_iff] at e
  obtain ⟨i,ei,j,ej,rfl⟩:=e
  cases A9 ei
  cases A9 ej
  obtain ⟨x,y,L1,L2,rfl,h1,h2⟩:=Bx hs
  cases Bc h1
  cases Bc h2
  exact ⟨_,_,rfl,.inl ⟨i,j,rfl,rfl,k _ _ C3⟩⟩
 ·simp only [bind_eq_some_iff,map_eq_some_iff] at e
  obtain ⟨i,ei,j,ej,rfl⟩:=e
  cases CQ ei
  cases CQ ej
  obtain ⟨x,y,L1,L2,rfl,h1,h2⟩:=Bx hs
  obtain ⟨rfl,_⟩:=C5 h1
  obtain ⟨rfl,_⟩:=C5 h2
  exact ⟨_,_,rfl,.inr ⟨i,j,rfl,rfl,k _ _ C3⟩⟩
theorem Ig:OpN K leA (r2L Ti):=by
 intro N H xs as b Q hs e k
 replace e:=Cv e
 obtain ⟨a,b,rfl,e⟩:=e
 rcases Option.or_eq_some_iff.mp e with e | ⟨_,e⟩
 ·simp only [bind_eq_some_iff,map_eq_some_iff] at e
  obtain ⟨i,ei,j,ej,rfl⟩:=e
  cases A9 ei
  cases A9 ej
  obtain ⟨x,y,L1,L2,rfl,h1,h2⟩:=Bx hs
  cases Bc h1
  cases Bc h2
  exact ⟨_,_,rfl,.inl ⟨i,j,rfl,rfl,k _ _ C3⟩⟩
 ·simp only [bind_eq_some_iff,map_eq_some_iff] at e
  obtain ⟨i,ei,j,ej,rfl⟩:=e
  cases CQ ei
  cases CQ ej
  obtain ⟨x,y,L1,L2,rfl,h1,h2⟩:=Bx hs
  obtain ⟨rfl,_⟩:=C5 h1
  obtain ⟨rfl,_⟩:=C5 h2
  exact ⟨_,_,rfl,.inr ⟨i,j,rfl,rfl,k _ _ C3⟩⟩
noncomputable def Cw:D→Bool
 | .lst _=>false
 | .tup _=>false
 | .non | .bl _ | .int _ | .str _=>true
theorem NZ {d:D} (r:RepA N H v d) (h:Cw d = true):FI v = true:=by
 cases r with
 | lst=>simp [Cw] at h
 | tup=>simp [Cw] at h
 | _=>rfl
theorem TF {x y:V} {d e:D} (r:RepA N H x d) (q:RepA N H y e) (hd:Cw d = true) (he:Cw e = true):eqV x y = eqD d e:=by
 cases r with
 | lst=>simp [Cw] at hd
 | tup=>simp [Cw] at hd
 | _ =>
  cases q with
  | lst=>simp [Cw] at he
  | tup=>simp [Cw] at he
  | _=>rfl
noncomputable def inD (d:D) (ds:List D):Bool:=ds.any fun e=>eqD e d
theorem P4 {x:V} {d:D} (r:RepA N H x d) (hd:Cw d = true):∀ {vs:List V} {ds:List D},AB N H vs ds→ds.all Cw = true→vs.all FI = true∧inV x vs = inD d ds
 | [],[],_,_=>⟨rfl,rfl⟩
 | [],_ :: _,q,_=>by simp only [AB] at q
 | _ :: _,[],q,_=>by simp only [AB] at q
 | v :: vs,e :: ds,q,h=>by
  simp only [List.all_cons,Bool.and_eq_true] at h
  obtain ⟨h1,h2⟩:=P4 r hd q.2 h.2
  refine ⟨by simp [NZ q.1 h.1,h1],?_⟩
  simp only [inV,inD,List.any_cons] at h2 ⊢
  rw [h2,TF q.1 r h.1 hd]
noncomputable def inA (neg:Bool):List A→Option A:=on2 fun a b=>((CP a).bind fun x=>(CP b).map fun y=>A.fz (.bl (if neg then !(!(Builtin.Str.occurrences y x 0 y.length 1).isEmpty) else !(Builtin.Str.occurrences y x 0 y.length 1).isEmpty))).or ((fzU a).bind fun d=>(Bh b).bind fun ds=>if Cw d && ds.all Cw then some (.fz (.bl (if neg then !inD d ds else inD d ds))) else none)
theorem LM (neg:Bool):OpN K (inA neg) (r2L fun x y H Q=>rIn K neg x y H Q∨∃ i j,x = .str i∧y = .str j∧Q (.bl (if neg then !(!(Builtin.Str.occurrences j i 0 j.length 1).isEmpty) else !(Builtin.Str.occurrences j i 0 j.length 1).isEmpty)) H):=by
 intro N H xs as b Q hs e k
 replace e:=Cv e
 obtain ⟨a,b,rfl,e⟩:=e
 rcases Option.or_eq_some_iff.mp e with e | ⟨_,e⟩
 ·simp only [bind_eq_some_iff,map_eq_some_iff] at e
  obtain ⟨i,ei,j,ej,rfl⟩:=e
  cases CQ ei
  cases CQ ej
  obtain ⟨x,y,L1,L2,rfl,h1,h2⟩:=Bx hs
  obtain ⟨rfl,_⟩:=C5 h1
  obtain ⟨rfl,_⟩:=C5 h2
  exact ⟨_,_,rfl,.inr ⟨i,j,rfl,rfl,k _ _ C3⟩⟩
 ·simp only [bind_eq_some_iff] at e
  obtain ⟨d,ed,ds,e1,e2⟩:=e
  cases J3 ed
  split at e2
  ·rename_i hz
   cases e2
   simp only [Bool.and_eq_true] at hz
   obtain ⟨x,y,L1,L2,rfl,h1,h2⟩:=Bx hs
   obtain ⟨_,h1⟩:=GI.mp h1
   obtain ⟨p,vs,rfl,hp,q⟩:=Gw h2 e1
   obtain ⟨f1,f2⟩:=P4 h1 hz.1 q hz.2
   refine ⟨_,_,rfl,.inl ⟨p,vs,rfl,hp,NZ h1 hz.1,f1,?_⟩⟩
   rw [f2]
   exact k _ _ C3
  ·cases e2
theorem Nf {X:Cx}:OpR X (compareOp .In) (fun x y H Q=>rIn X.K false x y H Q∨∃ i j,x = .str i∧y = .str j∧Q (.bl (if false = true then !(!(Builtin.Str.occurrences j i 0 j.length 1).isEmpty) else !(Builtin.Str.occurrences j i 0 j.length 1).isEmpty)) H):=O1.or O2
theorem Ju {X:Cx}:OpR X (compareOp .NotIn) (fun x y H Q=>rIn X.K true x y H Q∨∃ i j,x = .str i∧y = .str j∧Q (.bl (if true = true then !(!(Builtin.Str.occurrences j i 0 j.length 1).isEmpty) else !(Builtin.Str.occurrences j i 0 j.length 1).isEmpty)) H):=Ku.or Kv
noncomputable def ixA:List A→Option A:=on2 fun a b=>(BJ b).bind fun i=>((CP a).bind fun z=>(atI z.cps.toList i).map fun c=>A.fz (.str ⟨#[c]⟩)).or ((Bh a).bind fun ds=>(atI ds i).map A.fz)
theorem Tw {vs:List V} {ds:List D} {i:Int} {d:D} (q:AB N H vs ds) (e:atI ds i = some d):∃ v,atI vs i = some v∧RepA N H v d:=by
 unfold atI at e ⊢
 rw [q.len]
 simp only [bind_eq_some_iff] at e ⊢
 obtain ⟨j,e1,e2⟩:=e
 obtain ⟨v,hv⟩:=TB q (Az e2)
 exact ⟨v,⟨j,e1,hv⟩,q.get j v d hv e2⟩
theorem AY:OpN K ixA (r2L (rIx K)):=by
 intro N H xs as b Q hs e k
 replace e:=Cv e
 obtain ⟨a,b,rfl,e⟩:=e
 obtain ⟨i,ei,e8⟩:=bind_eq_some_iff.mp e
 cases A9 ei
 rcases Option.or_eq_some_iff.mp e8 with e | ⟨_,e⟩
 ·simp only [bind_eq_some_iff,map_eq_some_iff] at e
  obtain ⟨z,ez,c,e1,rfl⟩:=e
  cases CQ ez
  obtain ⟨x,y,L1,L2,rfl,h1,h2⟩:=Bx hs
  obtain ⟨rfl,hz⟩:=C5 h1
  cases Bc h2
  exact ⟨_,_,rfl,.inr (.inr ⟨z,i,c,rfl,rfl,hz,e1,k _ _ (HF (by show 1≤sizeLine; decide))⟩)⟩
 ·simp only [bind_eq_some_iff,map_eq_some_iff] at e
  obtain ⟨ds,e1,d,e2,rfl⟩:=e
  obtain ⟨x,y,L1,L2,rfl,h1,h2⟩:=Bx hs
  cases Bc h2
  obtain ⟨p,vs,rfl,hp,q⟩:=Gw h1 e1
  obtain ⟨v,hv,q2⟩:=Tw q e2
  rcases hp with hp | hp
  ·exact ⟨_,_,rfl,.inl ⟨p,vs,i,v,rfl,rfl,hp,hv,k _ _ (G4 q2)⟩⟩
  ·exact ⟨_,_,rfl,.inr (.inl ⟨p,vs,i,v,rfl,rfl,hp,hv,k _ _ (G4 q2)⟩)⟩
noncomputable def Cb:List A→Option A:=on1 fun a=>((CP a).map fun z=>A.fz (.int z.length)).or ((Bh a).map fun ds=>A.fz (.int ds.length))
theorem BP:OpN K Cb (Wm K):=by
 intro N H xs as b Q hs e k
 replace e:=Ef e
 obtain ⟨a,rfl,e⟩:=e
 rcases Option.or_eq_some_iff.mp e with e | ⟨_,e⟩
 ·obtain ⟨z,ez,rfl⟩:=map_eq_some_iff.mp e
  cases CQ ez
  obtain ⟨x,L1,rfl,h1⟩:=Dq hs
  obtain ⟨rfl,hz⟩:=C5 h1
  exact .inr ⟨z,rfl,hz,k _ _ CO⟩
 ·obtain ⟨ds,e1,rfl⟩:=map_eq_some_iff.mp e
  obtain ⟨x,L1,rfl,h1⟩:=Dq hs
  obtain ⟨p,vs,rfl,hp,q⟩:=Gw h1 e1
  refine .inl ⟨p,vs,rfl,hp,?_⟩
  rw [q.len]
  exact k _ _ CO
theorem A1 {X:Cx}:Cc X (.builtin "len") (Wm X.K):=JL.or JM
noncomputable def Pu:List A→Option A:=on1 fun q1=>(BJ q1).bind fun i=>some (.fz (.int (if i < 0 then -i else i)))
theorem QC:OpN K Pu (fun xs H Q=>∃ i,xs = [.int i]∧Q (.int (if i < 0 then -i else i)) H):=by
 intro N H xs as b Q hs e k
 replace e:=Ef e
 obtain ⟨q1,rfl,e⟩:=e
 replace e:=bind_eq_some_iff.mp e
 obtain ⟨i,eq1,e⟩:=e
 cases A9 eq1
 clear eq1
 cases e
 obtain ⟨x,L1,rfl,h1⟩:=Dq hs
 cases Bc h1
 exact ⟨i,rfl,k _ _ CO⟩
noncomputable def Uq:List A→Option A:=on2 fun q1 q2=>(BJ q1).bind fun i=>(BJ q2).bind fun j=>some (.fz (.int (if j > i then j else i)))
noncomputable def Ur:List A→Option A:=on2 fun q1 q2=>(BJ q1).bind fun i=>(BJ q2).bind fun j=>some (.fz (.int (if j < i then j else i)))
theorem UC:OpN K Uq (fun xs H Q=>∃ i j,xs = [.int i,.int j]∧Q (.int (if j > i then j else i)) H):=by
 intro N H xs as b Q hs e k
 replace e:=Cv e
 obtain ⟨q1,q2,rfl,e⟩:=e
 replace e:=bind_eq_some_iff.mp e
 obtain ⟨i,eq1,e⟩:=e
 cases A9 eq1
 clear eq1
 replace e:=bind_eq_some_iff.mp e
 obtain ⟨j,eq2,e⟩:=e
 cases A9 eq2
 clear eq2
 cases e
 obtain ⟨x,y,L1,L2,rfl,h1,h2⟩:=Bx hs
 cases Bc h1
 cases Bc h2
 exact ⟨i,j,rfl,k _ _ CO⟩
theorem UD:OpN K Ur (fun xs H Q=>∃ i j,xs = [.int i,.int j]∧Q (.int (if j < i then j else i)) H):=by
 intro N H xs as b Q hs e k
 replace e:=Cv e
 obtain ⟨q1,q2,rfl,e⟩:=e
 replace e:=bind_eq_some_iff.mp e
 obtain ⟨i,eq1,e⟩:=e
 cases A9 eq1
 clear eq1
 replace e:=bind_eq_some_iff.mp e
 obtain ⟨j,eq2,e⟩:=e
 cases A9 eq2
 clear eq2
 cases e
 obtain ⟨x,y,L1,L2,rfl,h1,h2⟩:=Bx hs
 cases Bc h1
 cases Bc h2
 exact ⟨i,j,rfl,k _ _ CO⟩
noncomputable def Dk:List D→Option (List Bool)
 | []=>some []
 | .bl b :: ds=>(Dk ds).map (b :: ·)
 | _ :: _=>none
theorem Le:∀ {vs:List V} {ds:List D} {bs:List Bool},AB N H vs ds→Dk ds = some bs→vs = DH bs:=by
 intro _l
 induction _l with
 | nil =>
  intro _m
  cases _m with
  | nil =>
   intro bs _ e
   simp [Dk] at e; subst e; rfl
  | cons _ _ =>
   intro _ q _
   simp only [AB] at q
 | cons v vs ih =>
  intro _m
  cases _m with
  | nil =>
   intro _ q _
   simp only [AB] at q
  | cons d ds =>
   intro bs q e
   cases d with
   | bl b =>
    simp only [Dk,map_eq_some_iff] at e
    obtain ⟨bs',e1,rfl⟩:=e
    have:=ih q.2 e1
    obtain ⟨q1,_⟩:=q
    cases q1
    subst this
    rfl
   | _=>simp [Dk] at e
noncomputable def Hm:List A→Option A:=on1 fun a=>(DR a).bind fun ds=>(Dk ds).map fun bs=>.fz (.bl (bs.all id))
noncomputable def Ge:List A→Option A:=on1 fun a=>(DR a).bind fun ds=>(Dk ds).map fun bs=>.fz (.bl (bs.any id))
theorem Ib:OpN K Hm (WM K):=by
 intro N H xs as b Q hs e k
 replace e:=Ef e
 obtain ⟨a,rfl,e⟩:=e
 simp only [bind_eq_some_iff,map_eq_some_iff] at e
 obtain ⟨ds,e1,bs,e2,rfl⟩:=e
 obtain ⟨x,L1,rfl,h1⟩:=Dq hs
 obtain ⟨p,vs,rfl,hp,hz,q⟩:=Dn h1 e1
 cases Le q e2
 exact ⟨p,bs,rfl,.inl (.inl hp),k _ _ C3⟩
theorem M8:OpN K Ge (WN K):=by
 intro N H xs as b Q hs e k
 replace e:=Ef e
 obtain ⟨a,rfl,e⟩:=e
 simp only [bind_eq_some_iff,map_eq_some_iff] at e
 obtain ⟨ds,e1,bs,e2,rfl⟩:=e
 obtain ⟨x,L1,rfl,h1⟩:=Dq hs
 obtain ⟨p,vs,rfl,hp,hz,q⟩:=Dn h1 e1
 cases Le q e2
 exact ⟨p,bs,rfl,.inl (.inl hp),k _ _ C3⟩
noncomputable def FE (f:D→Bool):List A→Option A:=on1 fun a=>(er a).map fun d=>.fz (.bl (f d))
theorem Uy {T:String} {f:D→Bool}:OpN K (FE f) (r1L fun x H Q=>∃ d,Rep H x d∧Q (.bl (f d)) H):=by
 intro N H xs as b Q hs e k
 replace e:=Ef e
 obtain ⟨a,rfl,e⟩:=e
 simp only [map_eq_some_iff] at e
 obtain ⟨d,e1,rfl⟩:=e
 obtain ⟨x,L1,rfl,h1⟩:=Dq hs
 exact ⟨x,rfl,d,Iw h1 e1,k _ _ C3⟩
theorem IH {T:String} {f:D→Bool} {m:ME} {σ:L2.St} {Q:VK} (h:tE K (opM (FE f) (m1L m)) σ H Q):tCB (rIs T f) (B0 (tE K m) (B0 (tC (.ty T)) FF)) σ H Q:=by
 have h2:=one (Uy (T:=T)) h
 exact tE.mono h2 fun x H1 ⟨d,r,q⟩=>⟨x,d,rfl,r,q⟩
end
end J
end
section
namespace L2
open PySem PySem.Spec PyProof.Rows
section
variable {X:Cx}
noncomputable def Vc:V→Option Int→Option Int→Hp→VK→Prop:=fun x lo hi H Q=>∃ z,x = .str z∧z.length≤sizeLine∧Q (.str (Txt.slice z lo hi)) H
theorem Vj:SlR X Vc:=by
 intro pins s σ H x v vl vu lo hi sl Q I rx hs pl pu h
 obtain ⟨z,rfl,hz,q⟩:=h
 obtain ⟨t,rfl⟩:=rx
 refine ⟨"str",_,F.slot_str_getitem.lookup,typeIs_str _ _ _,?_⟩
 have fin:∀ t' k,EP X pins σ Q (.str (Txt.slice z lo hi) t') { s with toks:=k }:=fun t' k=>⟨.str _,H,I.tok k,⟨_,rfl⟩,q⟩
 obtain ⟨o,ho,hc,hd⟩:=hs
 cases pl with
 | none =>
  cases pu with
  | none=>exact wpAny_getItem_str_slice (l:=none) (u:=none) (st:=none) ⟨o,ho,hc,hd⟩ rfl (post_val_or_str ⟨Nat.le_trans (Txt.slice_le z _ _) hz,fun t' k=>fin t' k⟩)
  | int j tj=>exact wpAny_getItem_str_slice (l:=none) (u:=some (j,tj)) (st:=none) ⟨o,ho,hc,hd⟩ rfl (post_val_or_str ⟨Nat.le_trans (Txt.slice_le z _ _) hz,fun t' k=>fin t' k⟩)
 | int i ti =>
  cases pu with
  | none=>exact wpAny_getItem_str_slice (l:=some (i,ti)) (u:=none) (st:=none) ⟨o,ho,hc,hd⟩ rfl (post_val_or_str ⟨Nat.le_trans (Txt.slice_le z _ _) hz,fun t' k=>fin t' k⟩)
  | int j tj=>exact wpAny_getItem_str_slice (l:=some (i,ti)) (u:=some (j,tj)) (st:=none) ⟨o,ho,hc,hd⟩ rfl (post_val_or_str ⟨Nat.le_trans (Txt.slice_le z _ _) hz,fun t' k=>fin t' k⟩)
end
end L2
namespace J
open PySem PySem.Spec PyProof.Rows L2
section
variable {X:Cx} {a b c e:Expr} {es:List Expr} {m m1 m2 m3:ME} {ms:MA} {p pos pos' p2 apos cpos q:Pos} {x:Str}
variable {K:Frag} {H:Hp} {σ:L2.St}
theorem T9 (hg:Gl X "isinstance") (hg2:Gl X "int") (B:Blt X.mg X.K) (he:starEach [a,.Name "int" q] X.env = [(false,eval a X.env),(false,eval (.Name "int" q) X.env)]) (he2:starEach [.Name "int" q] X.env = [(false,eval (.Name "int" q) X.env)]) (ha:JE X a m) :
  JE X (.Call (.Name "isinstance" p) [a,.Name "int" q] [] pos) (opM (FE isInt) (m1L m)):=AO (UR hg hg2 B he he2 ha) fun _ _ _ h=>IH h
theorem T8 (hg:Gl X "isinstance") (hg2:Gl X "bool") (B:Blt X.mg X.K) (he:starEach [a,.Name "bool" q] X.env = [(false,eval a X.env),(false,eval (.Name "bool" q) X.env)]) (he2:starEach [.Name "bool" q] X.env = [(false,eval (.Name "bool" q) X.env)]) (ha:JE X a m) :
  JE X (.Call (.Name "isinstance" p) [a,.Name "bool" q] [] pos) (opM (FE isBool) (m1L m)):=AO (UQ hg hg2 B he he2 ha) fun _ _ _ h=>IH h
theorem Qg (hg:Gl X "isinstance") (hg2:Gl X "list") (B:Blt X.mg X.K) (he:starEach [a,.Name "list" q] X.env = [(false,eval a X.env),(false,eval (.Name "list" q) X.env)]) (he2:starEach [.Name "list" q] X.env = [(false,eval (.Name "list" q) X.env)]) (ha:JE X a m) :
  JE X (.Call (.Name "isinstance" p) [a,.Name "list" q] [] pos) (opM (FE Hi) (m1L m)):=AO (US hg hg2 B he he2 ha) fun _ _ _ h=>IH h
theorem Ua (hg:Gl X "isinstance") (hg2:Gl X "tuple") (B:Blt X.mg X.K) (he:starEach [a,.Name "tuple" q] X.env = [(false,eval a X.env),(false,eval (.Name "tuple" q) X.env)]) (he2:starEach [.Name "tuple" q] X.env = [(false,eval (.Name "tuple" q) X.env)]) (ha:JE X a m) :
  JE X (.Call (.Name "isinstance" p) [a,.Name "tuple" q] [] pos) (opM (FE isTup) (m1L m)):=AO (UT hg hg2 B he he2 ha) fun _ _ _ h=>IH h
theorem Qh (hg:Gl X "isinstance") (hg2:Gl X "str") (B:Blt X.mg X.K) (he:starEach [a,.Name "str" q] X.env = [(false,eval a X.env),(false,eval (.Name "str" q) X.env)]) (he2:starEach [.Name "str" q] X.env = [(false,eval (.Name "str" q) X.env)]) (ha:JE X a m) :
  JE X (.Call (.Name "isinstance" p) [a,.Name "str" q] [] pos) (opM (FE isStr) (m1L m)):=AO (UU hg hg2 B he he2 ha) fun _ _ _ h=>IH h
noncomputable def slF (x:A) (lo hi:Option Int):Option A:=match x with
 | .fz (.str z)=>some (.fz (.str (Txt.slice z lo hi)))
 | _=>none
noncomputable def Q8:List A→Option A:=on2 fun x q2=>(BJ q2).bind fun j=>slF x none (some j)
noncomputable def WR:List A→Option A:=on2 fun x q2=>(BJ q2).bind fun i=>slF x (some i) none
theorem Vi {N:Addr→Prop} {v:V} {a b:A} {L:List Addr} {lo hi:Option Int} {Q:VK} (h:Aw K N H v a L) (e:slF a lo hi = some b) (k:∀ u H',La K N H b u H'→Q u H'):Vc v lo hi H Q:=by
 unfold slF at e
 split at e
 ·rename_i z
  cases e
  obtain ⟨rfl,hz⟩:=C5 h
  exact ⟨z,rfl,hz,k _ _ (HF (Nat.le_trans (Txt.slice_le z _ _) hz))⟩
 ·cases e
theorem RQ (ha:JE X a m1) (hb:JE X b m2):JE X (.Subscript a (.Slice none (some b) none p2) pos) (opM Q8 (m2L m1 m2)):=by
 refine AO (QM Vj ha So (Sq hb)) fun σ H Q h=>?_
 have ok:OpN X.K Q8 (r2L fun x y H Q=>∃ j,y = .int j∧Vc x none (some j) H Q):=by
  intro N H xs as b Q hs e k
  replace e:=Cv e
  obtain ⟨x,q2,rfl,e⟩:=e
  replace e:=bind_eq_some_iff.mp e
  obtain ⟨j,eq2,e⟩:=e
  cases A9 eq2
  clear eq2
  obtain ⟨x,y,L1,L2,rfl,h1,h2⟩:=Bx hs
  cases Bc h2
  exact ⟨_,_,rfl,j,rfl,Vi h1 e k⟩
 exact tE.mono (two ok h) fun x H1 h1=>tE.mono h1 fun y H2 ⟨j,e,q⟩=>⟨j,e,q⟩
noncomputable def Hl:List D→Option (List Str)
 | []=>some []
 | .str z :: ds=>(Hl ds).map (z :: ·)
 | _ :: _=>none
theorem SR {N:Addr→Prop}:∀ {vs:List V} {ds:List D} {zs:List Str},AB N H vs ds→Hl ds = some zs→vs = zs.map V.str:=by
 intro _l
 induction _l with
 | nil =>
  intro _m
  cases _m with
  | nil =>
   intro zs _ e
   simp [Hl] at e; subst e; rfl
  | cons _ _ =>
   intro _ q _
   simp only [AB] at q
 | cons v vs ih =>
  intro _m
  cases _m with
  | nil =>
   intro _ q _
   simp only [AB] at q
  | cons d ds =>
   intro zs q e
   cases d with
   | str z =>
    simp only [Hl,map_eq_some_iff] at e
    obtain ⟨zs',e1,rfl⟩:=e
    have:=ih q.2 e1
    obtain ⟨q1,_⟩:=q
    cases q1
    subst this
    rfl
   | _=>simp [Hl] at e
theorem PX (zs:List Str):(glue zs).length = (zs.map (·.length)).sum:=by
 show (glue zs).cps.size = _
 simp [glue,List.length_flatten,Function.comp_def]
 rfl
theorem SO {sep:Str} (h:sep.length = 0):sep = ("" : Str):=by
 cases sep with
 | mk c =>
  have:c = #[]:=Array.eq_empty_of_size_eq_zero h
  subst this
  decide +kernel
noncomputable def KJ (f:Str→List A→Option A) (m:ME) (ms:MA):ME:=fun ρ=>(m ρ).bind fun p=>match p.1 with
 | .val (.fz (.str z))=>(ms p.2).bind fun q=>(peeks q.2 q.1).bind fun as=>(f z as).map fun a=>(.val a,q.2)
 | _=>none
theorem Rf {f:Str→List A→Option A} {r:V→List V→Hp→VK→Prop} {Q:VK} (ok:∀ z,z.length≤sizeLine→OpN K (f z) fun xs H Q=>r (.str z) xs H Q) (h:tE K (KJ f m ms) σ H Q):tBM K "str" r (tE K m) (tA K ms) σ H Q:=by
 obtain ⟨ρ,O,fp,rl,y,ρ',h0,k⟩:=h
 simp only [KJ,bind_eq_some_iff] at h0
 obtain ⟨⟨r1,ρ1⟩,e1,h0⟩:=h0
 dsimp only at h0
 split at h0
 ·rename_i z
  simp only [bind_eq_some_iff,map_eq_some_iff] at h0
  obtain ⟨⟨rs,ρ2⟩,e2,as,e3,c,e4,e5⟩:=h0
  cases e5
  refine ⟨ρ,O,fp,rl,_,ρ1,e1,fun v H1 yy=>?_⟩
  obtain ⟨L,fp1,p,q⟩:=yy
  obtain ⟨rfl,hz⟩:=C5 (K:=K) q
  have p':=p.drop0
  refine ⟨rfl,ρ1,O,fp1,p'.rel0,rs,ρ2,e2,fun vs H2 yy=>?_⟩
  obtain ⟨L2,fp2,p2,q2⟩:=yy
  exact ok z hz _ H2 vs as c Q (p2.rel.peeks q2 e3) e4 fun u H3 o=>k u H3 ((p2.out o).pre p')
 ·cases h0
noncomputable def Jr (sep:Str):List A→Option A:=on1 fun b=>if sep.length = 0 then (DR b).bind fun ds=>(Hl ds).bind fun zs=>if (zs.map (·.length)).sum≤16777216 then some (.fz (.str (glue zs))) else none else none
theorem R4 (sep:Str) (hz:sep.length≤sizeLine):OpN K (Jr sep) fun xs H Q=>rJoin K (.str sep) xs H Q:=by
 intro N H xs as b Q hs e k
 replace e:=Ef e
 obtain ⟨b,rfl,e⟩:=e
 split at e
 ·rename_i h0
  simp only [bind_eq_some_iff] at e
  obtain ⟨ds,e1,zs,e2,e3⟩:=e
  split at e3
  ·rename_i hl
   cases e3
   obtain ⟨x,L1,rfl,h1⟩:=Dq hs
   obtain ⟨p,vs,rfl,hp,hz',q⟩:=Dn h1 e1
   cases SR q e2
   cases SO h0
   refine ⟨_,p,zs,rfl,rfl,.inl (.inl hp),?_,?_⟩
   ·have:("" : Str).length = 0:=by decide +kernel
    rw [this,Nat.mul_zero,Nat.add_zero]
    exact hl
   ·rw [MV]
    exact k _ _ (HF (by rw [PX]; exact hl))
  ·cases e3
 ·cases e
theorem RP (hbase:attributeBase a "join" X.env (eval a X.env) = eval a X.env) (hline:(apos.endLine == cpos.line) = true) (B:Blt X.mg X.K) (hs:starEach [e] X.env = [(false,eval e X.env)]) (ha:JE X a m1) (he:JE X e m2) :
  JE X (.Call (.Attribute a "join" apos) [e] [] cpos) (KJ Jr m1 (m1L m2)):=by
 refine AO (Sl rfl B hbase hline hs ha he) fun σ H Q h=>?_
 exact tE.mono (Rf R4 h) fun x H1 ⟨ty,q⟩=>⟨ty,FC q |> fun q=>tE.mono q fun y H2 q=>IG q⟩
noncomputable def HZ (z:Str):List A→Option A:=on1 fun q1=>(CP q1).bind fun y=>if 0≤Txt.find z y then some (.fz (.int (Txt.find z y))) else none
theorem QD (z:Str) (hz:z.length≤sizeLine):OpN K (HZ z) fun xs H Q=>Nl (.str z) xs H Q:=by
 intro N H xs as b Q hs e k
 replace e:=Ef e
 obtain ⟨q1,rfl,e⟩:=e
 replace e:=bind_eq_some_iff.mp e
 obtain ⟨y,eq1,e⟩:=e
 cases CQ eq1
 clear eq1
 split at e
 ·rename_i h0
  cases e
  obtain ⟨x,L1,rfl,h1⟩:=Dq hs
  obtain ⟨rfl,_⟩:=C5 h1
  exact ⟨z,y,rfl,rfl,h0,k _ _ CO⟩
 ·cases e
theorem Qf (hbase:attributeBase a "index" X.env (eval a X.env) = eval a X.env) (hline:(apos.endLine == cpos.line) = true) (B:Blt X.mg X.K) (hc:X.calm = true) (hs:starEach [e] X.env = [(false,eval e X.env)]) (ha:JE X a m1) (he:JE X e m2) :
  JE X (.Call (.Attribute a "index" apos) [e] [] cpos) (KJ HZ m1 (m1L m2)):=by
 refine AO (QL rfl B hc hbase hline hs ha he) fun σ H Q h=>?_
 exact tE.mono (Rf QD h) fun x H1 ⟨ty,q⟩=>⟨ty,FC q |> fun q=>tE.mono q fun y H2 q=>IG q⟩
noncomputable def P6:List D→Option (List Int)
 | []=>some []
 | .int z :: ds=>(P6 ds).map (z :: ·)
 | _ :: _=>none
end
section
variable {K:Frag} {ρ ρ' ρ1 ρ2:Ro} {σ σ' σ1 σ2:L2.St} {H H' H1 H2:Hp} {O O' N:Addr→Prop} {fp fp' fp1 fp2:Nat→List Addr} {L L1:List Addr}
theorem Post.mut {i:Nat} {st:Own} {a a':A} {v:V} {p:Addr} {o:HO} {vs:List V} {L':List Addr} (x:Post K O fp H ρ ρ1 σ σ L fp1 H1) (hi : ρ1[i]? = some (some (st,a))) (hst:st ≠ .ro) (hv : σ[i]? = some (some v)) (hp:p∈fp1 i) (hy:H1 p = some (.lst vs))
  (hL:∀ q∈L',q∈fp1 i∨q∈L) (nd:L'.Nodup) (hr:Aw K (NN fp1 (ad O L)) (upd H1 p o) v a' L'):Post K O fp H ρ (ρ1.set i (some (st,a'))) σ σ [] (pt fp1 i L') (upd H1 p o):=by
 have alp:∀ q,H1 q≠none→upd H1 p o q≠none:=fun q z=>by
  by_cases e:q = p
  ·subst e; rw [AQ]; simp
  ·rw [Ax e]; exact z
 have k:=EB (o:=o) hy
 -- first the heap,then the slot
 have nn:∀ q,NN (pt fp1 i L') (ad O []) q→NN fp1 (ad O L) q:=fun q z=>by
  rcases z with ⟨j,z⟩ | z | z
  ·rcases BG z with ⟨_,z⟩ | ⟨_,z⟩
   ·rcases hL q z with z | z
    ·exact .inl ⟨i,z⟩
    ·exact .inr (.inr z)
   ·exact .inl ⟨j,z⟩
  ·exact .inr (.inl z)
  ·simp at z
 have dis:∀ q∈L',∀ j,j≠i→q ∉ fp1 j:=fun q hq j hj z=>by
  rcases hL q hq with w | w
  ·exact hj (x.rel.inj j i q z w)
  ·exact x.rel.off j q z (.inr w)
 refine ⟨⟨by rw [List.length_set]; exact x.rel.len,fun j st' b e=>?_,fun j h=>?_,fun j=>?_,fun j1 j2 q h1 h2=>?_,fun j q h z=>?_,fun q z=>alp q (x.rel.al q (nn q z))⟩,List.nodup_nil,fun q h=>by simp at h,fun q h=>?_,fun b u e c=>?_,rfl,fun j st' b e h=>?_⟩
 ·by_cases hj:j = i
  ·subst hj
   rw [List.getElem?_set_self (Az hi)] at e
   cases e
   exact ⟨v,hv,by rw [Fz]; exact Dw nn hr⟩
  ·rw [List.getElem?_set_ne (Ne.symm hj)] at e
   obtain ⟨w,e1,q⟩:=x.rel.slot j _ _ e
   refine ⟨w,e1,?_⟩
   rw [Hj hj]
   exact q.tr (M:=fun q=>q = p) (fun b z=>by rw [z]; exact .inl ⟨i,hp⟩) k (fun b z=>.inl (nn b z)) fun b hb z=>hj (x.rel.inj j i p (z ▸ hb) hp)
 ·by_cases hj:j = i
  ·subst hj
   exact absurd (List.getElem?_set_self (Az hi)) (h st a')
  ·rw [Hj hj]
   exact x.rel.out j fun st' b e=>h st' b (by rw [List.getElem?_set_ne (Ne.symm hj)]; exact e)
 ·by_cases hj:j = i
  ·subst hj; rw [Fz]; exact nd
  ·rw [Hj hj]; exact x.rel.nd j
 ·rcases BG h1 with ⟨e1,z1⟩ | ⟨e1,z1⟩
  ·rcases BG h2 with ⟨e2,z2⟩ | ⟨e2,z2⟩
   ·rw [e1,e2]
   ·exact absurd z2 (dis q z1 j2 e2)
  ·rcases BG h2 with ⟨e2,z2⟩ | ⟨e2,z2⟩
   ·exact absurd z1 (dis q z2 j1 e1)
   ·exact x.rel.inj j1 j2 q z1 z2
 ·have z':=JH.mp z
  rcases BG h with ⟨_,z1⟩ | ⟨_,z1⟩
  ·rcases hL q z1 with w | w
   ·exact x.rel.off i q w (.inl z')
   ·exact x.lo q w z'
  ·exact x.rel.off j q z1 (.inl z')
 ·rcases h with h | ⟨j,h⟩
  ·simp at h
  ·rcases BG h with ⟨_,z1⟩ | ⟨_,z1⟩
   ·rcases hL q z1 with w | w
    ·exact x.new q (.inr ⟨i,w⟩)
    ·exact x.new q (.inl w)
   ·exact x.new q (.inr ⟨j,z1⟩)
 ·have e1:=x.kept b u e c
  by_cases hb:b = p
  ·subst hb
   rw [hy] at e1
   cases e1
   rcases c with c | c
   ·rcases x.new b (.inr ⟨i,hp⟩) with z | z
    ·exact absurd z c
    ·rw [e] at z; cases z
   ·cases c
  ·rw [Ax hb]; exact e1
 ·obtain ⟨b',e1,_,f⟩:=x.stab j st' b e h
  by_cases hj:j = i
  ·subst hj
   rw [hi] at e1
   cases e1
   exact ⟨a',List.getElem?_set_self (Az hi),rfl,fun z=>absurd z hst⟩
  ·exact ⟨b',by rw [List.getElem?_set_ne (Ne.symm hj)]; exact e1,rfl,f⟩
theorem As.app:∀ {vs ws:List V} {as bs:List A} {L1 L2:List Addr},As K N H vs as L1→As K N H ws bs L2→As K N H (vs ++ ws) (as ++ bs) (L1 ++ L2)
 | [],ws,[],bs,L1,L2,r,q=>by
  simp only [As] at r
  subst r
  exact q
 | [],_,_ :: _,_,_,_,r,_=>by simp only [As] at r
 | _ :: _,_,[],_,_,_,r,_=>by simp only [As] at r
 | v :: vs,ws,a :: as,bs,L1,L2,r,q=>by
  simp only [As] at r
  obtain ⟨M1,M2,rfl,h1,h2⟩:=r
  simp only [List.cons_append,As]
  exact ⟨M1,M2 ++ L2,by simp,h1,As.app h2 q⟩
noncomputable def DQ (ρ:Ro) (i:Nat):Option (Own × List A):=match ρ[i]? with
 | some (some (.ro,_))=>none
 | some (some (st,.lst as))=>some (st,as)
 | _=>none
theorem Ft {i:Nat} {st:Own} {as:List A} (h:DQ ρ i = some (st,as)) : ρ[i]? = some (some (st,.lst as))∧st ≠ .ro:=by
 unfold DQ at h
 split at h
 ·cases h
 ·rename_i st' as' hn e
  cases h
  exact ⟨e,fun z=>hn z⟩
 ·cases h
noncomputable def EZ (i:Nat) (m:ME):MS:=fun ρ=>(DQ ρ i).bind fun _=>(m ρ).bind fun p=>(keep p.2 p.1).bind fun q=>(DQ q.2 i).bind fun h=>if h.2.length < LIM then some (.next (q.2.set i (some (h.1,.lst (h.2 ++ [q.1]))))) else none
theorem Vv {i:Nat} {m:ME} {D:Ends} (h:tS K (EZ i m) D σ H):Mj (tBM K "list" Oi (Rh i) (B0 (tE K m) FF)) D σ H:=by
 obtain ⟨ρ,O,fp,rl,fl,e,w⟩:=h
 simp only [EZ,bind_eq_some_iff] at e
 obtain ⟨⟨st0,as0⟩,e0,⟨r,ρ1⟩,e1,⟨a,ρ2⟩,e2,⟨st,as⟩,e3,e4⟩:=e
 split at e4
 ·rename_i hz
  cases e4
  obtain ⟨g0,_⟩:=Ft e0
  obtain ⟨v,hv,q0⟩:=rl.slot i _ _ g0
  rw [Aw] at q0
  obtain ⟨p0,vs0,_,rfl,_,hp0,_,_⟩:=q0
  refine ⟨_,hv,.inl ⟨rfl,vs0,.inl (.inl hp0)⟩,ρ,O,fp,rl,r,ρ1,e1,fun y H1 yy=>?_⟩
  obtain ⟨L,fp1,p,q⟩:=yy
  obtain ⟨L2,fp2,p2,q2⟩:=GU p q e2
  obtain ⟨g,gst⟩:=Ft e3
  obtain ⟨v',hv',qi⟩:=p2.rel.slot i _ _ g
  rw [hv] at hv'; cases hv'
  rw [Aw] at qi
  obtain ⟨pa,vs,L',e5,e6,hp,hz',hs⟩:=qi
  cases e5
  have hlen:=hs.len
  refine ⟨p0,vs,y,rfl,rfl,hp,by rw [hlen]; exact hz,w _ _ _ (p2.mut (a':=.lst (as ++ [a])) (L':=p0 :: (L' ++ L2)) g gst hv (by rw [e6]; simp) hp (fun b hb=>?_) ?_ ?_)⟩
  ·rcases List.mem_cons.mp hb with rfl | hb
   ·rw [e6]; simp
   ·rcases List.mem_append.mp hb with hb | hb
    ·rw [e6]; simp [hb]
    ·exact .inr hb
  ·have n1:=p2.rel.nd i
   rw [e6] at n1
   have n2:(p0 :: L').Nodup:=n1
   have:((p0 :: L') ++ L2).Nodup:=List.nodup_append.mpr ⟨n2,p2.nd,fun b hb c hc e=>by
    subst e
    exact p2.rel.off i b (by rw [e6]; exact hb) (.inr hc)⟩
   simpa using this
  ·rw [Aw]
   have k:=EB (o:=.lst (vs ++ [y])) hp
   have pn:NN fp2 (ad O L2) p0:=.inl ⟨i,by rw [e6]; simp⟩
   have n1:=p2.rel.nd i
   rw [e6] at n1
   have h1:As K (NN fp2 (ad O L2)) (upd H1 p0 (.lst (vs ++ [y]))) vs as L':=hs.tr (M:=fun b=>b = p0) (fun b z=>z ▸ pn) k (fun b z=>.inl z) fun b hb z=>by
    subst z
    exact (List.nodup_cons.mp n1).1 hb
   have h2:Aw K (NN fp2 (ad O L2)) (upd H1 p0 (.lst (vs ++ [y]))) y a L2:=q2.tr (M:=fun b=>b = p0) (fun b z=>z ▸ pn) k (fun b z=>.inl z) fun b hb z=>by
    subst z
    exact p2.rel.off i b (by rw [e6]; simp) (.inr hb)
   have h3:As K (NN fp2 (ad O L2)) (upd H1 p0 (.lst (vs ++ [y]))) [y] [a] L2:=by
    simp only [As]
    exact ⟨L2,[],by simp,h2,rfl⟩
   refine ⟨p0,vs ++ [y],L' ++ L2,rfl,rfl,AQ,?_,As.app h1 h3⟩
   rw [List.length_append,hlen]
   exact hz
 ·cases e4
noncomputable def Ln (i:Nat) (m:ME):MS:=fun ρ=>(DQ ρ i).bind fun _=>(m ρ).bind fun p=>(peek p.2 p.1).bind fun b=>(DR b).bind fun ds=>(DQ p.2 i).bind fun h=>if h.2.length + ds.length≤LIM then some (.next (p.2.set i (some (h.1,.lst (h.2 ++ ds.map A.fz))))) else none
theorem Vx {i:Nat} {m:ME} {D:Ends} (h:tS K (Ln i m) D σ H):Mj (tBM K "list" Oj (Rh i) (B0 (tE K m) FF)) D σ H:=by
 obtain ⟨ρ,O,fp,rl,fl,e,w⟩:=h
 simp only [Ln,bind_eq_some_iff] at e
 obtain ⟨⟨st0,as0⟩,e0,⟨r,ρ1⟩,e1,bb,e2,ds,e2',⟨st,as⟩,e3,e4⟩:=e
 split at e4
 ·rename_i hz
  cases e4
  obtain ⟨g0,_⟩:=Ft e0
  obtain ⟨v,hv,q0⟩:=rl.slot i _ _ g0
  rw [Aw] at q0
  obtain ⟨p0,vs0,_,rfl,_,hp0,_,_⟩:=q0
  refine ⟨_,hv,.inl ⟨rfl,vs0,.inl (.inl hp0)⟩,ρ,O,fp,rl,r,ρ1,e1,fun y H1 yy=>?_⟩
  obtain ⟨L,fp1,p,q⟩:=yy
  obtain ⟨Lb,qb⟩:=p.rel.peek q e2
  obtain ⟨pb,ws,rfl,hpb,hzb,qd⟩:=Dn qb e2'
  have p2:=p.drop0
  obtain ⟨g,gst⟩:=Ft e3
  obtain ⟨v',hv',qi⟩:=p2.rel.slot i _ _ g
  rw [hv] at hv'; cases hv'
  rw [Aw] at qi
  obtain ⟨pa,vs,L',e5,e6,hp,hz',hs⟩:=qi
  cases e5
  have hlen:=hs.len
  have hl2:vs.length + ws.length≤sizeLine:=by rw [hlen,qd.len]; exact hz
  refine ⟨p0,pb,vs,ws,rfl,rfl,hp,hpb,hl2,w _ _ _ (p2.mut (a':=.lst (as ++ ds.map A.fz)) (L':=p0 :: L') g gst hv (by rw [e6]; simp) hp (fun b hb=>.inl (by rw [e6]; exact hb)) (by have:=p2.rel.nd i; rw [e6] at this; exact this) ?_)⟩
  rw [Aw]
  have k:=EB (o:=.lst (vs ++ ws)) hp
  have pn:NN fp1 (ad O []) p0:=.inl ⟨i,by rw [e6]; simp⟩
  have n1:=p2.rel.nd i
  rw [e6] at n1
  have h1:As K (NN fp1 (ad O [])) (upd H1 p0 (.lst (vs ++ ws))) vs as L':=hs.tr (M:=fun b=>b = p0) (fun b z=>z ▸ pn) k (fun b z=>.inl z) fun b hb z=>by
   subst z
   exact (List.nodup_cons.mp n1).1 hb
  have h2:AB (NN fp1 (ad O [])) (upd H1 p0 (.lst (vs ++ ws))) ws ds:=(IK (fun b z=>z.imp id fun y=>y.imp id fun y=>by simp at y) qd).tr (M:=fun b=>b = p0) (fun b z=>z ▸ pn) k fun b z=>.inl z
  refine ⟨p0,vs ++ ws,L',rfl,rfl,AQ,by rw [List.length_append]; exact hl2,?_⟩
  have:=As.app h1 (As.of h2)
  rw [List.append_nil] at this
  exact this
 ·cases e4
noncomputable def LX (i:Nat) (mk me:ME):MS:=fun ρ=>(me ρ).bind fun p=>(share p.2 p.1).bind fun s=>(DQ s.2 i).bind fun _=>(mk s.2).bind fun t=>match t.1 with
 | .val (.fz (.int k))=>(DQ t.2 i).bind fun h=>(ixN h.2.length k).map fun j=>.next (t.2.set i (some (h.1,.lst (h.2.set j (.fz s.1)))))
 | _=>none
theorem As.setFz:∀ {vs:List V} {as:List A} {L:List Addr} {j:Nat} {v:V} {d:D},As K N H vs as L→RepA N H v d→∃ L',As K N H (vs.set j v) (as.set j (.fz d)) L'∧(∀ q∈L',q∈L)∧(L.Nodup→L'.Nodup)
 | [],[],L,j,v,d,r,_=>⟨L,by simpa using r,fun _ h=>h,id⟩
 | [],_ :: _,_,_,_,_,r,_=>by simp only [As] at r
 | _ :: _,[],_,_,_,_,r,_=>by simp only [As] at r
 | x :: vs,a :: as,L,0,v,d,r,q=>by
  simp only [As] at r
  obtain ⟨M1,M2,rfl,h1,h2⟩:=r
  refine ⟨M2,?_,fun b h=>List.mem_append_right _ h,fun h=>(List.nodup_append.mp h).2.1⟩
  simp only [List.set_cons_zero,As]
  exact ⟨[],M2,rfl,D9 q,h2⟩
 | x :: vs,a :: as,L,j + 1,v,d,r,q=>by
  simp only [As] at r
  obtain ⟨M1,M2,rfl,h1,h2⟩:=r
  obtain ⟨L',g1,g2,g3⟩:=As.setFz (j:=j) h2 q
  refine ⟨M1 ++ L',?_,fun b h=>?_,fun h=>?_⟩
  ·simp only [List.set_cons_succ,As]
   exact ⟨M1,L',rfl,h1,g1⟩
  ·rcases List.mem_append.mp h with h | h
   ·exact List.mem_append_left _ h
   ·exact List.mem_append_right _ (g2 b h)
  ·obtain ⟨n1,n2,n3⟩:=List.nodup_append.mp h
   exact List.nodup_append.mpr ⟨n1,g3 n2,fun b hb c hc e=>n3 b hb c (g2 c hc) e⟩
theorem Vz {i:Nat} {mk me:ME} {D:Ends} (h:tS K (LX i mk me) D σ H):ND (tE K me) (VW (Rh i) (tE K mk) Tn) D σ H:=by
 obtain ⟨ρ,O,fp,rl,fl,e,w⟩:=h
 simp only [LX,bind_eq_some_iff] at e
 obtain ⟨⟨r,ρ1⟩,e1,⟨d,ρ2⟩,e2,⟨st0,as0⟩,e0,⟨r3,ρ3⟩,e3,e4⟩:=e
 dsimp only at e4
 split at e4
 ·rename_i kk
  simp only [bind_eq_some_iff,map_eq_some_iff] at e4
  obtain ⟨⟨st,as⟩,e5,j,e6,e7⟩:=e4
  cases e7
  refine ⟨ρ,O,fp,rl,r,ρ1,e1,fun y H1 yy=>?_⟩
  obtain ⟨L,fp1,p,q⟩:=yy
  obtain ⟨fp2,p2,q2⟩:=ET p q e2
  obtain ⟨g0,_⟩:=Ft e0
  obtain ⟨v,hv,q0⟩:=p2.rel.slot i _ _ g0
  rw [Aw] at q0
  obtain ⟨p0,vs0,_,rfl,_,hp0,_,_⟩:=q0
  refine ⟨_,hv,ρ2,O,fp2,p2.rel0,_,ρ3,e3,fun y2 H2 yy=>?_⟩
  obtain ⟨L3,fp3,p3,q3⟩:=yy
  cases Bc (K:=K) q3
  have p4:=(p2.next p3).drop0
  obtain ⟨g,gst⟩:=Ft e5
  obtain ⟨v',hv',qi⟩:=p4.rel.slot i _ _ g
  rw [hv] at hv'; cases hv'
  rw [Aw] at qi
  obtain ⟨pa,vs,L',e8,e9,hp,hz',hs⟩:=qi
  cases e8
  have hlen:=hs.len
  have qy:RepA (NN fp3 (ad O [])) H2 y d:=(EW (fun b z=>GY.mpr z) q2).tr (M:=Fp fp2) (fun b z=>.inl z) p3.kept fun b z=>by
   rcases z with z | z | z
   ·exact (p3.new b (.inr z)).imp (fun y=>.inl y) id
   ·exact .inl (.inr z)
   ·simp at z
  have k:=EB (o:=.lst (vs.set j y)) hp
  have pn:NN fp3 (ad O []) p0:=.inl ⟨i,by rw [e9]; simp⟩
  have n1:=p4.rel.nd i
  rw [e9] at n1
  have h1:As K (NN fp3 (ad O [])) (upd H2 p0 (.lst (vs.set j y))) vs as L':=hs.tr (M:=fun b=>b = p0) (fun b z=>z ▸ pn) k (fun b z=>.inl z) fun b hb z=>by
   subst z
   exact (List.nodup_cons.mp n1).1 hb
  have h2:RepA (NN fp3 (ad O [])) (upd H2 p0 (.lst (vs.set j y))) y d:=qy.tr (M:=fun b=>b = p0) (fun b z=>z ▸ pn) k fun b z=>.inl z
  obtain ⟨L4,g1,g2,g3⟩:=As.setFz (j:=j) h1 h2
  refine ⟨p0,vs,kk,j,rfl,rfl,hp,by rw [hlen]; exact e6,w _ _ _ (p4.mut (a':=.lst (as.set j (.fz d))) (L':=p0 :: L4) g gst hv (by rw [e9]; simp) hp (fun b hb=>?_) ?_ ?_)⟩
  ·rcases List.mem_cons.mp hb with rfl | hb
   ·exact .inl (by rw [e9]; simp)
   ·exact .inl (by rw [e9]; simp [g2 b hb])
  ·exact List.nodup_cons.mpr ⟨fun z=>(List.nodup_cons.mp n1).1 (g2 _ z),g3 (List.nodup_cons.mp n1).2⟩
  ·rw [Aw]
   exact ⟨p0,vs.set j y,L4,rfl,rfl,AQ,by rw [List.length_set]; exact hz',g1⟩
 ·cases e4
end
section
variable {X:Cx} {a b c e:Expr} {es:List Expr} {m m1 m2 m3:ME} {ms:MA} {p pos pos' p2 apos cpos q npos:Pos} {x:Str}
theorem J9 (i:Nat) (hN:X.N[i]? = some x) (hv:Vis X.env.scope x) (hd:(x == ("__debug__" : Str)) = false) (hcd:(x == ("__classdict__" : Str)) = false) (hbase:attributeBase (.Name x npos) "append" X.env (eval (.Name x npos) X.env) = eval (.Name x npos) X.env) (hline:(apos.endLine == cpos.line) = true)
  (hs:starEach [e] X.env = [(false,eval e X.env)]) (hw:swapsWith (.Call (.Attribute (.Name x npos) "append" apos) [e] [] cpos) none pos.line X.env = pure false) (he:JE X e m):JS X (.Expr (.Call (.Attribute (.Name x npos) "append" apos) [e] [] cpos) pos) (EZ i m):=
 Bz (GH (Ob PySem.F.plainAttrs_list PySem.F.slot_list_append PySem.F.type_list_append GW (Kw hN hv hd hcd) (Cp he Eg hs) hbase (by rw [hs]; rfl) hline hs rfl) hw) fun _ _ _ h=>Vv h
theorem Ue (i:Nat) (hN:X.N[i]? = some x) (hv:Vis X.env.scope x) (hd:(x == ("__debug__" : Str)) = false) (hcd:(x == ("__classdict__" : Str)) = false) (hbase:attributeBase (.Name x npos) "extend" X.env (eval (.Name x npos) X.env) = eval (.Name x npos) X.env) (hline:(apos.endLine == cpos.line) = true)
  (hs:starEach [e] X.env = [(false,eval e X.env)]) (hw:swapsWith (.Call (.Attribute (.Name x npos) "extend" apos) [e] [] cpos) none pos.line X.env = pure false) (he:JE X e m):JS X (.Expr (.Call (.Attribute (.Name x npos) "extend" apos) [e] [] cpos) pos) (Ln i m):=
 Bz (GH (Ob PySem.F.plainAttrs_list PySem.F.slot_list_extend PySem.F.type_list_extend OU (Kw hN hv hd hcd) (Cp he Eg hs) hbase (by rw [hs]; rfl) hline hs rfl) hw) fun _ _ _ h=>Vx h
theorem MW (i:Nat) (hN:X.N[i]? = some x) (hv:Vis X.env.scope x) (hd:(x == ("__debug__" : Str)) = false) (hcd:(x == ("__classdict__" : Str)) = false)
  (ha:∀ v,assign (.Subscript (.Name x npos) b pos') X.env v = (do
   let ov ← holding [v] (eval (.Name x npos) X.env)
   let iv ← holding [v,ov] (eval b X.env)
   standAt pos'
   holding [v,ov,iv] (setItem ov iv v)
   release [v,ov,iv] []))
  (hs:swapsWithSole [.Subscript (.Name x npos) b pos'] e pos.line X.env = pure false) (hw:swappedStores [.Subscript (.Name x npos) b pos'] e X.env = pure none) (h1:(assignEach [.Subscript (.Name x npos) b pos'] X.env).map (·.2) = [assign (.Subscript (.Name x npos) b pos') X.env])
  (hk:JE X b m1) (he:JE X e m2):JS X (.Assign [.Subscript (.Name x npos) b pos'] e pos) (LX i m1 m2):=
 Bz (QP he (U3 (Kw hN hv hd hcd) hk set_list ha) hs hw h1) fun _ _ _ h=>Vz h
end
end J
end
section
namespace PySem
open Sem (wp)
theorem JD.miss_keys:typeLookup (.type "list") "keys" = pure none:=am_miss_of_fast dK
theorem JD.entry_loop:entryFor table "dict.update.loop" = some Builtin.«dict.update.loop»:=entryFor_of_tree (by kernel_rfl)
theorem JD.plain_loop:plainId "dict.update.loop" = true:=by decide +kernel
theorem JD.getAttrQ_miss {prog:Program} {w:World} {A:Around} {E:Value→Shared→Prop} {s:Shared} {a:Addr} {o:Obj} {xs:Array Value} {k:Nat} {name:Str} {Q:Option Value→Shared→Prop}
  (hx:s.heap.get? a = some o) (hc:o.cls = .type "list") (hdat:o.data = .seq xs k) (hd:o.dict = none) (hmiss:typeLookup (.type "list") name = pure none) (hname:(["__module__","__name__","__qualname__","__doc__","__annotations__"]:List Str).contains name = false) (hA:A.handled = none)
  (h:∀ h' tk e,Heap.NewExcOf s.heap h' e "AttributeError" → Q none { s with heap:=h',toks:=tk }) (hsz:name.length + 100≤sizeLine:=by size_fits) :
  wpAny (model prog w) A (getAttr? (.ref a) name) Q E s:=by
 obtain ⟨c,dct,dat,sl⟩:=o
 simp only at hc hdat hd
 subst hc hdat hd
 obtain ⟨hp,g,d,tk,os⟩:=s
 have hT:∀ tk',(⟨hp,g,d,tk',os⟩:Shared).TypeIs (.ref a) "list" := fun _=>⟨_,hx,rfl⟩
 have f1:=sub_AttributeError
 have f3:=F.slot_list_getattribute.lookup
 have f4:=F.slot_list_getattribute.bind (.ref a)
 have f5:=am_list_getattr_none
 unfold getAttr? getAttrBy? getAttrBy
 repeat (any_goals (first | assumption | exact hT _ | ((with_reducible show wpAny _ _ (call (Value.builtin "list.__getattribute__") _ _) _ _ _); refine call_meets F.slot_list_getattribute (hT _) am_entry_list_getattribute (F.args_list_getattribute_2 _ _) (meets_getattribute_miss_list a xs k sl name _ hmiss hname hsz) ⟨hx,hA,fun h' tk' e hx'=>?_⟩) | wp_step))
 obtain ⟨t',u',he⟩:=hx'.there
 show wpAny _ _ (getattributeRaised _ _ _ _ _ _ _) _ _ _
 unfold getattributeRaised
 repeat (any_goals (first | assumption | wp_step))
 exact h _ _ _ hx'.of
theorem JD.dict_keep {prog:Program} {w:World} {Kk:Type} [DecidableEq Kk] {knd:KeyKind prog w Kk} {h h':Heap} {d:Addr} {kvs:List (Kk × Value)} (hd:h.DictOf knd d kvs) (k:∀ o,h.get? d = some o→h'.get? d = some o):h'.DictOf knd d kvs:=by
 obtain ⟨o,es,ep,ho,r⟩:=hd
 exact ⟨o,es,ep,k o ho,r⟩
section
variable {prog:Program} {w:World} {Kk:Type} [DecidableEq Kk] {knd:KeyKind prog w Kk} {A:Around} {E:Value→Shared→Prop} {R:Result→Shared→Prop}
theorem JD.pairItems {s:Shared} {t:Addr} {its:Array Value} {Q:List Value→Shared→Prop} (ht:PyProof.Rows.IsTup s.heap t its) (h:Q its.toList s):wpAny (model prog w) A (Builtin.Dict.pairItems (.ref t)) Q E s:=by
 obtain ⟨o,ho,hc,n,hd⟩:=ht
 unfold Builtin.Dict.pairItems
 refine wpAny_bind (wpAny_typeOf (T := "tuple") ⟨o,ho,hc⟩ ?_)
 rw [if_pos (by decide)]
 unfold seqItems?
 refine wpAny_bind (wpAny_bind (wpAny_load ho ?_))
 rw [hd]
 exact wpAny_pure (wpAny_pure h)
theorem JD.stored_new {kvs:List (Kk × Value)} {i:Nat} (hi:i < kvs.length) (nd:(kvs.map (·.1)).Nodup):stored (kvs.take i) (kvs[i]).1 (kvs[i]).2 = kvs.take (i + 1):=by
 unfold stored
 rw [if_neg]
 ·rw [List.take_succ,List.getElem?_eq_getElem hi]
  rfl
 ·intro h
  rw [List.any_eq_true] at h
  obtain ⟨x,hx,he⟩:=h
  obtain ⟨j,hj,rfl⟩:=List.mem_iff_getElem.mp hx
  rw [List.length_take] at hj
  have hj':j < i:=by lia
  have e1:(kvs.take i)[j] = kvs[j]:=by simp
  rw [e1] at he
  have e2:(kvs[j]).1 = (kvs[i]).1:=by simpa using he
  have n:=List.pairwise_iff_getElem.mp nd j i (by simpa using (by lia:j < kvs.length)) (by simpa using hi) hj'
  simp at n
  exact n e2
theorem JD.loop {I l d:Addr} {items:Array Value} {kvs:List (Kk × Value)} (hA:A.handled = none) (hIl:l≠I) (hId:d≠I) (hld:d≠l) (hsz:kvs.length≤sizeLine) (hnd:(kvs.map (·.1)).Nodup) (hlen:items.size = kvs.length)
  (ts:Nat→Addr) (hit:∀ i (h:i < kvs.length),items[i]? = some (.ref (ts i))) (htd:∀ i,i < kvs.length→ts i≠d∧ts i≠I) :
  ∀ (k i:Nat) (s:Shared) (tk:Tok),kvs.length - i = k→i≤kvs.length→s.heap.IsListIter I l i→s.heap.IsList l items→s.heap.DictOf knd d (kvs.take i) →
   (∀ j (h:j < kvs.length),∃ key,knd.is (kvs[j]).1 key = true∧PyProof.Rows.IsTup s.heap (ts j) #[key,(kvs[j]).2]) →
   (∀ h' tk',h'.DictOf knd d kvs→(∀ b o,b≠I→b≠d→s.heap.get? b = some o→h'.get? b = some o)→R (.ok (.ret .none)) { s with heap:=h',toks:=tk' }) →
   codeAny (model prog w) A (.builtin "dict.update.loop" ⟨[.ref d,.ref I,.int (i:Int) tk,.none],[]⟩) R s:=by
 intro k
 induction k with
 | zero =>
  intro i s tk hk hi hst hl hd ht hR
  have hin:i = kvs.length:=by lia
  subst hin
  refine codeAny_builtin JD.entry_loop ?_
  rw [Around.under_plainId JD.plain_loop _]
  have W:=Walks.list (prog:=prog) (w:=w) (A:=A.in1) (by exact hA) I l hIl items
  show wpAny _ A.in1 (pyNext (.ref I) >>= _) _ _ s
  refine wpAny_bind (W.done s _ _ ⟨by rw [hlen]; exact hst,hl⟩ fun h' tk' hk'=>?_)
  have hd':h'.DictOf knd d kvs:=by
   rw [List.take_length] at hd
   exact JD.dict_keep hd fun o e=>hk' d o (by simpa using hId) e
  show wpAny _ _ (Builtin.Dict.addKeywords d [] >>= fun _=>ret Value.none) _ _ _
  exact wpAny_bind (wpAny_pure (wpAny_pure (hR h' tk' hd' fun b o hb _ e=>hk' b o (by simpa using hb) e)))
 | succ k ih =>
  intro i s tk hk hi hst hl hd ht hR
  have hlt:i < kvs.length:=by lia
  refine codeAny_builtin JD.entry_loop ?_
  rw [Around.under_plainId JD.plain_loop _]
  have W:=Walks.list (prog:=prog) (w:=w) (A:=A.in1) (by exact hA) I l hIl items
  show wpAny _ A.in1 (pyNext (.ref I) >>= _) _ _ s
  refine wpAny_bind (W.item i s _ _ (by rw [hlen]; exact hlt) ⟨hst,hl⟩ fun v h' tk' hv st' hk'=>?_)
  rw [hit i hlt] at hv
  cases hv
  have keepI:∀ b o,b≠I→s.heap.get? b = some o→h'.get? b = some o:=fun b o hb e=>hk' b o (by simpa using hb) e
  have ht':∀ j (h:j < kvs.length),∃ key,knd.is (kvs[j]).1 key = true∧PyProof.Rows.IsTup h' (ts j) #[key,(kvs[j]).2]:=fun j h=>by
   obtain ⟨key,h1,o,h2,h3⟩:=ht j h
   exact ⟨key,h1,o,keepI _ o (htd j h).2 h2,h3⟩
  have hd':h'.DictOf knd d (kvs.take i):=JD.dict_keep hd fun o e=>keepI d o hId e
  obtain ⟨key,hkey,htup⟩:=ht' i hlt
  refine wpAny_bind (wpAny_holding ?_)
  refine wpAny_bind (wpAny_tryCatch (JD.pairItems (s:={ s with heap:=h',toks:=tk' }) htup ?_))
  show wpAny _ _ (holding [key,(kvs[i]).2] (dictSet d key (kvs[i]).2)) _ _ _
  have hl2:(kvs.take i).length≤sizeLine:=by rw [List.length_take]; lia
  refine wpAny_holding (wpAny_dictSet_pairs (s:={ s with heap:=h',toks:=tk' }) (hsz:=hl2) hkey hd' fun h2 hd2 hs2=>?_)
  rw [JD.stored_new hlt hnd] at hd2
  have keep2:∀ b o,b≠d→h'.get? b = some o→h2.get? b = some o:=fun b o hb e=>(hs2.2 b hb).trans e
  refine wpAny_pure ⟨plainId_quiet JD.plain_loop _,?_⟩
  have e1:rawInt ((i:Int) + 1) = .int (((i + 1:Nat)):Int) 0:=rfl
  rw [e1]
  refine ih (i + 1) { s with heap:=h2,toks:=tk' + 1 } 0 (by lia) hlt ?_ ?_ hd2 (fun j h=>?_) fun h3 tk3 hd3 hk3=>?_
  ·exact st'.1.at fun o e=>keep2 I o (Ne.symm hId) e
  ·exact st'.2.at fun o e=>keep2 l o (Ne.symm hld) e
  ·obtain ⟨key,h1,o,h2',h3'⟩:=ht' j h
   exact ⟨key,h1,o,keep2 _ o (htd j h).1 h2',h3'⟩
  ·exact hR h3 tk3 hd3 fun b o hb hb2 e=>hk3 b o hb hb2 (keep2 b o hb2 (keepI b o hb e))
theorem JD.call {s:Shared} {l:Addr} {items:Array Value} {kvs:List (Kk × Value)} {Q:Value→Shared→Prop} {ol:Obj} {nl:Nat} (hA:A.handled = none) (hol:s.heap.get? l = some ol) (hcl:ol.cls = .type "list") (hdl:ol.data = .seq items nl) (hdd:ol.dict = none) (hsz:kvs.length≤sizeLine) (hnd:(kvs.map (·.1)).Nodup) (hlen:items.size = kvs.length)
  (ts:Nat→Addr) (hit:∀ i (h:i < kvs.length),items[i]? = some (.ref (ts i)))
  (ht:∀ j (h:j < kvs.length),∃ key,knd.is (kvs[j]).1 key = true∧PyProof.Rows.IsTup s.heap (ts j) #[key,(kvs[j]).2])
  (h:∀ h' tk',h'.DictOf knd s.heap.objs.size kvs→(∀ b o,s.heap.get? b = some o→h'.get? b = some o)→Q (.ref s.heap.objs.size) { s with heap:=h',toks:=tk' }) :
  wpAny (model prog w) A (call (.type "dict") [.ref l]) Q E s:=by
 refine callType_codes (Q₁:=fun obj s₁=>obj = .ref s.heap.objs.size∧s₁ = { s with heap:=s.heap.push { cls:=.type "dict",data:=.dict #[] } }) F.kt_called_dict (F.kt_typeCall_dict_1 _) F.entry_dict_init (kt_code_dict_new _ ⟨rfl,rfl⟩) ?_
 rintro obj s₁ ⟨rfl,rfl⟩
 have hnew:(s.heap.push { cls:=.type "dict",data:=.dict #[] }).DictOf knd s.heap.objs.size []:=Heap.DictOf.new s.heap
 have hol':(s.heap.push { cls:=.type "dict",data:=.dict #[] }).get? l = some ol:=Heap.get?_push_of_some _ hol
 have hdo:l≠s.heap.objs.size:=fun e=>absurd (Heap.lt_size hol) (by rw [e]; exact Nat.lt_irrefl _)
 have hts:∀ i,i < kvs.length→ts i < s.heap.objs.size:=fun i hi=>by
  obtain ⟨_,_,o,ho,_⟩:=ht i hi
  exact Heap.lt_size ho
 refine ⟨hnew.typeIs,F.args_dict_init_2 _ _,?_⟩
 unfold Builtin.«dict.__init__»
 refine wpAny_bind ?_
 unfold Builtin.Dict.selfAndRest
 refine wpAny_bind (wpAny_notOrdered_dict hnew.typeIs ?_)
 show wpAny _ _ (pure (s.heap.objs.size,[Value.ref l])) _ _ _
 refine wpAny_pure ?_
 show wpAny _ _ (Builtin.Dict.updateFrom "dict.__init__" s.heap.objs.size (.ref l) [] .none) _ _ _
 unfold Builtin.Dict.updateFrom
 refine wpAny_bind (wpAny_typeOf (T := "list") ⟨ol,hol',hcl⟩ ?_)
 rw [if_pos (by decide)]
 refine wpAny_bind (JD.getAttrQ_miss hol' hcl hdl hdd JD.miss_keys dK (by exact hA) (fun h1 tk1 e x=>?_) dK)
 simp only [Option.isNone_none,if_true]
 have keep1:∀ b o,s.heap.get? b = some o→h1.get? b = some o:=fun b o e=>x.keeps b o (Heap.get?_push_of_some _ e)
 have hbig:s.heap.objs.size < h1.objs.size:=by
  obtain ⟨o,_,_,ho,_⟩:=hnew
  exact Heap.lt_size (x.keeps _ _ ho)
 refine wpAny_bind (wpAny_rule (wpAny_bind (wpAny_pyIter_list (items:=items) ⟨ol,keep1 _ _ hol,hcl,nl,hdl⟩ ?_)))
 refine wpAny_pure ⟨plainId_quiet JD.plain_loop _,?_⟩
 have e1:rawInt 0 = .int (((0:Nat)):Int) 0:=rfl
 rw [e1]
 have hIs:∀ b,b < h1.objs.size→b≠h1.objs.size:=fun b hb=>Nat.ne_of_lt hb
 have hl1:l < h1.objs.size:=Heap.lt_size (keep1 _ _ hol)
 refine JD.loop (knd:=knd) (I:=h1.objs.size) (l:=l) (d:=s.heap.objs.size) (kvs:=kvs) (items:=items) (by exact hA) (hIs _ hl1) (hIs _ hbig) (Ne.symm hdo) hsz hnd hlen ts hit (fun i hi=>⟨Nat.ne_of_lt (hts i hi),hIs _ (Nat.lt_trans (hts i hi) hbig)⟩) kvs.length 0 _ 0 (by lia) (Nat.zero_le _) ?_ ?_ ?_ ?_ ?_
 ·exact ⟨_,Heap.get?_push_size _ rfl,rfl,rfl⟩
 ·exact ⟨ol,Heap.get?_push_of_some _ (keep1 _ _ hol),hcl,nl,hdl⟩
 ·rw [List.take_zero]
  exact JD.dict_keep hnew fun o e=>Heap.get?_push_of_some _ (x.keeps _ _ e)
 ·intro j hj
  obtain ⟨key,h1',o,h2,h3⟩:=ht j hj
  exact ⟨key,h1',o,Heap.get?_push_of_some _ (keep1 _ _ h2),h3⟩
 ·intro h' tk' hd' hk'
  refine ⟨rfl,h h' tk' hd' fun b o e=>?_⟩
  have lt:=Heap.lt_size e
  exact hk' b o (hIs _ (Nat.lt_trans lt hbig)) (Nat.ne_of_lt lt) (Heap.get?_push_of_some _ (keep1 _ _ e))
end
end PySem
end
section
namespace L2
open PySem PySem.Spec PyProof.Rows
theorem KR.rep {N:Addr→Prop} {H:Hp} {v:V} {d:D} (r:KR H v d):RepA N H v d:=by
 induction r with
 | non=>exact .non
 | int i=>exact .int i
 | str x hx=>exact .str x hx
 | tup h hz hl _ ih=>exact .tup h hz hl ih
mutual
noncomputable def WI:D→Bool
 | .non=>true
 | .int _=>true
 | .str _=>true
 | .tup ds=>Tc ds
 | .bl _=>false
 | .lst _=>false
noncomputable def Tc:List D→Bool
 | []=>true
 | d :: ds=>WI d && Tc ds
end
theorem PH:∀ {H:Hp} {v:V} {d:D},KR H v d→∀ {v':V} {e:D},KR H v' e→eqD d e = decide (d = e):=by
 intro H v d r
 have key:∀ {d e:D},eqD d e = true→d = e→eqD d e = decide (d = e):=fun h1 h2=>by rw [h1,decide_eq_true h2]
 have kf:∀ {d e:D},eqD d e = false→d≠e→eqD d e = decide (d = e):=fun h1 h2=>by rw [h1,decide_eq_false h2]
 induction r with
 | non=>intro v' e q; cases q <;> first | exact key rfl rfl | exact kf rfl (fun z=>nomatch z)
 | int i =>
  intro v' e q
  cases q with
  | int j =>
   rw [E7]
   by_cases h:i = j
   ·subst h; simp
   ·rw [decide_eq_false (fun z=>h (by injection z)),beq_eq_false_iff_ne.mpr h]
  | _=>exact kf rfl (fun z=>nomatch z)
 | str x hx =>
  intro v' e q
  cases q with
  | str y hy =>
   rw [Hh]
   by_cases h:x = y
   ·subst h; simp
   ·rw [decide_eq_false (fun z=>h (by injection z)),beq_eq_false_iff_ne.mpr h]
  | _=>exact kf rfl (fun z=>nomatch z)
 | @tup a vs ds h hz hl hr ih =>
  intro v' e q
  cases q with
  | @tup a' vs' es h' hz' hl' hr' =>
   rw [FH]
   by_cases hlen:ds.length = es.length
   ·rw [Df hlen]
    by_cases hde:ds = es
    ·subst hde
     rw [decide_eq_true rfl,List.all_eq_true]
     intro i _
     exact Ep _
    ·rw [decide_eq_false (fun z=>hde (by injection z)),Bool.eq_false_iff]
     intro z
     rw [List.all_eq_true] at z
     refine hde (List.ext_getElem? fun i=>?_)
     by_cases hi:i < ds.length
     ·have z1:=z i (List.mem_range.mpr hi)
      have g3:ds.getD i .non = ds[i]:=by simp [List.getD,hi]
      have hi':i < es.length:=by lia
      have g4:es.getD i .non = es[i]:=by simp [List.getD,hi']
      rw [g3,g4] at z1
      have c:=ih i (vs[i]'(by lia)) ds[i] (by simp) (by simp) (hr' i (vs'[i]'(by lia)) es[i] (by simp) (by simp))
      rw [c] at z1
      rw [List.getElem?_eq_getElem hi,List.getElem?_eq_getElem hi',of_decide_eq_true z1]
     ·rw [List.getElem?_eq_none (by lia),List.getElem?_eq_none (by lia)]
   ·rw [decide_eq_false (fun z=>hlen (by injection z with z; rw [z])),Bool.eq_false_iff]
    exact fun z=>hlen (Dg z)
  | _=>exact kf rfl (fun z=>nomatch z)
section
variable {P:Program} {w:World} {H:Hp} {A:Around} {E:Value→Shared→Prop}
theorem MM:∀ {ds:List D} {i:Nat} {d:D},ds[i]? = some d→(GR w ds)[i]? = some (Dv w d):=by
 intro ds
 induction ds with
 | nil=>intro i d e; simp at e
 | cons x xs ih =>
  intro i d e
  cases i with
  | zero=>simp at e; subst e; rfl
  | succ i=>exact ih (by simpa using e)
theorem MN:∀ {ds:List D},(GR w ds).length = ds.length:=by
 intro ds
 induction ds with
 | nil=>rfl
 | cons x xs ih=>show (GR w xs).length + 1 = _; rw [ih]; rfl
theorem KR.hash {x:V} {d:D} (r:KR H x d):∀ {A:Around} {n:Nat} {v:Value} {s:Shared} {Q:Int→Shared→Prop},HOk P w H s.heap→RelV x v→Sh n d→A.units + n < cLine→(∀ tk,Q (Dv w d) { s with toks:=tk }) →
  wpAny (model P w) A (pyHash v) Q E s:=by
 induction r with
 | non =>
  intro A n v s Q hok rx hs hu h
  cases rx
  exact PySem.W.pyHash_slot (T := "NoneType") rfl F.slot_NoneType_hash F.entry_NoneType_hash (F.args_NoneType_hash_1 _) (beq_builtin_none _) (.inr (by lia)) (wpAny_bind (wpAny_pure (wpAny_bind (wpAny_mkInt (wpAny_pure ⟨_,_,rfl,h _⟩)))))
 | int i=>intro A n v s Q hok rx hs hu h; obtain ⟨t,rfl⟩:=rx; exact wpAny_pyHash_int (h _)
 | str y hy=>intro A n v s Q hok rx hs hu h; obtain ⟨t,rfl⟩:=rx; exact wpAny_pyHash_str (h _)
 | @tup a vs ds hH hz hl hr ih =>
  intro A n v s Q hok rx hs hu h
  cases rx
  cases hs with
  | @tup n _ hs =>
   obtain ⟨_,its,rv,o,ho,hc,k,hd⟩:=(show BH P w H s.heap a (.tup vs) from hok a _ hH)
   have hlen:=rv.length
   refine PySem.W.pyHash_slot (T := "tuple") ⟨_,ho,hc⟩ F.slot_tuple_hash F.entry_tuple_hash (F.args_tuple_hash_1 _) (beq_builtin_none _) (.inr (lt0 hu)) ?_
   show wpAny _ _ (Builtin.Tuple.tupleItemsOf (.ref a) >>= _) _ _ s
   refine wpAny_bind (wpAny_tupleItemsOf ho hd ?_)
   refine wpAny_bind ?_
   rw [← Array.forIn_toList]
   refine wpAny_forIn_list _ (fun rest (b:Array Int) s'=>∃ j tk,rest = its.drop j∧b.toList = (GR w ds).take j∧j≤its.length∧s' = { s with toks:=tk }) _ ?_ ?_ _ _ ⟨0,s.toks,by simp,by simp,Nat.zero_le _,rfl⟩
   ·rintro u rest b s' ⟨j,tk,hj,hb,hjl,rfl⟩
    have hlt:j < its.length:=by
     rcases Nat.lt_or_ge j its.length with z | z
     ·exact z
     ·rw [List.drop_eq_nil_of_le z] at hj; cases hj
    rw [List.drop_eq_getElem_cons hlt] at hj
    injection hj with e1 e2
    have d1:ds[j]? = some (ds[j]'(by lia)):=by simp
    have v1:vs[j]? = some (vs[j]'(by lia)):=by simp
    obtain ⟨u',hu',ru⟩:=rv.get v1
    rw [List.getElem?_eq_getElem hlt,← e1] at hu'
    injection hu' with hu'
    subst hu'
    refine wpAny_bind (ih j _ _ v1 d1 (A:=A.in1) (n:=n) (s:={ s with toks:=tk }) hok ru (hs _ (List.mem_of_getElem? d1)) (lt1 hu) fun tk'=>?_)
    refine wpAny_bind (wpAny_pure (wpAny_pure ⟨j + 1,tk',e2,?_,hlt,rfl⟩))
    rw [Array.toList_push,hb,List.take_succ,MM d1]
    rfl
   ·rintro b s' ⟨j,tk,hj,hb,hjl,rfl⟩
    have hjj:j = its.length:=by
     have:=congrArg List.length hj
     simp at this
     lia
    show wpAny _ _ (retInt (Builtin.Tuple.tupleHashOf b.toList)) _ _ _
    rw [hb,hjj,← hlen,hl,List.take_of_length_le (by rw [MN]; exact Nat.le_refl _)]
    exact wpAny_bind (wpAny_mkInt (wpAny_pure ⟨_,_,rfl,h _⟩))
theorem KR.quiet {x:V} {d:D} (r:KR H x d):∀ {A:Around} {n:Nat} {v:Value} {s:Shared} {Q:Bool→Shared→Prop},HOk P w H s.heap→RelV x v→Sh n d→Q true s→wpAny (model P w) A (eqIsQuiet n v) Q E s:=by
 induction r with
 | non=>intro A n v s Q hok rx hs h; cases rx; rw [eqIsQuiet_byValue _ rfl]; exact wpAny_pure h
 | int i=>intro A n v s Q hok rx hs h; obtain ⟨t,rfl⟩:=rx; rw [eqIsQuiet_byValue _ rfl]; exact wpAny_pure h
 | str y hy=>intro A n v s Q hok rx hs h; obtain ⟨t,rfl⟩:=rx; rw [eqIsQuiet_byValue _ rfl]; exact wpAny_pure h
 | @tup a vs ds hH hz hl hr ih =>
  intro A n v s Q hok rx hs h
  cases rx
  cases hs with
  | @tup n _ hs =>
   obtain ⟨_,its,rv,o,ho,hc,k,hd⟩:=(show BH P w H s.heap a (.tup vs) from hok a _ hH)
   have hlen:=rv.length
   have hT:s.TypeIs (.ref a) "tuple" := ⟨_,ho,hc⟩
   unfold eqIsQuiet
   refine wpAny_bind (wpAny_specialOf hT F.slot_tuple_eq.lookup ?_)
   show wpAny _ _ (isInstance (.ref a) (.type "tuple") >>= _) _ _ s
   refine wpAny_bind (wpAny_isInstance hT isSubtype_tuple_tuple ?_)
   simp only [Bool.not_true,Bool.false_eq_true,if_false]
   refine wpAny_bind (wpAny_seqItems ho hd ?_)
   refine wpAny_bind ?_
   show wpAny _ _ (forIn its.toArray _ _) _ _ s
   rw [← Array.forIn_toList]
   refine wpAny_forIn_list _ (fun rest r s'=>r.1 = none∧s' = s∧∃ j,rest = its.drop j) _ ?_ ?_ _ _ ⟨rfl,rfl,0,by simp⟩
   ·rintro u rest r s' ⟨hr',rfl,j,hj⟩
    have hlt:j < its.length:=by
     rcases Nat.lt_or_ge j its.length with z | z
     ·exact z
     ·rw [List.drop_eq_nil_of_le z] at hj; cases hj
    rw [List.drop_eq_getElem_cons hlt] at hj
    injection hj with e1 e2
    have d1:ds[j]? = some (ds[j]'(by lia)):=by simp
    have v1:vs[j]? = some (vs[j]'(by lia)):=by simp
    obtain ⟨u',hu',ru⟩:=rv.get v1
    rw [List.getElem?_eq_getElem hlt,← e1] at hu'
    injection hu' with hu'
    subst hu'
    refine wpAny_bind (ih j _ _ v1 d1 (n:=n) hok ru (hs _ (List.mem_of_getElem? d1)) ?_)
    simp only [Bool.not_true,Bool.false_eq_true,if_false]
    exact wpAny_pure ⟨rfl,rfl,j + 1,e2⟩
   ·rintro ⟨r1,r2⟩ s' ⟨hr',rfl,_⟩
    simp only at hr'
    subst hr'
    exact wpAny_pure h
end
section
variable {P:Program} {w:World} {A:Around} {E:Value→Shared→Prop} {s:Shared} {R:D→Value→Prop}
structure KeyRel (P:Program) (w:World) (A:Around) (s:Shared) (R:D→Value→Prop):Prop where
 eq:∀ {d e:D} {u v:Value},R d u→R e v→SeqAt.EqAt A s u v (decide (d = e))
 quiet:∀ {d:D} {u:Value} {E:Value→Shared→Prop} {Q:Bool→Shared→Prop},R d u→Q true s→wpAny (model P w) A (eqIsQuiet 8 u) Q E s
 inj:∀ {d e:D} {u:Value},R d u→R e u→d = e
 str:∀ {d:D} {x:Str} {t:Tok},R d (.str x t)→d = .str x
 txt:∀ {x:Str} {u:Value},R (.str x) u→∃ t,u = .str x t
noncomputable def C4 (xs:List (D × Value × Value)) (k:D):Option Nat:=xs.findIdx? fun x=>decide (x.1 = k)
theorem D8 {xs:List (D × Value × Value)} {k:D} {j:Nat} {p:Value × Value} (hn:(xs.map (·.1)).Nodup) (hj:xs[j]? = some (k,p)):C4 xs k = some j:=by
 unfold C4
 rw [List.findIdx?_eq_some_iff_getElem]
 obtain ⟨hlt,he⟩:=List.getElem?_eq_some_iff.mp hj
 refine ⟨hlt,by rw [he]; simp,fun i hi=>?_⟩
 have hne:¬ (xs[i]'(by lia)).1 = k:=fun e=>by
  have h1:(xs.map (·.1))[i]? = some k:=by rw [List.getElem?_map,List.getElem?_eq_getElem (by lia)]; simp [e]
  have h2:(xs.map (·.1))[j]? = some k:=by rw [List.getElem?_map,hj]; rfl
  have:=(List.getElem?_inj (List.getElem?_eq_some_iff.mp h1).1 hn).mp (h1.trans h2.symm)
  lia
 simpa using hne
theorem LW {xs:List (D × Value × Value)} {k:D} (h:∀ (j:Nat) p,xs[j]? ≠ some (k,p)):C4 xs k = none:=by
 unfold C4
 rw [List.findIdx?_eq_none_iff]
 intro x hx
 obtain ⟨j,hj⟩:=List.mem_iff_getElem?.mp hx
 simp only [decide_eq_false_iff_not]
 exact fun e=>h j x.2 (by rw [hj,← e])
theorem Gb (K:KeyRel P w A s R) {key:Value} {k:D} {stored:List Value} {Q:Bool→Shared→Prop} (hkey:R k key) (hst:∀ v∈stored,∃ d,R d v) (h:Q false s):wpAny (model P w) A (tableMayTell key stored) Q E s:=by
 unfold tableMayTell
 split
 ·exact wpAny_pure h
 ·refine wpAny_bind (K.quiet hkey ?_)
  simp only [Bool.not_true,Bool.false_eq_true,if_false]
  refine wpAny_bind (wpAny_forIn_list _ (fun rest r s'=>s' = s∧r = (none,())∧∀ v∈rest,∃ d,R d v) _ ?_ ?_ _ _ ⟨rfl,rfl,hst⟩)
  ·rintro x rest r s' ⟨rfl,rfl,hr⟩
   obtain ⟨d,hb⟩:=hr x List.mem_cons_self
   refine wpAny_bind (K.quiet hb ?_)
   simp only [Bool.not_true,Bool.false_eq_true,if_false]
   exact wpAny_pure ⟨rfl,rfl,fun v hv=>hr v (List.mem_cons_of_mem _ hv)⟩
  ·rintro r s' ⟨rfl,rfl,_⟩
   exact wpAny_pure h
theorem FW {α:Type} {M:Model} {c:Bool} {a b:Sem α} {Q:α → Shared→Prop} (h1:wpAny M A a Q E s) (h2:wpAny M A b Q E s):wpAny M A (if c = true then a else b) Q E s:=by
 cases c
 ·exact h2
 ·exact h1
theorem MH {α:Type} {p q:α → Bool} {l:List α} (h:∀ x∈l,p x = q x):l.findIdx? p = l.findIdx? q:=by
 induction l with
 | nil=>rfl
 | cons x l ih=>rw [List.findIdx?_cons,List.findIdx?_cons,h x List.mem_cons_self,ih fun y hy=>h y (List.mem_cons_of_mem _ hy)]
structure EntG (w:World) (R:D→Value→Prop) (es:Array DictEntry) (xs:List (D × Value × Value)):Prop where
 es:es.toList = xs.map (IM w)
 rel:∀ x∈xs,R x.1 x.2.1
 nd:(xs.map (·.1)).Nodup
theorem EntG.at {es:Array DictEntry} {xs:List (D × Value × Value)} (h:EntG w R es xs) (j:Nat):es[j]? = (xs[j]?).map (IM w):=by
 rw [← Array.getElem?_toList,h.es,List.getElem?_map]
theorem EntG.size {es:Array DictEntry} {xs:List (D × Value × Value)} (h:EntG w R es xs):es.size = xs.length:=by
 rw [← Array.length_toList,h.es,List.length_map]
theorem TH (K:KeyRel P w A s R) {d:Addr} {o:Obj} {es ep} {xs:List (D × Value × Value)} {k:D} {key:Value} {Q:Option Nat→Shared→Prop} (hkey:R k key)
  (ho:s.heap.get? d = some o) (hd:o.data = .dict es ep) (he:EntG w R es xs) (h:Q (C4 xs k) s):wpAny (model P w) A (dictFind d key (Dv w k)) Q E s:=by
 have hsz:=he.size
 have hpl:∀ j,j∈placesWithHash es.size (fun i=>es[i]?.map (·.hash)) (Dv w k)↔j < xs.length∧∃ x,xs[j]? = some x∧Dv w x.1 = Dv w k:=by
  intro j
  unfold placesWithHash
  rw [List.mem_filter,List.mem_range,hsz]
  refine and_congr_right fun hj=>?_
  dsimp only
  rw [he.at,List.getElem?_eq_getElem hj]
  simp [IM]
 have hmem:∀ j x,xs[j]? = some x→es[j]? = some (IM w x):=fun j x e=>by rw [he.at,e]; rfl
 have hend:(∀ j∈placesWithHash es.size (fun i=>es[i]?.map (·.hash)) (Dv w k),∀ p,xs[j]? ≠ some (k,p))→C4 xs k = none:=fun z=>LW fun j p e=>z j ((hpl j).mpr ⟨(List.getElem?_eq_some_iff.mp e).1,_,e,rfl⟩) p e
 have hst:∀ v∈(placesWithHash es.size (fun i=>es[i]?.map (·.hash)) (Dv w k)).filterMap (fun i=>es[i]?.map (·.key)),∃ d',R d' v:=by
  intro v hv
  obtain ⟨i,hi,e⟩:=List.mem_filterMap.mp hv
  obtain ⟨_,x,hx,_⟩:=(hpl i).mp hi
  rw [hmem i x hx] at e
  obtain rfl:x.2.1 = v:=by simpa [IM] using e
  exact ⟨x.1,he.rel x (List.mem_of_getElem? hx)⟩
 generalize hP:placesWithHash es.size (fun i=>es[i]?.map (·.hash)) (Dv w k) = pl at hpl hend hst
 have old:wpAny (model P w) A (dictWalkPlain d key (Dv w k) es pl) Q E s:=by
  refine wpAny_bind (wpAny_forIn_list _ (fun rest b s'=>s' = s∧b = (none,())∧(∀ j∈rest,j∈pl)∧∀ j∈pl,j∈rest∨∀ p,xs[j]? ≠ some (k,p)) _ ?_ ?_ _ _ ⟨rfl,rfl,fun _ h=>h,fun _ h=>.inl h⟩)
  ·rintro x rest b s' ⟨rfl,rfl,h1,h2⟩
   obtain ⟨hlt,y,hy,hh⟩:=(hpl x).mp (h1 x List.mem_cons_self)
   have hyr:=he.rel y (List.mem_of_getElem? hy)
   have next:¬ y.1 = k→((∀ j∈rest,j∈pl)∧∀ j∈pl,j∈rest∨∀ p,xs[j]? ≠ some (k,p)):=fun hne=>⟨fun j hj=>h1 j (List.mem_cons_of_mem _ hj),fun j hj=>by
    rcases h2 j hj with z | z
    ·rcases List.mem_cons.mp z with rfl | z
     ·exact .inr fun p e=>by rw [hy] at e; injection e with e; exact hne (by rw [e])
     ·exact .inl z
    ·exact .inr z⟩
   rw [hmem x y hy]
   dsimp only [IM]
   rw [if_pos (by rw [hh]; exact beq_self_eq_true _)]
   refine wpAny_bind (wpAny_dictEpoch ho hd (wpAny_bind (K.eq hyr hkey P w E _ (wpAny_bind (wpAny_dictEpoch ho hd ?_)))))
   show wpAny _ _ (if (ep != ep) = true then _ else _) _ E _
   rw [if_neg (by simp)]
   by_cases hkk:y.1 = k
   ·rw [decide_eq_true hkk]
    rw [D8 he.nd (show xs[x]? = some (k,y.2) by rw [hy,← hkk])] at h
    exact wpAny_bind (wpAny_rule (wpAny_pure (wpAny_pure h)))
   ·rw [decide_eq_false hkk]
    exact wpAny_bind (wpAny_rule (wpAny_pure ⟨rfl,rfl,next hkk⟩))
  ·rintro b s' ⟨rfl,rfl,h1,h2⟩
   rw [hend fun j hj=>(h2 j hj).resolve_left (by simp)] at h
   exact wpAny_pure h
 have hany:∀ a,key = .ref a→¬ (es.any fun e=>e.key == Value.ref a && e.hash != Dv w k) = true:=by
  rintro a rfl
  rw [← Array.any_toList,List.any_eq_true]
  rintro ⟨e,hin,hc⟩
  rw [he.es] at hin
  obtain ⟨x,hx,rfl⟩:=List.mem_map.mp hin
  simp only [IM,Bool.and_eq_true,beq_iff_eq,bne_iff_ne,ne_eq] at hc
  have:=he.rel x hx
  rw [hc.1] at this
  exact hc.2 (by rw [K.inj this hkey])
 have body:∀ stored:List Value,(∀ v∈stored,∃ d',R d' v)→∀ tells:Bool,tells = false→wpAny (model P w) A (do
   if tells && stored.length ≥ 2 then unsupported "dict.find:order-among-keys-of-one-hash"
   let mut hit:Option Nat:=none
   for i in pl do
    if let some e:=es[i]? then
     if e.hash == Dv w k then
      let before ← dictEpoch d (keyPart key)
      let same ← eqBool e.key key
      if (← dictEpoch d (keyPart key)) != before then unsupported "dict.changed-during-lookup"
      if same then
       if hit.isSome then unsupported "dict.find:order-among-keys-of-one-hash"
       rule "dict.find.hit"
       if stored.length < 2 then return some i
       hit:=some i
      else
       rule "dict.find.same-hash-other-key"
       if tells && !(0≤Dv w k && Dv w k < 32) then unsupported "dict.find:asked-again-or-not-hangs-on-the-table"
   return hit) Q E s:=by
  intro stored hs tells ht
  subst ht
  rw [if_neg (by simp)]
  refine wpAny_bind ?_
  refine wpAny_forIn_list _ (fun rest b s'=>s' = s∧b.1 = none∧rest.Nodup∧(∀ j∈rest,j∈pl)∧(∀ j∈pl,j∈rest∨(∀ p,xs[j]? ≠ some (k,p))∨b.2 = some j)∧∀ j,b.2 = some j→j ∉ rest∧∃ p,xs[j]? = some (k,p)) _ ?_ ?_ _ _ ⟨rfl,rfl,by rw [← hP]; exact List.Pairwise.filter _ List.nodup_range,fun _ h=>h,fun _ h=>.inl h,fun _ h=>nomatch h⟩
  ·rintro x rest ⟨b1,hit⟩ s' ⟨rfl,rfl,hnd,h1,h2,h3⟩
   rw [List.nodup_cons] at hnd
   obtain ⟨hlt,y,hy,hh⟩:=(hpl x).mp (h1 x List.mem_cons_self)
   have hyr:=he.rel y (List.mem_of_getElem? hy)
   rw [hmem x y hy]
   dsimp only [IM]
   rw [if_pos (by rw [hh]; exact beq_self_eq_true _)]
   refine wpAny_bind (wpAny_dictEpoch ho hd (wpAny_bind (K.eq hyr hkey P w E _ (wpAny_bind (wpAny_dictEpoch ho hd ?_)))))
   show wpAny _ _ (if (ep != ep) = true then _ else _) _ E _
   rw [if_neg (by simp)]
   by_cases hkk:y.1 = k
   ·rw [decide_eq_true hkk]
    have hxk:xs[x]? = some (k,y.2):=by rw [hy,← hkk]
    have hp:=D8 he.nd hxk
    have hn:hit = none:=by
     cases hit with
     | none=>rfl
     | some j =>
      obtain ⟨q1,p,q2⟩:=h3 j rfl
      have:=(D8 he.nd q2).symm.trans hp
      injection this with this
      subst this
      exact absurd List.mem_cons_self q1
    subst hn
    rw [if_pos rfl]
    simp only [Option.isSome_none,Bool.false_eq_true,if_false]
    refine wpAny_bind (wpAny_rule ?_)
    split
    ·rw [hp] at h
     exact wpAny_pure (wpAny_pure h)
    ·refine wpAny_pure ⟨rfl,rfl,hnd.2,fun j hj=>h1 j (List.mem_cons_of_mem _ hj),fun j hj=>?_,fun j hj=>?_⟩
     ·rcases h2 j hj with z | z | z
      ·rcases List.mem_cons.mp z with rfl | z
       ·exact .inr (.inr rfl)
       ·exact .inl z
      ·exact .inr (.inl z)
      ·cases z
     ·injection hj with hj
      subst hj
      exact ⟨hnd.1,_,hxk⟩
   ·rw [decide_eq_false hkk]
    simp only [Bool.false_eq_true,if_false]
    refine wpAny_bind (wpAny_rule ?_)
    have step:(fun (b:Option (Option Nat) × Option Nat) (s'':Shared)=>s'' = s'∧b.1 = none∧rest.Nodup∧(∀ j∈rest,j∈pl)∧(∀ j∈pl,j∈rest∨(∀ p,xs[j]? ≠ some (k,p))∨b.2 = some j)∧∀ j,b.2 = some j→j ∉ rest∧∃ p,xs[j]? = some (k,p)) (none,hit) s':=by
     refine ⟨rfl,rfl,hnd.2,fun j hj=>h1 j (List.mem_cons_of_mem _ hj),fun j hj=>?_,fun j hj=>?_⟩
     ·rcases h2 j hj with z | z
      ·rcases List.mem_cons.mp z with rfl | z
       ·exact .inr (.inl fun p e=>by rw [hy] at e; injection e with e; exact hkk (by rw [e]))
       ·exact .inl z
      ·exact .inr z
     ·obtain ⟨q1,q2⟩:=h3 j hj
      exact ⟨fun z=>q1 (List.mem_cons_of_mem _ z),q2⟩
    first
     | exact wpAny_pure step
     | exact wpAny_bind (wpAny_pure (wpAny_pure step))
     | (rw [if_neg (by simp)]; exact wpAny_pure step)
     | (rw [if_neg (by simp)]; exact wpAny_bind (wpAny_pure (wpAny_pure step)))
  ·rintro ⟨b1,hit⟩ s' ⟨rfl,rfl,_,h1,h2,h3⟩
   cases hit with
   | none =>
    rw [hend fun j hj=>((h2 j hj).resolve_left (by simp)).resolve_right (fun z=>nomatch z)] at h
    exact wpAny_pure h
   | some j =>
    obtain ⟨_,p,q2⟩:=h3 j rfl
    rw [D8 he.nd q2] at h
    exact wpAny_pure h
 unfold dictFind
 try with_reducible refine wpAny_holding ?_
 refine wpAny_bind (wpAny_dictEntries ho hd ?_)
 dsimp only
 rw [hP]
 cases key with
 | str x t =>
  dsimp only
  refine FW ?_ ?_
  ·have hkx:=K.str hkey
   subst hkx
   have hfi:es.findIdx? (·.key.isStr x) = C4 xs (.str x):=by
    have e1:es.findIdx? (·.key.isStr x) = es.toList.findIdx? (·.key.isStr x):=by obtain ⟨l⟩:=es; simp
    rw [e1,he.es,List.findIdx?_map]
    unfold C4
    refine MH fun y hy=>?_
    have hyr:=he.rel y hy
    show y.2.1.isStr x = decide (y.1 = .str x)
    cases hk:decide (y.1 = D.str x) with
    | true =>
     have e:=of_decide_eq_true hk
     rw [e] at hyr
     obtain ⟨t',e'⟩:=K.txt hyr
     rw [e']
     exact beq_self_eq_true x
    | false =>
     cases hv:y.2.1 with
     | str z t' =>
      rw [hv] at hyr
      have:=K.str hyr
      rw [this] at hk
      have hne:¬ z = x:=fun e=>by rw [e] at hk; simp at hk
      exact beq_eq_false_iff_ne.mpr hne
     | _=>rfl
   unfold foundByValue
   rw [hfi]
   cases hpq:C4 xs (.str x) with
   | none=>rw [hpq] at h; exact wpAny_pure h
   | some i =>
    rw [hpq] at h
    unfold C4 at hpq
    obtain ⟨hlt,hi,_⟩:=List.findIdx?_eq_some_iff_getElem.mp hpq
    have hy:xs[i]? = some xs[i]:=List.getElem?_eq_getElem hlt
    dsimp only
    rw [hmem i _ hy]
    refine wpAny_bind (wpAny_dictEpoch ho hd (wpAny_bind (K.eq (he.rel _ (List.getElem_mem hlt)) hkey P w E _ (wpAny_bind (wpAny_dictEpoch ho hd ?_)))))
    show wpAny _ _ (if (ep != ep) = true then _ else _) _ E _
    rw [if_neg (by simp),hi]
    exact wpAny_bind (wpAny_rule (wpAny_pure h))
  ·exact FW old (FW (wpAny_bind (wpAny_pure (body _ hst false rfl))) (wpAny_bind (Gb K hkey hst (body _ hst false rfl))))
 | ref a =>
  dsimp only
  refine FW old ?_
  rw [if_neg (hany a rfl)]
  exact FW (wpAny_bind (wpAny_pure (body _ hst false rfl))) (wpAny_bind (Gb K hkey hst (body _ hst false rfl)))
 | _=>exact FW old (FW (wpAny_bind (wpAny_pure (body _ hst false rfl))) (wpAny_bind (Gb K hkey hst (body _ hst false rfl))))
end
section
variable {P:Program} {w:World} {H:Hp} {A:Around} {E:Value→Shared→Prop} {s:Shared} {a:Addr} {kvs:List (D × V)} {k:D} {y v:V} {u r:Value}
noncomputable def KU (H:Hp) (d:D) (u:Value):Prop:=Sh 8 d∧∃ y,KR H y d∧RelV y u
theorem KU.rel (hok:HOk P w H s.heap) (hu:A.units + 8 < cLine):KeyRel P w A s (KU H) where
 eq:=fun ⟨h1,y1,k1,r1⟩ ⟨_,y2,k2,r2⟩=>by
  rw [← PH k1 k2]
  exact HU (N:=fun _=>False) (N':=fun _=>False) hok k1.rep k2.rep r1 r2 h1 hu
 quiet:=fun ⟨h1,y1,k1,r1⟩ h=>k1.quiet hok r1 h1 h
 inj:=fun ⟨_,y1,k1,r1⟩ ⟨_,y2,k2,r2⟩=>by
  cases r1.inj r2
  exact (k1.rep (N:=fun _=>False)).inj (k2.rep (N:=fun _=>False))
 str:=fun {d x t} ⟨_,y1,k1,r1⟩=>by
  cases r1.inj (show RelV (.str x) (.str x t) from ⟨t,rfl⟩)
  cases k1
  rfl
 txt:=fun ⟨_,y1,k1,r1⟩=>by
  cases k1
  exact r1
noncomputable def NL (xs:List (D × Value × Value)) (k:D):Option Value:=(xs.find? fun x=>decide (x.1 = k)).map (·.2.2)
theorem NM {xs:List (D × Value × Value)} {k:D}:NL xs k = (C4 xs k).bind fun i=>(xs[i]?).map (·.2.2):=by
 unfold NL C4
 induction xs with
 | nil=>rfl
 | cons x xs ih =>
  rw [List.find?_cons,List.findIdx?_cons]
  by_cases h:x.1 = k
  ·simp [h]
  ·simp only [decide_eq_false h,Bool.false_eq_true,if_false]
   rw [ih]
   cases xs.findIdx? fun x=>decide (x.1 = k) <;> rfl
structure RawG (w:World) (H:Hp) (h:Heap) (a:Addr) (kvs:List (D × V)) (o:Obj) (es:Array DictEntry) (ep:Nat) (xs:List (D × Value × Value)):Prop where
 sz:kvs.length≤sizeLine
 nm:(a == sysModules) = false
 pr:Paired (fun (p:D × V) (q:D × Value × Value)=>p.1 = q.1∧RelV p.2 q.2.2) kvs xs
 ob:h.get? a = some o
 ex:o.ExactDict
 dt:o.data = .dict es ep
 en:EntG w (KU H) es xs
theorem RawG.of (x:BH P w H s.heap a (.dT kvs)):∃ o es ep xs,RawG w H s.heap a kvs o es ep xs:=by
 obtain ⟨z,y,xs,r,o,es,ep,h1,h2,h3,h4,h5⟩:=x
 refine ⟨o,es,ep,xs,z,y,Paired.mapP r fun _ _ q=>⟨q.1,q.2.2⟩,h1,h2,h3,h4,?_,h5⟩
 clear h4 h5 z
 induction r with
 | nil=>intro x hx; exact nomatch hx
 | @cons p q ps qs hq t ih =>
  intro x hx
  rcases List.mem_cons.mp hx with e | hx
  ·subst e; rw [← hq.1]; exact hq.2.1
  ·exact ih x hx
theorem Ss {kvs:List (D × V)} {xs:List (D × Value × Value)} (q:Paired (fun (p:D × V) (q:D × Value × Value)=>p.1 = q.1∧RelV p.2 q.2.2) kvs xs) (k:D):JC ((kvs.find? fun kv=>decide (kv.1 = k)).map (·.2)) (NL xs k):=by
 unfold NL
 induction q with
 | nil=>exact True.intro
 | @cons p q ps qs h t ih =>
  rw [List.find?_cons,List.find?_cons]
  by_cases e:p.1 = k
  ·rw [decide_eq_true e,decide_eq_true (h.1.symm.trans e)]; exact h.2
  ·rw [decide_eq_false e,decide_eq_false fun z=>e (h.1.trans z)]; exact ih
theorem VX (hok:HOk P w H s.heap) (hu:A.units + 8 < cLine) {o:Obj} {es ep xs} (g:RawG w H s.heap a kvs o es ep xs) (hk:KU H k u) {Q:Option Value→Shared→Prop} (h:∀ tk,Q (NL xs k) { s with toks:=tk }) :
  wpAny (model P w) A (dictGet a u) Q E s:=by
 obtain ⟨hs,y,ky,ry⟩:=hk
 unfold dictGet
 try with_reducible refine wpAny_holding ?_
 refine wpAny_bind (ky.hash hok ry hs hu fun tk=>wpAny_bind (TH (s:={ s with toks:=tk }) (KU.rel hok hu) ⟨hs,y,ky,ry⟩ g.ob g.dt g.en ?_))
 have h:=h tk
 rw [NM] at h
 cases hp:C4 xs k with
 | none=>rw [hp] at h; exact wpAny_pure h
 | some i =>
  rw [hp] at h
  refine wpAny_bind (wpAny_dictEntries (s:={ s with toks:=tk }) g.ob g.dt ?_)
  refine wpAny_pure ?_
  rw [g.en.at]
  have e:Option.map (·.val) (Option.map (IM w) xs[i]?) = Option.map (·.2.2) xs[i]?:=by cases xs[i]? <;> rfl
  rw [e]
  exact h
theorem RawG.ty {o:Obj} {es ep xs} (g:RawG w H s.heap a kvs o es ep xs):s.TypeIs (.ref a) "dict" := ⟨o,g.ob,g.ex.1⟩
theorem lt8 {n c:Nat} (h:n + 10 < c):n + 1 + 8 < c:=by lia
theorem T3 (hok:HOk P w H s.heap) (hu:A.units + 10 < cLine) {o:Obj} {es ep xs} (g:RawG w H s.heap a kvs o es ep xs) (hk:KU H k u) (hv:NL xs k = some r) {Q:Value→Shared→Prop} (h:∀ tk,Q r { s with toks:=tk }) :
  wpAny (model P w) A (getItem (.ref a) u) Q E s:=by
 unfold getItem
 try with_reducible refine wpAny_holding ?_
 refine wpAny_bind (wpAny_sequenceKey g.ty (by decide) ?_)
 refine wpAny_bind (wpAny_callSpecial?_slot (name:=Str.ofString "__getitem__") g.ty slot_dict_getitem (wpAny_call_entry slot_dict_getitem g.ty entry_dict_getitem ?_ (args_dict_getitem _ _)))
 show wpAny _ _ (dictGet a u >>= _) _ _ s
 refine wpAny_bind (VX (A:=A.in1) hok (lt8 hu) g hk fun tk=>?_)
 rw [hv]
 exact wpAny_pure ⟨r,rfl,wpAny_pure (h tk)⟩
end
section
variable {κ:Type} [DecidableEq κ]
noncomputable def IJ (kvs:List (κ × V)) (k : κ):Option V:=(kvs.find? fun kv=>decide (kv.1 = k)).map (·.2)
theorem Rq {p : κ × V} {r:List (κ × V)} {k : κ} (e:p.1 = k):IJ (p :: r) k = some p.2:=by simp [IJ,List.find?_cons,e]
theorem Rp {p : κ × V} {r:List (κ × V)} {k : κ} (e:¬ p.1 = k):IJ (p :: r) k = IJ r k:=by simp [IJ,List.find?_cons,e]
theorem KV.val {kvs:List (κ × V)} {vs:List (κ × Value)} (r:KV kvs vs) (k : κ):JC (IJ kvs k) (valueAt vs k):=by
 unfold KV at r
 induction r with
 | nil=>exact True.intro
 | @cons p q ps qs h t ih =>
  obtain ⟨h1,h2⟩:=h
  by_cases e:p.1 = k
  ·have e':q.1 = k:=h1.symm.trans e
   have b:valueAt (q :: qs) k = some q.2:=by simp [valueAt,List.find?_cons,e']
   rw [Rq e,b]; exact h2
  ·have e':¬ q.1 = k:=fun z=>e (h1.trans z)
   have b:valueAt (q :: qs) k = valueAt qs k:=by simp [valueAt,List.find?_cons,e']
   rw [Rp e,b]; exact ih
theorem KV.keys {kvs:List (κ × V)} {vs:List (κ × Value)} (r:KV kvs vs):kvs.map (·.1) = vs.map (·.1):=by
 unfold KV at r
 induction r with
 | nil=>rfl
 | cons h t ih=>rw [List.map_cons,List.map_cons,ih,h.1]
theorem KV.length {kvs:List (κ × V)} {vs:List (κ × Value)} (r:KV kvs vs):kvs.length = vs.length:=Paired.length r
end
theorem Tb {P:Program} {w:World} {k:Key} {u:Value} (r:RelV (kV k) u):(D5 P w).is k u = true:=by
 cases k with
 | inl i=>obtain ⟨t,e⟩:=(show ∃ t,u = Value.int i t from r); subst e; exact LC P w i t
 | inr x=>obtain ⟨t,e⟩:=(show ∃ t,u = Value.str x t from r); subst e; exact LD P w x t
section
variable {P:Program} {w:World} {H:Hp} {h:Heap} {a:Addr}
theorem Q1 {u:HO} (ok:HOk P w H h) (e:Rd H a u):BH P w H h a u:=e.ok ok
theorem S6 {kvs:List (Key × V)} (ok:HOk P w H h) (e:Rd H a (.dK kvs)):kvs.length≤sizeLine∧(a == sysModules) = false∧∃ vs,KV kvs vs∧h.DictOf (D5 P w) a vs:=
 show BH P w H h a (.dK kvs) from Q1 ok e
end
noncomputable def Mq (H:Hp) (a:Addr) (y:V) (r:Option V):Prop:=
 (∃ kvs k,Rd H a (.dK kvs)∧y = kV k∧r = IJ kvs k)∨∃ kvs k,Rd H a (.dT kvs)∧KR H y k∧Sh 8 k∧r = IJ kvs k
theorem Mq.k {H:Hp} {a:Addr} {kvs:List (Key × V)} {k:Key} (e:H a = some (.dK kvs)):Mq H a (kV k) (IJ kvs k):=.inl ⟨kvs,k,.inl e,rfl,rfl⟩
section
variable {X:Cx} {pins:List (Addr × Obj)} {σ:St} {H:Hp} {s:Shared} {a:Addr} {y v:V} {u r:Value} {o:Option V} {A:Around} {E:Value→Shared→Prop}
theorem Inv.big (I:Inv X pins σ H s):sysModules < s.heap.objs.size:=by
 have h:mainGlobals < s.heap.objs.size:=(I.mod.glob.keeps I.bk).lt
 exact Nat.lt_trans (by decide) h
theorem OH {Q:Value→Shared→Prop} (hu:A.units + 10 < cLine) (I:Inv X pins σ H s) (g:Mq H a y (some v)) (ry:RelV y u) (h:∀ w' s',Inv X pins σ H s'→RelV v w'→Q w' s') :
  wpAny (model X.prog X.w) A (getItem (.ref a) u) Q E s:=by
 rcases g with ⟨kvs,k,e,ey,l⟩ | g
 ·subst ey
  obtain ⟨z,hd,vs,rel,dd⟩:=S6 I.hok e
  obtain ⟨w',hw,rw'⟩:=JC.some_of (v:=v) (o:=valueAt vs k) (by rw [l]; exact rel.val k)
  exact wpAny_getItem_of (Tb ry) dd.mapOf hw (h w' _ (I.tok _) rw')
 ·obtain ⟨kvs,k,e,ky,hs,l⟩:=g
  obtain ⟨ob,es,ep,xs,g⟩:=RawG.of (Q1 I.hok e)
  obtain ⟨w',hw,rw'⟩:=JC.some_of (v:=v) (o:=NL xs k) (by rw [l]; exact Ss g.pr k)
  exact T3 I.hok hu g ⟨hs,_,ky,ry⟩ hw fun tk=>h w' _ (I.tok _) rw'
end
section
variable {X:Cx} {pins:List (Addr × Obj)} {σ:St} {H:Hp} {s:Shared} {a:Addr} {kvs:List (Key × V)} {k:Key} {u:Value} {A:Around} {E:Value→Shared→Prop}
end
noncomputable def Ts (i:Expr):Prop:=∀ ov iv,subscripted i false ov iv = operate [ov,iv] (getItem ov iv)
theorem SS {prog:Program} {w:World} {A:Around} {E:Value→Shared→Prop} {s:Shared} {env:Env} {value slice:Expr} {pos:Pos} {T id:String} {Q:Value→Shared→Prop}
  (hl:typeLookup (.type T) "__getitem__" = pure (some (.builtin id))) (hs:Ts slice)
  (h:wpAny (model prog w) A (eval value env) (fun o s₁=>wpAny (model prog w) A (eval slice env) (fun i s₂=>s₂.TypeIs o T∧wpAny (model prog w) A (getItem o i) Q E s₂) E s₁) E s) :
  wpAny (model prog w) A (eval (.Subscript value slice pos) env) Q E s:=by
 refine Subscript_ (wpAny_mono h (fun o s₁ h₁=>wpAny_mono h₁ (fun i s₂ h₂=>?_) fun _ _ x=>x) fun _ _ x=>x)
 obtain ⟨hT,h₂⟩:=h₂
 unfold subscriptTail
 refine wpAny_bind ?_
 rw [getitemInPython_of_ne hT.not_modules]
 refine wpAny_bind (wpAny_specialOf hT hl ?_)
 have fin:wpAny (model prog w) A (subscripted slice false o i) (fun r s₃=>wpAny (model prog w) A (letTemporaryGo value o r >>= fun _=>pure r) Q E s₃) E s₂:=by
  rw [hs o i]
  exact wpAny_operating (wpAny_mono h₂ (fun r s₃ h₃=>wpAny_bind (wpAny_letTemporaryGo (wpAny_pure h₃))) fun _ _ x=>x)
 first
  | exact wpAny_pure (wpAny_bind fin)
  | exact wpAny_bind (wpAny_pure (wpAny_bind fin))
  | exact wpAny_bind fin
theorem Lk {X:Cx} {pins:List (Addr × Obj)} {σ:St} {H:Hp} {s:Shared} {a:Addr} {y:V} {o:Option V} (I:Inv X pins σ H s) (g:Mq H a y o):s.TypeIs (.ref a) "dict" := by
 rcases g with ⟨kvs,k,e,_,_⟩ | g
 ·obtain ⟨_,_,vs,_,dd⟩:=S6 I.hok e
  exact dd.typeIs
 ·obtain ⟨kvs,k,e,_⟩:=g
  obtain ⟨ob,es,ep,xs,g⟩:=RawG.of (Q1 I.hok e)
  exact g.ty
noncomputable def Wr (td ty:TE):TE:=fun σ H Q=>td σ H fun x H1=>ty σ H1 fun y H2=>∃ a v,x = .ref a∧Mq H2 a y (some v)∧Q v H2
section
variable {X:Cx} {o i e value:Expr} {pos pos' tpos:Pos} {td ty tv:TE}
theorem Sj (hu:X.A.units + 10 < cLine) (ho:PE X o td) (hi:PE X i ty) (hs:Ts i):PE X (.Subscript o i pos) (Wr td ty):=by
 intro pins s σ H Q I h
 refine SS PySem.F.slot_dict_getitem.lookup hs (thn (ho pins s σ H _ I h) fun u s1 ⟨x,H1,I1,rx,q1⟩=>thn (hi pins s1 σ H1 _ I1 q1) fun iv s2 yy=>?_)
 obtain ⟨y,H2,I2,ry,a,v,ex,g,q2⟩:=yy
 subst ex
 obtain rfl:u = Value.ref a:=rx
 exact ⟨Lk I2 g,OH hu I2 g ry fun w' s3 I3 rw'=>⟨v,H2,I3,rw',q2⟩⟩
end
section
variable {X:Cx} {pos:Pos}
end
structure M1 (X:Cx) (o:Expr) (m:Str) (apos:Pos) (e:Expr) (cpos:Pos):Prop where
 base:attributeBase o m X.env (eval o X.env) = eval o X.env
 few:((backTo cpos (starEach [e] X.env)).all (fun x=>!x.1) && (backToKw cpos (keywordEach [] X.env)).all (fun x=>x.1.isSome)
  && decide (([e]:List Expr).length + ([]:List Keyword).length + (if ([]:List Keyword).isEmpty then 0 else 1) < 30)) = true
 line:(apos.endLine == cpos.line) = true
 trees:backTo cpos (starEach [e] X.env) = [(false,eval e X.env)]
structure M2 (X:Cx) (o:Expr) (m:Str) (apos:Pos) (e f:Expr) (cpos:Pos):Prop where
 base:attributeBase o m X.env (eval o X.env) = eval o X.env
 few:((backTo cpos (starEach [e,f] X.env)).all (fun x=>!x.1) && (backToKw cpos (keywordEach [] X.env)).all (fun x=>x.1.isSome)
  && decide (([e,f]:List Expr).length + ([]:List Keyword).length + (if ([]:List Keyword).isEmpty then 0 else 1) < 30)) = true
 line:(apos.endLine == cpos.line) = true
 trees:backTo cpos (starEach [e,f] X.env) = [(false,eval e X.env),(false,eval f X.env)]
section
variable {X:Cx} {pins:List (Addr × Obj)} {σ:St} {H:Hp} {s:Shared} {a:Addr} {y d:V} {u r:Value} {o:Option V} {A:Around} {E:Value→Shared→Prop}
end
section
variable {X:Cx} {o e f:Expr} {apos cpos:Pos} {td ty tx:TE}
end
section
variable {X:Cx} {pins:List (Addr × Obj)} {σ:St} {H:Hp} {s:Shared} {a:Addr} {kvs:List (Key × V)} {A:Around} {E:Value→Shared→Prop}
end
section
variable {X:Cx} {pins:List (Addr × Obj)} {σ:St} {H:Hp} {s:Shared} {a:Addr} {y:V} {u:Value} {A:Around} {E:Value→Shared→Prop}
end
section
variable {X:Cx}
noncomputable def Itd (lo:Int) (n:Nat):It:=⟨fun i _=>i < n,fun i H x H'=>H' = H∧x = .int (lo - i),fun i _=>n≤i⟩
theorem Pm {P:Program} {w:World} {K:Frag} {tg:Expr} (it:Addr) (lo:Int) (n:Nat):Turn P w K tg (Itd lo n) [it] it (fun i h=>IsRangeIter h it (lo + (i:Nat) * -1) ((n:Int) - (i:Nat)) (-1)) where
 mem:=by simp
 obj:=fun i h st b hb=>by
  have e:b = it:=by simpa using hb
  subst e
  exact ⟨_,st,fun v z=>by
   have z':Data.fields _ = Data.cell v:=z
   cases z'⟩
 keep:=fun i h h' st k=>k it (by simp) _ st
 item:=by
  intro X hP hw hK hc i pins s σ H E I hf st hg
  subst hP hw hK
  obtain ⟨f0,f1,f2,f3,f4,f5⟩:=hf it (by simp)
  have W:=Walks.range (prog:=X.prog) (w:=X.w) (I.ok.hd hc) it lo (-1) n
  refine W.item i s _ _ hg st fun v h' tk hv st' kk=>?_
  obtain ⟨t,rfl⟩:=hv
  have I1:Inv X pins σ H { s with heap:=h',toks:=tk }:=I.turned (fun b o hb e=>kk b o (by simpa using hb) e) f0 f1 f3 f4 f5
  refine ⟨_,rfl,Jp (s:={ s with heap:=h',toks:=tk }) (n := "range_iterator") st' rfl rfl (by decide) ⟨.int (lo - i),H,I1,⟨t,?_⟩,⟨rfl,rfl⟩,st',fun b hb=>(hf b hb).1⟩⟩
  congr 1
  lia
 done:=by
  intro X hP hw hK hc i pins s σ H E I hf st hg
  subst hP hw hK
  obtain ⟨f0,f1,f2,f3,f4,f5⟩:=hf it (by simp)
  exact wpAny_pyNext_range_end (I.ok.hd hc) st (by have:n≤i:=hg; lia) fun h' eb=>⟨rfl,I.turned (t':=s.toks) (fun b o hb e=>eb b o hb e) f0 f1 f3 f4 f5⟩
 self:=fun _ _ _ _ _ st h=>wpAny_pyIter_rangeiter st h
theorem KA (a b:Int):Builtin.Range.rangeSize a b (-1) = if b < a then a - b else 0:=by
 unfold Builtin.Range.rangeSize
 rw [if_neg (by decide)]
 have e:(-(-1:Int)) = 1:=by decide
 rw [e]
 simp only [Int.ediv_one,gt_iff_lt]
 split <;> lia
noncomputable def Ta (ta:TA):TI:=fun σ H R=>ta σ H fun vs H1=>∃ i j:Int,vs = [.int i,.int j,.int (-1)]∧(-(2 ^ 62)≤i∧i < 2 ^ 62 ∧ -(2 ^ 62)≤j∧j < 2 ^ 62)∧R (Itd i (i - j).toNat) H1
theorem O9 {tg a b c:Expr} {ta:TA} {p pos:Pos} (hg:Gl X "range") (hm:X.mg "range" = none) (ha:PA X [a,b,c] ta) (hs:starEach [a,b,c] X.env = (false,eval a X.env) :: starEach [b,c] X.env) (hpl:(backTo pos (starEach [b,c] X.env)).any (·.1) = false) :
  PI X tg (.Call (.Name "range" p) [a,b,c] [] pos) (Ta ta):=by
 intro pins s σ H R I h
 refine Call_ (F2 I hg hm boot_range (PyProof.Rows.callWith_type1 (thn (ha pos pins s σ H _ I h) fun us s1 yy=>?_) hs hpl))
 obtain ⟨vs,H1,I1,r1,q1⟩:=yy
 obtain ⟨i,j,e,⟨q1,q2,q3,q4⟩,q⟩:=q1
 subst e
 cases r1 with
 | cons r rr =>
  cases rr with
  | cons r' rr =>
   cases rr with
   | cons r'' rr =>
    cases rr
    obtain ⟨t,rfl⟩:=r
    obtain ⟨t',rfl⟩:=r'
    obtain ⟨t'',rfl⟩:=r''
    refine call_range_3 (by decide) ?_ (Or.inl (PyProof.noPylong_small (by decide)))
    refine wpAny_pyIter_range (IsRange.new ..) (PySem.W.small_down q1 q2 q3 q4) ?_
    have I2:Inv X pins σ H1 { s1 with heap:=s1.heap.push { cls:=.type "range",data:=.fields #[.int i t,.int j t',.int (-1) t''] },toks:=s1.toks }:=I1.kept fun b o e=>Heap.get?_push_of_some _ e
    refine ⟨_,[(s1.heap.push { cls:=.type "range",data:=.fields #[.int i t,.int j t',.int (-1) t''] }).objs.size],_,_,H1,rfl,
     I2.kept (t':=s1.toks) fun b o e=>Heap.get?_push_of_some _ e,Pm _ i (i - j).toNat,?_,fun b hb=>?_,q⟩
    ·have e1:i + ((0:Nat):Int) * -1 = i:=by simp
     have e2:(((i - j).toNat:Nat):Int) - ((0:Nat):Int) = Builtin.Range.rangeSize i j (-1):=by rw [KA]; split <;> lia
     show IsRangeIter _ _ (i + ((0:Nat):Int) * -1) ((((i - j).toNat:Nat):Int) - ((0:Nat):Int)) (-1)
     rw [e1,e2]
     exact Heap.get?_push_size _ rfl
    ·have e:b = (s1.heap.push { cls:=.type "range",data:=.fields #[.int i t,.int j t',.int (-1) t''] }).objs.size:=by simpa using hb
     subst e
     exact I2.fpOk (Nat.le_refl _) (I2.hok.fresh (Nat.le_refl _))
end
section
variable {X:Cx}
noncomputable def JB (K:Frag) (H:Hp):List V→List (Key × V)→Prop:=Paired fun v u=>∃ t,v = .ref t∧SqT K H t [kV u.1,u.2]
noncomputable def Th (K:Frag):List V→Hp→VK→Prop:=fun xs H Q=>∃ (p:Addr) (vs:List V) (us:List (Key × V)),xs = [.ref p]∧SqL K H p vs∧JB K H vs us∧(us.map (·.1)).Nodup∧∀ l,H l = none→Q (.ref l) (upd H l (.dK us))
theorem Ni {pins:List (Addr × Obj)} {σ:St} {H:Hp} {s:Shared} (I:Inv X pins σ H s) {vs:List V} {us:List (Key × V)} (hp:JB X.K H vs us):∃ kvs:List (Key × Value),KV us kvs∧∀ (i:Nat) v (h:i < kvs.length),vs[i]? = some v→∃ t key,v = .ref t∧(D5 X.prog X.w).is (kvs[i]).1 key = true∧IsTup s.heap t #[key,(kvs[i]).2]:=by
 induction hp with
 | nil=>exact ⟨[],.nil,fun i v h=>by simp at h⟩
 | @cons v u vs us r t ih =>
  obtain ⟨kvs,h1,h2⟩:=ih
  obtain ⟨tp,rfl,hq⟩:=r
  obtain ⟨its,rv,ht,_⟩:=I.tuple hq
  obtain ⟨k',u',rfl,rk,ru⟩:=rv.two
  refine ⟨(u.1,u') :: kvs,.cons ⟨rfl,ru⟩ h1,fun i w h e=>?_⟩
  cases i with
  | zero =>
   simp at e
   subst e
   exact ⟨tp,k',rfl,Tb rk,ht⟩
  | succ i=>exact h2 i w (by simpa using h) (by simpa using e)
theorem Mx (hc:X.calm = true):Cc X (.type "dict") (Th X.K):=by
 intro pins s σ H xs us' Q I r h
 obtain ⟨p,vs,us,rfl,hq,hp,nd,q⟩:=h
 obtain ⟨u,rfl,ru⟩:=r.one
 cases ru
 obtain ⟨its,rv,pl,hz⟩:=I.list hq
 obtain ⟨kvs,hkv,hall⟩:=Ni I hp
 have l1:vs.length = us.length:=hp.length
 have l2:us.length = kvs.length:=hkv.length
 have l3:=rv.length
 obtain ⟨ol,nl,hol,hcl,hdd,hdl⟩:=pl
 have keys:kvs.map (·.1) = us.map (·.1):=hkv.keys.symm
 have key:∀ (i:Nat) (h:i < kvs.length),∃ t key,vs[i]? = some (.ref t)∧its.toArray[i]? = some (.ref t)∧(D5 X.prog X.w).is (kvs[i]).1 key = true∧IsTup s.heap t #[key,(kvs[i]).2]:=fun i h=>by
  have hv:vs[i]? = some (vs[i]'(by lia)):=by simp
  obtain ⟨t,key,e1,e2,e3⟩:=hall i _ h hv
  obtain ⟨u,hu,ru⟩:=rv.get hv
  rw [e1] at hv ru
  cases ru
  exact ⟨t,key,hv,by simpa using hu,e2,e3⟩
 refine JD.call (knd:=D5 X.prog X.w) (kvs:=kvs) (items:=its.toArray) (I.ok.hd hc) hol hcl hdl hdd (by lia) (by rw [keys]; exact nd) (by simp; lia) (fun i=>match vs[i]? with | some (.ref t)=>t | _=>0) (fun i h=>?_) (fun i h=>?_) fun h' tk' hd hk=>?_
 ·obtain ⟨t,key,e1,e2,e3,e4⟩:=key i h
  rw [e1]
  exact e2
 ·obtain ⟨t,key,e1,e2,e3,e4⟩:=key i h
  rw [e1]
  exact ⟨key,e3,e4⟩
 ·have hS:(s.heap.objs.size == sysModules) = false:=by
   have:=I.big
   have hne:s.heap.objs.size≠sysModules:=fun z=>by rw [z] at this; exact Nat.lt_irrefl _ this
   simpa using hne
  have hlz:us.length≤sizeLine:=by lia
  refine ⟨.ref s.heap.objs.size,_,I.laid (t':=tk') (o:=.dK us) hk (Nat.le_refl _) ?_,rfl,q _ (I.hok.fresh (Nat.le_refl _))⟩
  exact ⟨hlz,hS,kvs,hkv,hd⟩
end
end L2
namespace J
open PySem PySem.Spec PyProof.Rows L2
section
variable {X:Cx} {a b c e:Expr} {es:List Expr} {m m1 m2 m3:ME} {ms:MA} {p pos pos' p2 apos cpos q npos:Pos} {x:Str}
variable {K:Frag} {N:Addr→Prop} {H:Hp} {σ:L2.St} {v:V} {L:List Addr}
noncomputable def down (lo:Int) (n:Nat):List D:=(List.range n).map fun (k:Nat)=>D.int (lo - (k:Int))
noncomputable def L8 (m1 m2 m3:ME):MI:=fun ρ=>(Ab m1 (Ab m2 (Ab m3 Ah)) ρ).bind fun p=>match p.1 with
 | [.val (.fz (.int i)),.val (.fz (.int j)),.val (.fz (.int k))]=>if k = -1 ∧ -(2 ^ 62)≤i∧i < 2 ^ 62 ∧ -(2 ^ 62)≤j∧j < 2 ^ 62 then some (down i (i - j).toNat,none,p.2) else none
 | _=>none
theorem SX {R:It→Hp→Prop} (h:tI K (L8 m1 m2 m3) σ H R):Ta (tA K (Ab m1 (Ab m2 (Ab m3 Ah)))) σ H R:=by
 obtain ⟨ρ,O,fp,rl,ds,n,ρ',e,k⟩:=h
 simp only [L8,bind_eq_some_iff] at e
 obtain ⟨⟨rs,ρ1⟩,e1,e2⟩:=e
 dsimp only at e2
 split at e2
 ·rename_i i j kk
  split at e2
  ·rename_i hz
   obtain ⟨rfl,z1,z2,z3,z4⟩:=hz
   cases e2
   refine ⟨ρ,O,fp,rl,_,_,e1,fun vs H1 yy=>?_⟩
   obtain ⟨L,fp1,p,q⟩:=yy
   have hs:=p.rel.peeks (rs:=[.val (.fz (.int i)),.val (.fz (.int j)),.val (.fz (.int (-1)))]) (as:=[.fz (.int i),.fz (.int j),.fz (.int (-1))]) q rfl
   obtain ⟨v1,t1,_,rfl,h1,q1⟩:=cons_of hs
   obtain ⟨v2,v3,_,_,rfl,h2,h3⟩:=Bx q1
   cases Bc h1
   cases Bc h2
   cases Bc h3
   refine ⟨i,j,rfl,⟨z1,z2,z3,z4⟩,k _ _ ⟨.val (.fz .non),.non,.fz .non,[],fp1,p.drop0,D9 (K:=K) .non,rfl,rfl,fun N H2 _=>?_⟩⟩
   have hl:(down i (i - j).toNat).length = (i - j).toNat:=by simp [down]
   refine ⟨fun k hk=>by show k < (i - j).toNat; lia,fun k hk=>by show (i - j).toNat≤k; lia,fun k v H' d y e=>?_⟩
   obtain ⟨rfl,rfl⟩:=y
   refine ⟨fun _ _ z=>z,?_⟩
   have hi:k < (i - j).toNat:=by have:=Az e; lia
   simp only [down,List.getElem?_map,List.getElem?_range hi,Option.map_some,Option.some.injEq] at e
   subst e
   exact .int _
  ·cases e2
 ·cases e2
theorem RT {tg:Expr} (hg:Gl X "range") (hm:X.mg "range" = none) (hs:starEach [a,b,c] X.env = (false,eval a X.env) :: starEach [b,c] X.env) (hpl:(backTo pos (starEach [b,c] X.env)).any (·.1) = false) (hs2:starEach [b,c] X.env = (false,eval b X.env) :: starEach [c] X.env) (hs3:starEach [c] X.env = [(false,eval c X.env)])
  (h1:JE X a m1) (h2:JE X b m2) (h3:JE X c m3):JI X tg (.Call (.Name "range" p) [a,b,c] [] pos) (L8 m1 m2 m3):=
 GG (O9 hg hm (Aa hs h1 (Aa hs2 h2 (Aa hs3 h3 Af))) hs hpl) fun _ _ _ h=>SX h
noncomputable def Ly:D→Option Key
 | .int i=>some (.inl i)
 | .str z=>some (.inr z)
 | .non | .bl _ | .lst _ | .tup _=>none
noncomputable def Ga:List D→Option (List (Key × D))
 | []=>some []
 | .tup [k,d] :: ds=>(Ly k).bind fun k=>(Ga ds).map ((k,d) :: ·)
 | _ :: _=>none
noncomputable def PD:List A→Option A:=on1 fun a=>(DR a).bind fun ds=>(Ga ds).bind fun kvs=>if (kvs.map (·.1)).Nodup then some (.dic kvs) else none
theorem Qq {d:D} {k:Key} (r:RepA N H v d) (e:Ly d = some k):v = kV k:=by
 cases d with
 | int i=>simp only [Ly,Option.some.injEq] at e; subst e; cases r; rfl
 | str z=>simp only [Ly,Option.some.injEq] at e; subst e; cases r; rfl
 | _=>simp [Ly] at e
theorem QH:∀ {vs:List V} {ds:List D} {kvs:List (Key × D)},AB N H vs ds→Ga ds = some kvs→∃ us:List (Key × V),JB K H vs us∧Paired (fun (u:Key × V) (k:Key × D)=>u.1 = k.1∧RepA N H u.2 k.2) us kvs:=by
 intro _l
 induction _l with
 | nil =>
  intro _m
  cases _m with
  | nil =>
   intro kvs _ e
   simp only [Ga,Option.some.injEq] at e
   subst e
   exact ⟨[],.nil,.nil⟩
  | cons _ _ =>
   intro _ q _
   simp only [AB] at q
 | cons v vs ih =>
  intro _m
  cases _m with
  | nil =>
   intro _ q _
   simp only [AB] at q
  | cons d ds =>
   intro kvs q e
   unfold Ga at e
   split at e
   ·rename_i h; cases h
   ·rename_i k' d' ds' h
    cases h
    simp only [bind_eq_some_iff,map_eq_some_iff] at e
    obtain ⟨k,e1,kvs',e2,rfl⟩:=e
    obtain ⟨us,h1,h2⟩:=ih q.2 e2
    have q1:=q.1
    cases q1 with
    | @tup a ws _ hh hz hl hr =>
     obtain ⟨w1,w2,rfl⟩:=V3 hl
     have r1:=hr 0 w1 k' rfl rfl
     have r2:=hr 1 w2 d' rfl rfl
     have ek:=Qq r1 e1
     refine ⟨(k,w2) :: us,.cons ⟨a,rfl,.inl (.inl ?_)⟩ h1,.cons ⟨rfl,r2⟩ h2⟩
     rw [hh,ek]
   ·cases e
theorem LU {us:List (Key × V)} {kvs:List (Key × D)} (hp:Paired (fun (u:Key × V) (k:Key × D)=>u.1 = k.1∧RepA N H u.2 k.2) us kvs):us.map (·.1) = kvs.map (·.1):=by
 induction hp with
 | nil=>rfl
 | cons r t ih=>rw [List.map_cons,List.map_cons,r.1,ih]
theorem R3:OpN K PD (Th K):=by
 intro N H xs as b Q hs e k
 replace e:=Ef e
 obtain ⟨a,rfl,e⟩:=e
 simp only [bind_eq_some_iff] at e
 obtain ⟨ds,e1,kvs,e2,e3⟩:=e
 split at e3
 ·rename_i hn
  cases e3
  obtain ⟨x,L1,rfl,h1⟩:=Dq hs
  obtain ⟨p,vs,rfl,hp,hz,q⟩:=Dn h1 e1
  obtain ⟨us,g1,g2⟩:=QH (K:=K) q e2
  refine ⟨p,vs,us,rfl,.inl (.inl hp),g1,by rw [LU g2]; exact hn,fun l hl=>k _ _ ?_⟩
  have sm:=DF (o:=.dK us) hl
  refine ⟨sm,[l],?_,by simp,fun b hb=>by simp at hb; rw [hb]; exact hl⟩
  rw [Aw]
  have hlen:us.length≤sizeLine:=by
   have:=Paired.length g1
   lia
  refine ⟨l,us,rfl,rfl,AQ,hlen,Paired.mapQ g2 fun u kd r=>⟨r.1,r.2.tr (M:=fun _=>False) (fun _ z=>z.elim) (Ek.kept sm) fun b z=>?_⟩⟩
  rcases z with z | z
  ·exact .inl z
  ·simp at z; subst z; exact .inr hl
 ·cases e3
noncomputable def Pp (kvs:List (Key × D)) (k:Key):Option D:=(kvs.find? fun kv=>decide (kv.1 = k)).map (·.2)
theorem VG {k:Key} {us:List (Key × V)} {kvs:List (Key × D)} (hp:Paired (fun (u:Key × V) (k:Key × D)=>u.1 = k.1∧RepA N H u.2 k.2) us kvs) {d:D} (e:Pp kvs k = some d):∃ v,IJ us k = some v∧RepA N H v d:=by
 induction hp with
 | nil=>simp [Pp] at e
 | @cons u kd us kvs r t ih =>
  simp only [Pp,IJ,List.find?_cons] at e ⊢
  by_cases h:kd.1 = k
  ·have h':u.1 = k:=r.1.trans h
   simp only [h,decide_true,Option.map_some,Option.some.injEq] at e
   simp only [h',decide_true,Option.map_some,Option.some.injEq,exists_eq_left']
   subst e
   exact r.2
  ·have h':¬ u.1 = k:=fun z=>h (r.1.symm.trans z)
   simp only [h,decide_false] at e
   simp only [h',decide_false]
   exact ih e
noncomputable def MB:List A→Option A:=on2 fun q1 q2=>(FR q1).bind fun kvs=>(fzU q2).bind fun d=>(Ly d).bind fun k=>(Pp kvs k).map A.fz
theorem Ux:OpN K MB (r2L fun x y H Q=>∃ a v,x = .ref a∧Mq H a y (some v)∧Q v H):=by
 intro N H xs as b Q hs e k
 replace e:=Cv e
 obtain ⟨q1,q2,rfl,e⟩:=e
 replace e:=bind_eq_some_iff.mp e
 obtain ⟨kvs,eq1,e⟩:=e
 cases RG eq1
 clear eq1
 replace e:=bind_eq_some_iff.mp e
 obtain ⟨d,eq2,e⟩:=e
 cases J3 eq2
 clear eq2
 simp only [bind_eq_some_iff,map_eq_some_iff] at e
 obtain ⟨ky,e1,d',e2,rfl⟩:=e
 obtain ⟨x,y,L1,L2,rfl,h1,h2⟩:=Bx hs
 rw [Aw] at h1
 obtain ⟨a,us,rfl,rfl,ha,hz,hp⟩:=h1
 obtain ⟨_,h2⟩:=GI.mp h2
 cases Qq h2 e1
 obtain ⟨v,hv,rv⟩:=VG hp e2
 refine ⟨_,_,rfl,a,v,rfl,?_,k _ _ (G4 rv)⟩
 rw [← hv]
 exact Mq.k ha
theorem Qe {k:Nat} (hr:Room k X.A) (hs:Ts b) (ha:JE X a m1) (hb:JE X b m2):JE X (.Subscript a b pos) (opM MB (m2L m1 m2)):=by
 refine AO (Sj (VZ hr) ha hb hs) fun σ H Q h=>?_
 exact tE.mono (two Ux h) fun x H1 h1=>tE.mono h1 fun y H2 h2=>h2
end
section
variable {P:Program} {w:World} {K:Frag} {mg:Str→Option Value} {base:Heap}
theorem Bs {x qual:Str} {st:Stmt} {f:Addr} {fd:FuncData} {N ps:List Str} {k:Nat} {m:MS} (F:Fun K x qual st f fd) (S:FnScope N ps (Ao st))
  (hb:∀ (cdv:Value) (A:Around) (outer:List Env) (s:Shared) (H:Hp) (E:XK),Room k (A.deeper (envOfC qual (Ao st) s.heap.objs.size f cdv))→JSs (AI CX0 P w K mg base N qual (Ao st) f cdv A outer s H E).nox (BL st) m) :
  FnOk P w K mg base CX0 (k + 1) f fd ps (spJ K (fnM ps.length N.length m) ps.length):=by
 refine F.ok S (fun vs H Q E h=>?_) fun cdv A outer s H vs Q E hr h=>⟨_,hb cdv A outer s H E hr,?_⟩
 ·obtain ⟨_,_,_,h,_⟩:=h
  exact h
 ·have hl:vs.length = ps.length:=by
   obtain ⟨_,_,_,h,_⟩:=h
   exact h
  have:=JK h
  unfold L2.start
  rw [hl]
  exact this
theorem Ar {np nn:Nat} {b:MS}:∀ args y,fnM np nn b args = some y→args.length = np:=fun args y e=>by
 unfold fnM at e
 split at e
 ·rename_i h; exact h
 ·cases e
theorem Uo {Φ:Fn} {H:Hp} {a:Addr} {ns:List Int} {as':List A} {E:XK} (hl:ns.length≤63) (hO:Rv H) (hS:SqL K H a (ns.map V.int)) (e : Φ [(.ro,.scr ns)] = some (.fz (.bl true),as')):spJ K Φ 1 [.ref a] H (fun v _=>v = .bl true) E:=by
 refine ⟨[(.ro,.scr ns)],fun _=>False,fun _=>[],rfl,⟨rfl,fun i st b h=>?_,fun _ _=>rfl,fun _=>List.nodup_nil,fun i j p h=>by simp at h,fun i p h=>by simp at h,fun p z=>?_⟩,_,_,e,fun v H' ⟨L,fp',p,q⟩=>?_⟩
 ·cases i with
  | zero =>
   simp at h
   obtain ⟨rfl,rfl⟩:=h
   refine ⟨.ref a,rfl,?_⟩
   rw [Aw]
   refine ⟨a,rfl,rfl,fun H' k=>?_,Nat.le_trans hl (by decide)⟩
   rcases hS with (h | ⟨o,h⟩) | h
   ·rcases hO a with z | ⟨o,xs,z⟩ | ⟨ps,z⟩
    ·rw [z] at h; cases h
    ·rw [z] at h; cases h
    ·rw [z] at h; cases h
   ·exact .inl (.inr ⟨o,k _ _ h⟩)
   ·exact .inr h
  | succ i=>simp at h
 ·rcases z with ⟨i,z⟩ | z
  ·simp at z
  ·exact z.elim
 ·exact Q2 q rfl
end
end J
end
section
namespace J
open PySem PySem.Spec PyProof.Rows L2
noncomputable def moves:List R→Ro→Option (List A × Ro)
 | [],ρ=>some ([],ρ)
 | r :: rs,ρ=>(move ρ r).bind fun p=>(moves rs p.2).map fun q=>(p.1 :: q.1,q.2)
noncomputable def A5 (m:MA):ME:=fun ρ=>(m ρ).bind fun p=>(moves p.1 p.2).bind fun q=>if q.1.length≤LIM then some (.val (mkT q.1),q.2) else none
section
variable {K:Frag} {ρ ρ' ρ1 ρ2:Ro} {σ σ' σ1 σ2:L2.St} {H H' H1 H2:Hp} {O O' N:Addr→Prop} {fp fp' fp1 fp2:Nat→List Addr} {L L1:List Addr}
theorem Post.perm {L':List Addr} (x:Post K O fp H ρ ρ1 σ σ1 L fp1 H1) (h:∀ p,p∈L'↔p∈L) (nd:L'.Nodup):Post K O fp H ρ ρ1 σ σ1 L' fp1 H1:=
 ⟨x.rel.congr fun p=>or_congr Iff.rfl (h p).symm,nd,fun p hp=>x.lo p ((h p).mp hp),fun p hp=>x.new p (hp.imp (h p).mp id),x.kept,x.ln,x.stab⟩
theorem Post.give {i:Nat} {a:A} {v:V} (x:Post K O fp H ρ ρ1 σ σ L fp1 H1) (ha : ρ1[i]? = some (some (.own,a))) (hv : σ[i]? = some (some v)) :
  Post K O fp H ρ (ρ1.set i none) σ σ (L ++ fp1 i) (pt fp1 i []) H1∧Aw K (NN fp1 (ad O L)) H1 v a (fp1 i)∧∀ p,NN (pt fp1 i []) (ad O (L ++ fp1 i)) p↔NN fp1 (ad O L) p:=by
 obtain ⟨v',hv',q⟩:=x.rel.slot i _ _ ha
 rw [hv] at hv'; cases hv'
 have nn:∀ p,NN (pt fp1 i []) (ad O (L ++ fp1 i)) p↔NN fp1 (ad O L) p:=fun p=>by
  constructor
  ·intro z
   rcases z with ⟨j,z⟩ | z | z
   ·rcases BG z with ⟨_,z⟩ | ⟨_,z⟩
    ·simp at z
    ·exact .inl ⟨j,z⟩
   ·exact .inr (.inl z)
   ·rcases List.mem_append.mp z with z | z
    ·exact .inr (.inr z)
    ·exact .inl ⟨i,z⟩
  ·intro z
   rcases z with ⟨j,z⟩ | z | z
   ·by_cases hj:j = i
    ·subst hj; exact .inr (.inr (List.mem_append_right _ z))
    ·exact .inl ⟨j,by rw [Hj hj]; exact z⟩
   ·exact .inr (.inl z)
   ·exact .inr (.inr (List.mem_append_left _ z))
 have nd:(L ++ fp1 i).Nodup:=List.nodup_append.mpr ⟨x.nd,x.rel.nd i,fun a ha b hb e=>by subst e; exact x.rel.off i a hb (.inr ha)⟩
 have R:=x.rel.set (i:=i) (s:=none) (o:=some v) (L:=[]) (O':=ad O (L ++ fp1 i)) (Az ha) (fun p z=>(nn p).mp (.inr z)) (fun p hp=>by simp at hp) List.nodup_nil (fun p hp=>by simp at hp) (fun p hp=>by simp at hp)
  (fun j p hj h z=>by
   rcases z with z | z
   ·exact x.rel.off j p h (.inl z)
   ·rcases List.mem_append.mp z with z | z
    ·exact x.rel.off j p h (.inr z)
    ·exact hj (x.rel.inj j i p h z)) (fun st a e=>by cases e) (fun _=>rfl)
 rw [ID hv] at R
 refine ⟨⟨R,nd,fun p hp z=>?_,fun p hp=>?_,x.kept,rfl,fun j st a' h n=>?_⟩,q,nn⟩
 ·rcases List.mem_append.mp hp with hp | hp
  ·exact x.lo p hp z
  ·exact x.rel.off i p hp (.inl z)
 ·rcases hp with hp | ⟨j,hp⟩
  ·rcases List.mem_append.mp hp with hp | hp
   ·exact x.new p (.inl hp)
   ·exact x.new p (.inr ⟨i,hp⟩)
  ·rcases BG hp with ⟨_,z⟩ | ⟨_,z⟩
   ·simp at z
   ·exact x.new p (.inr ⟨j,z⟩)
 ·obtain ⟨a2,h2,_,f2⟩:=x.stab j st a' h n
  refine ⟨a2,?_,rfl,f2⟩
  rw [List.getElem?_set_ne]
  ·exact h2
  ·rintro rfl
   rw [ha] at h2; cases h2; exact n rfl
theorem RRs.weak (h:∀ p,O' p→N p):∀ {vs:List V} {rs:List R} {L:List Addr},RRs K N H σ vs rs L→RRs K O' H σ vs rs L
 | [],[],_,q=>q
 | [],_ :: _,_,q=>by simp only [RRs] at q
 | _ :: _,[],_,q=>by simp only [RRs] at q
 | v :: vs,r :: rs,L,q=>by
  simp only [RRs] at q ⊢
  obtain ⟨L1,L2,rfl,h1,h2⟩:=q
  refine ⟨L1,L2,rfl,?_,RRs.weak h h2⟩
  cases r with
  | val a=>exact Dw h h1
  | ref i=>exact h1
theorem M4:∀ {rs:List R} {vs:List V} {as:List A} {ρ1 ρ2:Ro} {fp1:Nat→List Addr} {Lacc L:List Addr},Post K O fp H ρ ρ1 σ σ (Lacc ++ L) fp1 H1→RRs K (NN fp1 (ad O (Lacc ++ L))) H1 σ vs rs L→moves rs ρ1 = some (as,ρ2) →
  ∃ L2 fp2,Post K O fp H ρ ρ2 σ σ (Lacc ++ L2) fp2 H1∧As K (NN fp2 (ad O (Lacc ++ L2))) H1 vs as L2∧∀ p,NN fp2 (ad O (Lacc ++ L2)) p↔NN fp1 (ad O (Lacc ++ L)) p:=by
 intro _l
 induction _l with
 | nil =>
  intro _m
  cases _m with
  | nil =>
   intro as ρ1 ρ2 fp1 Lacc L x q e
   simp only [moves,Option.some.injEq,Prod.mk.injEq] at e
   obtain ⟨rfl,rfl⟩:=e
   simp only [RRs] at q
   subst q
   exact ⟨[],fp1,x,by simp [As],fun p=>Iff.rfl⟩
  | cons _ _ =>
   intro _ _ _ _ _ _ _ q _
   simp only [RRs] at q
 | cons r rs ih =>
  intro _m
  cases _m with
  | nil =>
   intro _ _ _ _ _ _ _ q _
   simp only [RRs] at q
  | cons v vs =>
   intro as ρ1 ρ2 fp1 Lacc L x q e
   simp only [RRs] at q
   obtain ⟨L1,L2,rfl,h1,h2⟩:=q
   simp only [moves,bind_eq_some_iff,map_eq_some_iff] at e
   obtain ⟨⟨a,ρ3⟩,e1,⟨as',ρ4⟩,e2,e3⟩:=e
   cases e3
   cases r with
   | val b =>
    simp only [move,Option.some.injEq,Prod.mk.injEq] at e1
    obtain ⟨rfl,rfl⟩:=e1
    rw [← List.append_assoc] at x h1 h2
    obtain ⟨L3,fp3,p3,q3,n3⟩:=ih (Lacc:=Lacc ++ L1) x h2 e2
    rw [List.append_assoc] at p3 q3 n3
    refine ⟨L1 ++ L3,fp3,p3,?_,fun p=>by rw [n3 p,List.append_assoc]⟩
    simp only [As]
    exact ⟨L1,L3,rfl,Dw (fun p z=>by have:=(n3 p).mp z; rw [List.append_assoc]; rw [List.append_assoc] at this; exact this) h1,q3⟩
   | ref i =>
    obtain ⟨rfl,hv⟩:=h1
    rw [List.nil_append] at x h2
    simp only [move] at e1
    split at e1
    ·rename_i a' ha
     cases e1
     obtain ⟨g1,g2,g3⟩:=x.give ha hv
     have nd:((Lacc ++ fp1 i) ++ L2).Nodup:=by
      have:=g1.nd
      rw [List.append_assoc] at this ⊢
      exact (List.perm_append_comm.append_left Lacc).nodup this
     have g1':Post K O fp H ρ (ρ1.set i none) σ σ ((Lacc ++ fp1 i) ++ L2) (pt fp1 i []) H1:=g1.perm (fun p=>by simp; exact ⟨fun z=>by rcases z with z | z | z; exact .inl z; exact .inr (.inr z); exact .inr (.inl z),fun z=>by rcases z with z | z | z; exact .inl z; exact .inr (.inr z); exact .inr (.inl z)⟩) nd
     have nn:∀ p,NN (pt fp1 i []) (ad O ((Lacc ++ fp1 i) ++ L2)) p↔NN fp1 (ad O (Lacc ++ L2)) p:=fun p=>by
      rw [← g3 p]
      refine or_congr Iff.rfl (or_congr Iff.rfl ?_)
      simp
      exact ⟨fun z=>by rcases z with z | z | z; exact .inl z; exact .inr (.inr z); exact .inr (.inl z),fun z=>by rcases z with z | z | z; exact .inl z; exact .inr (.inr z); exact .inr (.inl z)⟩
     obtain ⟨L3,fp3,p3,q3,n3⟩:=ih (Lacc:=Lacc ++ fp1 i) g1' (RRs.weak (fun p z=>(nn p).mp z) h2) e2
     rw [List.append_assoc] at p3 q3 n3
     refine ⟨fp1 i ++ L3,fp3,p3,?_,fun p=>by rw [n3 p,nn p]; simp⟩
     simp only [As]
     exact ⟨fp1 i,L3,rfl,Dw (fun p z=>(nn p).mp ((n3 p).mp z)) g2,q3⟩
    ·cases e1
theorem SU {m:MA} {Q:VK} (h:tE K (A5 m) σ H Q):WA (tA K m) σ H Q:=by
 obtain ⟨ρ,O,fp,rl,x,ρ',e,k⟩:=h
 simp only [A5,bind_eq_some_iff] at e
 obtain ⟨⟨rs,ρ1⟩,e1,⟨as,ρ2⟩,e2,e3⟩:=e
 split at e3
 ·rename_i hz
  cases e3
  refine ⟨ρ,O,fp,rl,rs,_,e1,fun vs H1 yy=>?_⟩
  obtain ⟨L,fp1,p,q⟩:=yy
  obtain ⟨L2,fp2,p2,q',_⟩:=M4 (Lacc:=[]) p q e2
  rw [List.nil_append] at p2 q'
  have hl:=q'.len
  refine ⟨by rw [hl]; exact hz,fun a ha=>k _ _ ?_⟩
  have s:=DF (o:=.tup vs) ha
  have q2:As K (NN fp2 (ad O L2)) (upd H1 a (.tup vs)) vs as L2:=q'.tr (M:=fun _=>False) (fun _ z=>z.elim) (Ek.kept s) (fun p z=>.inl z) fun _ _ z=>z
  show Jh _ _ _ _ _ _ _ (.val (mkT as)) _ _
  unfold mkT
  split
  ·rename_i ds hd
   obtain ⟨rfl,qd⟩:=q2.fzs hd
   exact ⟨[],fp2,p2.more s List.nodup_nil (fun p hp=>by simp at hp),Np (Q3 AQ (by rw [hl]; exact hz) qd)⟩
  ·refine ⟨L2,fp2,p2.more s p2.nd (fun p hp=>.inl hp),?_⟩
   show Aw _ _ _ _ _ _
   rw [Aw]
   exact ⟨a,vs,rfl,AQ,by rw [hl]; exact hz,q2⟩
 ·cases e3
end
section
variable {X:Cx} {a b c e:Expr} {es:List Expr} {m m1 m2 m3:ME} {ms:MA} {p pos pos' p2 apos cpos q npos:Pos} {x:Str} {K:Frag}
theorem Au {k:Nat} (h:JA X es ms):JE X (.Tuple es k pos) (A5 ms):=AO (U2 h) fun _ _ _ h=>SU h
theorem G1:OpN K C6 (r2L (rI0 fun i j=>.int (i - j))):=Ie
theorem R1:OpN K Gg (r2L (rI0 fun i j=>.int (Builtin.bitAnd i j))):=Ie
theorem Uw:OpN K Mw (r2L (rI0 fun i j=>.int (Builtin.bitOr i j))):=Ie
theorem Tf:OpN K gtA (r2L (rI0 fun i j=>.bl (decide (j < i)))):=LN
theorem V6:OpN K geA (r2L (rI0 fun i j=>.bl (decide (j≤i)))):=LN
end
end J
end
section
namespace L2
open PySem PySem.Spec PyProof.Rows
section
variable {X:Cx} {pins:List (Addr × Obj)} {σ:St} {H:Hp} {s:Shared} {h':Heap}
theorem Inv.turnedT {t':Nat} {T:Addr} {xs:List V} {ch:List Addr} (I:Inv X pins σ H s) (hf:∀ b∈ch,Eb X pins H b) (k:∀ b o,b ∉ ch→s.heap.get? b = some o→h'.get? b = some o)
  (hT:s.heap.objs.size≤T) (new:BH X.prog X.w (upd H T (.tup xs)) h' T (.tup xs)):Inv X pins σ (upd H T (.tup xs)) { s with heap:=h',toks:=t' }:=by
 have hn:H T = none:=I.hok.fresh hT
 have nch:∀ b u,H b = some u→b ∉ ch:=fun b u e z=>by rw [(hf b z).1] at e; cases e
 have neT:∀ b u,H b = some u→b≠T:=fun b u e z=>by rw [z,hn] at e; cases e
 refine I.step (g':=s.gens) (d':=s.drawn) (ch:=ch) (fun b hb=>?_) (fun b o _ _ hc e _=>k b o hc e) (fun b o _ _ hc e _=>⟨o.slots,k b o hc e⟩) (fun b o hc e n=>?_)
  (fun b o hc e=>⟨o,k b o hc e⟩) (fun b xs e=>by rw [Ax (neT b _ e)]; exact e) (fun b o u e=>by rw [Ax (neT b _ e)]; exact e) (fun b ps e=>⟨#[],by rw [Ax (neT b _ e),e]; simp⟩) (fun m hm=>?_) (fun b u e=>?_) I.bare
 ·obtain ⟨f0,f1,f2,f3,f4,f5⟩:=hf b hb
  exact ⟨f3,f1,f4,f5⟩
 ·rw [Ax (Nat.ne_of_lt (Nat.lt_of_lt_of_le (Heap.lt_size e) hT))]; exact n
 ·obtain ⟨o,es,ep,ho,r⟩:=hm
  exact ⟨o,es,ep,k _ o (fun z=>(hf _ z).2.1 rfl) ho,r⟩
 ·by_cases hb:b = T
  ·subst hb; rw [AQ] at e; cases e; exact new
  ·rw [Ax hb] at e
   refine (I.hok b u e).stay (fun c v hc q=>k c v ?_ q) (fun c q=>by rw [Ax (neT c _ q)]; exact q) fun c ys q=>by rw [Ax (neT c _ q)]; exact q
   rcases hc with z | z
   ·rw [z]; exact nch b u e
   ·exact nch c _ z
end
noncomputable def Ite (z:Str):It:=⟨fun i _=>i < z.cps.size,fun i H v H'=>∃ c T,z.cps[i]? = some c∧H T = none∧v = .ref T∧H' = upd H T (.tup [.int i,.str ⟨#[c]⟩]),fun i _=>z.cps.size≤i⟩
theorem Jo {P:Program} {w:World} {A:Around} (hh:A.handled = none) (it:Addr) (z:Str) (t:Tok):Draws P w A it [it] z.cps.size (fun i v=>∃ c u,z.cps[i]? = some c∧v = .str ⟨#[c]⟩ u) (fun i h=>h.IsStrIter it (strIterType z) z t i):=by
 cases ha:z.cps.all (· < 128)
 ·have e:strIterType z = "str_iterator" := by simp [strIterType,ha]
  rw [e]
  exact Draws.strWide hh it z t
 ·have e:strIterType z = "str_ascii_iterator" := by simp [strIterType,ha]
  rw [e]
  exact Draws.strAscii hh it z t
theorem Pn {P:Program} {w:World} {K:Frag} {ts:List Expr} {k:Nat} {pos:Pos} (e it:Addr) (hne:e≠it) (z:Str) (t:Tok) :
  Turn P w K (.Tuple ts k pos) (Ite z) [e,it] e (fun i h=>i≤z.cps.size∧(∃ old,IsEnum h e it ((i:Nat):Int) old)∧h.IsStrIter it (strIterType z) z t i) where
 mem:=by simp
 obj:=fun i h st b hb=>by
  obtain ⟨_,⟨old,he⟩,o,ho,c,d⟩:=st
  simp only [List.mem_cons,List.not_mem_nil,or_false] at hb
  rcases hb with rfl | rfl
  ·exact ⟨_,he,fun v q=>by cases q⟩
  ·exact ⟨o,ho,fun v q=>by rw [d] at q; cases q⟩
 keep:=fun i h h' st kk=>by
  obtain ⟨le,⟨old,he⟩,o,ho,r⟩:=st
  exact ⟨le,⟨old,kk e (by simp) _ he⟩,o,kk it (by simp) _ ho,r⟩
 item:=by
  intro X hP hw hK hc i pins s σ H E I hf st hg
  subst hP hw hK
  obtain ⟨le,⟨old,he⟩,hs⟩:=st
  have D:=Jo (P:=X.prog) (w:=X.w) (A:=X.A.in1) (I.ok.hd hc) it z t
  have elt:e < s.heap.objs.size:=Heap.lt_size he
  have ilt:it < s.heap.objs.size:=by obtain ⟨o,ho,_⟩:=hs; exact Heap.lt_size ho
  refine wpAny_pyNext_enum_itemD D he hs hg hne (by simpa using hne) fun x h1 tk hx ho hs1 hT hsz hk=>?_
  obtain ⟨c,u,hcc,rfl⟩:=hx
  refine ⟨_,rfl,wpAny_letOwnedTupleGo_enum ho fun h2 he2 hs2=>?_⟩
  have hs2':Heap.SameBut e h1 h2:=hs2
  have g2:h2.get? s.heap.objs.size = some { cls:=.type "tuple",data:=.seq #[.int i tk,.str ⟨#[c]⟩ u] }:=(hs2'.2 _ (Nat.ne_of_gt elt)).trans hT
  have I2:Inv X pins σ (upd H s.heap.objs.size (.tup [.int i,.str ⟨#[c]⟩])) { s with heap:=h2,toks:=tk + 1 }:=by
   refine I.turnedT (ch:=[e,it]) hf (fun b o hb q=>?_) (Nat.le_refl _) ?_
   ·simp only [List.mem_cons,List.not_mem_nil,or_false,not_or] at hb
    exact (hs2'.2 b hb.1).trans (hk b o hb.1 hb.2 q)
   ·exact ⟨by show 2≤sizeLine; decide,[.int i tk,.str ⟨#[c]⟩ u],.cons ⟨_,rfl⟩ (.cons ⟨_,rfl⟩ .nil),_,g2,rfl,_,rfl⟩
  refine ⟨.ref s.heap.objs.size,_,I2,rfl,⟨c,_,hcc,I.hok.fresh (Nat.le_refl _),rfl,rfl⟩,⟨hg,⟨_,by simpa using he2⟩,?_⟩,fun b hb=>?_⟩
  ·obtain ⟨o,ho1,r⟩:=hs1
   exact ⟨o,(hs2'.2 it (Ne.symm hne)).trans ho1,r⟩
  ·have hlt:b < s.heap.objs.size:=by
    simp only [List.mem_cons,List.not_mem_nil,or_false] at hb
    rcases hb with rfl | rfl
    ·exact elt
    ·exact ilt
   rw [Ax (Nat.ne_of_lt hlt)]
   exact (hf b hb).1
 done:=by
  intro X hP hw hK hc i pins s σ H E I hf st hg
  subst hP hw hK
  obtain ⟨le,⟨old,he⟩,hs⟩:=st
  have D:=Jo (P:=X.prog) (w:=X.w) (A:=X.A.in1) (I.ok.hd hc) it z t
  have hg':z.cps.size≤i:=hg
  obtain ⟨f0,f1,f2,f3,f4,f5⟩:=hf it (by simp)
  have e0:i = z.cps.size:=by lia
  subst e0
  exact wpAny_pyNext_enum_endD D he hs fun h1 eb=>⟨rfl,I.turned (t':=s.toks) (fun b o hb q=>eb b o hb q) f0 f1 f3 f4 f5⟩
 self:=fun _ _ _ _ _ st h=>by
  obtain ⟨_,⟨old,he⟩,_⟩:=st
  exact wpAny_pyIter_enum he h
section
variable {X:Cx}
noncomputable def S9 (tl:TA):TI:=fun σ H R=>tl σ H fun vs H1=>∃ z,vs = [.str z]∧R (Ite z) H1
theorem Sn {ts:List Expr} {k:Nat} {tpos:Pos} {a:Expr} {ta:TA} {p pos:Pos} (hg:Gl X "enumerate") (hm:X.mg "enumerate" = none) (ha:PA X [a] ta) (hs:starEach [a] X.env = [(false,eval a X.env)]) :
  PI X (.Tuple ts k tpos) (.Call (.Name "enumerate" p) [a] [] pos) (S9 ta):=by
 intro pins s σ H R I h
 refine Call_ (F2 I hg hm boot_enumerate (PyProof.Rows.callWith_type1 (thn (ha pos pins s σ H _ I h) fun us s1 yy=>?_) hs rfl))
 obtain ⟨vs,H1,I1,r1,q1⟩:=yy
 obtain ⟨z,e,q⟩:=q1
 subst e
 obtain ⟨u,rfl,ru⟩:=r1.one
 obtain ⟨t,rfl⟩:=ru
 refine call_enumerate_str fun h1 he hit hsz hk=>?_
 refine wpAny_pyIter_enum he ?_
 have I2:Inv X pins σ H1 { s1 with heap:=h1 }:=I1.kept (t':=s1.toks) hk
 refine ⟨_,[s1.heap.objs.size + 1,s1.heap.objs.size],_,_,H1,rfl,I2,Pn _ _ (Nat.succ_ne_self _) z t,⟨Nat.zero_le _,⟨_,he⟩,hit⟩,fun b hb=>?_,q⟩
 simp only [List.mem_cons,List.not_mem_nil,or_false] at hb
 rcases hb with rfl | rfl
 ·exact I1.fpOk (Nat.le_succ _) (I1.hok.fresh (Nat.le_succ _))
 ·exact I1.fpOk (Nat.le_refl _) (I1.hok.fresh (Nat.le_refl _))
end
end L2
namespace J
open PySem PySem.Spec PyProof.Rows L2
section
variable {X:Cx} {a b c e:Expr} {es:List Expr} {m m1 m2 m3:ME} {ms:MA} {p pos pos' p2 apos cpos q npos:Pos} {x:Str}
variable {K:Frag} {N:Addr→Prop} {H:Hp} {σ:L2.St} {v:V} {L:List Addr}
noncomputable def FJ (z:Str):List D:=(List.range z.cps.size).map fun (i:Nat)=>D.tup [.int (i:Int),.str ⟨#[z.cps.getD i 0]⟩]
noncomputable def HS (m:ME):MI:=fun ρ=>(m ρ).bind fun p=>match p.1 with
 | .val (.fz (.str z))=>if z.length≤LIM then some (FJ z,none,p.2) else none
 | _=>none
theorem SW {R:It→Hp→Prop} (h:tI K (HS m) σ H R):S9 (B0 (tE K m) FF) σ H R:=by
 obtain ⟨ρ,O,fp,rl,ds,n,ρ',e,k⟩:=h
 simp only [HS,bind_eq_some_iff] at e
 obtain ⟨⟨r,ρ1⟩,e1,e2⟩:=e
 dsimp only at e2
 split at e2
 ·rename_i z
  split at e2
  ·rename_i hz
   cases e2
   refine ⟨ρ,O,fp,rl,_,_,e1,fun v H1 yy=>?_⟩
   obtain ⟨L,fp1,p,q⟩:=yy
   have q':Aw K (NN fp1 (ad O L)) H1 v (.fz (.str z)) L:=q
   rw [Aw] at q'
   obtain ⟨rfl,q'⟩:=q'
   cases q'
   refine ⟨z,rfl,k _ _ ⟨.val (.fz .non),.non,.fz .non,[],fp1,p,D9 (K:=K) .non,rfl,rfl,fun N H2 _=>?_⟩⟩
   have hl:(FJ z).length = z.cps.size:=by simp [FJ]
   refine ⟨fun i hi=>by show i < z.cps.size; lia,fun i hi=>by show z.cps.size≤i; lia,fun i v H' d y e=>?_⟩
   obtain ⟨c,T,hc,hT,rfl,rfl⟩:=y
   have hi:i < z.cps.size:=by have:=Az e; lia
   have hd:d = .tup [.int i,.str ⟨#[c]⟩]:=by
    have ec:z.cps.getD i 0 = c:=by
     rw [Array.getD_eq_getD_getElem?,hc]; rfl
    simp only [FJ,List.getElem?_map,List.getElem?_range hi,Option.map_some,Option.some.injEq] at e
    rw [← e,ec]
   subst hd
   refine ⟨DF hT,.tup AQ (by show 2≤sizeLine; decide) rfl fun j v d h1 h2=>?_⟩
   match j with
   | 0=>simp at h1 h2; subst h1 h2; exact .int _
   | 1=>simp at h1 h2; subst h1 h2; exact .str _ (by show 1≤sizeLine; decide)
   | j + 2=>simp at h1
  ·cases e2
 ·cases e2
theorem RS {ts:List Expr} {tk:Nat} {tpos:Pos} (hg:Gl X "enumerate") (hm:X.mg "enumerate" = none) (hs:starEach [a] X.env = [(false,eval a X.env)]) (h:JE X a m):JI X (.Tuple ts tk tpos) (.Call (.Name "enumerate" p) [a] [] pos) (HS m):=GG (Sn hg hm (Cp h Eg hs) hs) fun _ _ _ h=>SW h
theorem Qn (i:Nat) {y:Str} {py spos:Pos} {scope:Scope} {iter elt:Expr} {ifs:List Expr} {px:Pos} {mi:MI} {mt:MT} (nd:X.N.Nodup) (hiN:X.N[i]? = some y) (hy:X.env.scope.names.lookup y = some .local) (hok:BX [x] X.N scope X.env.scope = true) (hc:X.calm = true) (hx:scope.names.lookup x = some .local)
  (hs:∀ z,foldedSetIterable iter X.env z = pure z) (hsw:swapsWith (.ListComp elt [⟨.Name x px,iter,ifs,0⟩] scope pos) (some (.Name y py)) spos.line X.env = pure true) (hi:JI X (.Name x px) iter mi) (ht:JTc X [x] scope ifs mt) (he:JEc X [x] scope elt m) :
  JS X (.Assign [.Name y py] (.ListComp elt [⟨.Name x px,iter,ifs,0⟩] scope pos) spos) (AL i (Bf mi 0 mt m)):=by
 have hnx:x ∉ X.N:=fun hy=>by
  simp only [BX,Bool.and_eq_true,List.all_eq_true] at hok
  have:=hok.2 x (by simp)
  simp [hy] at this
 exact Bz (QU (un:=Rm) (te:=tE X.K m) nd hiN hy hc hok hi (fun C s H fp pins=>Iq rfl (List.nodup_cons.mpr ⟨hnx,nd⟩) (lookup_relabel_local hx)) ht (fun C s H fp pins=>he C s H fp pins) hs hsw) fun _ _ _ h=>KY (NH h)
end
end J
end
section
namespace Sg
open PySem
section
variable {P:Program} {w:World} {A:Around} {E:Value→Shared→Prop} {s:Shared}
end
section
variable {P:Program} {w:World} {A:Around} {E:Value→Shared→Prop}
end
section
variable {P:Program} {w:World} {A:Around} {E:Value→Shared→Prop} {s:Shared}
end
section
variable {P:Program} {w:World} {A:Around} {E:Value→Shared→Prop} {s:Shared}
end
section
variable {P:Program} {w:World} {A:Around} {E:Value→Shared→Prop} {s:Shared}
end
end Sg
end
section
namespace Sg
open PySem PyProof.Rows
section
variable {P:Program} {w:World} {A:Around} {E:Value→Shared→Prop} {s:Shared}
end
section
variable {P:Program} {w:World} {A:Around} {E:Value→Shared→Prop} {s:Shared}
end
end Sg
end
section
namespace L2
open PySem PySem.Spec PyProof.Rows Sg
section
variable {X:Cx}
end
end L2
namespace J
open PySem PySem.Spec PyProof.Rows L2 Sg
section
variable {X:Cx} {a b c e:Expr} {es:List Expr} {m m1 m2 m3:ME} {ms:MA} {p pos pos' p2 apos cpos q npos:Pos} {x:Str}
variable {K:Frag} {N:Addr→Prop} {H:Hp} {σ:L2.St} {v:V} {L:List Addr}
end
end J
end
section
namespace J
open PySem PySem.Spec PyProof.Rows L2
section
variable {K:Frag} {ρ ρ' ρ1 ρ2:Ro} {σ σ' σ1 σ2:L2.St} {H H' H1 H2:Hp} {O O' N:Addr→Prop} {fp fp' fp1 fp2:Nat→List Addr} {L L1:List Addr}
end
section
variable {X:Cx} {a b c e:Expr} {es:List Expr} {m m1 m2 m3:ME} {ms:MA} {p pos pos' p2 apos cpos q npos:Pos} {x:Str}
end
end J
end
section
namespace L2
open PySem PySem.Spec PyProof.Rows
section
variable {X:Cx} {pins:List (Addr × Obj)} {σ:St} {H:Hp} {s:Shared}
end
section
variable {P:Program} {w:World} {A:Around} {E:Value→Shared→Prop} {s:Shared}
theorem nx {n k j:Nat} (h:k≠j:=by decide):n + k≠n + j:=fun e=>h (Nat.add_left_cancel e)
end
end L2
namespace L2
open PySem PySem.Spec PyProof.Rows
section
variable {X:Cx}
noncomputable def Wn:R2:=fun a b H Q=>∃ p q:Bool,a = .bl p∧b = .bl q∧Q (.bl (!(p == q))) H
theorem UK:OpR X (compareOp .IsNot) Wn:=by
 intro pins s σ H x y v u Q I rx ry h
 obtain ⟨p,q,rfl,rfl,k⟩:=h
 have e1:v = .bool p:=rx
 have e2:u = .bool q:=ry
 subst e1 e2
 refine wpAny_isNot_plain (by cases p <;> cases q <;> rfl) ⟨_,H,I,?_,k⟩
 show Value.bool _ = Value.bool _
 cases p <;> cases q <;> rfl
end
end L2
namespace J
open PySem PySem.Spec PyProof.Rows L2
section
variable {X:Cx} {a b c e:Expr} {es:List Expr} {m m1 m2 m3:ME} {ms:MA} {p pos pos' p2 apos cpos q npos:Pos} {x:Str}
variable {K:Frag} {N:Addr→Prop} {H:Hp} {σ:L2.St} {v:V} {L:List Addr}
noncomputable def TY:List A→Option A
 | [.fz (.bl p),.fz (.bl q)]=>some (.fz (.bl (!(p == q))))
 | _=>none
theorem Uz:OpN K TY (r2L Wn):=by
 intro N H xs as b Q hs e k
 unfold TY at e
 split at e
 ·rename_i p q
  cases e
  obtain ⟨x,y,L1,L2,rfl,h1,h2⟩:=Bx hs
  rw [Aw] at h1 h2
  obtain ⟨rfl,h1⟩:=h1
  obtain ⟨rfl,h2⟩:=h2
  cases h1
  cases h2
  exact ⟨_,_,rfl,p,q,rfl,rfl,k _ _ ⟨fun _ _ z=>z,[],D9 (K:=K) (.bl _),List.nodup_nil,fun _ h=>by simp at h⟩⟩
 ·cases e
end
end J
end
section
namespace Ug
open PySem Sg
section
variable {P:Program} {w:World} {A:Around} {E:Value→Shared→Prop} {s:Shared}
end
section
variable {P:Program} {w:World} {A:Around} {E:Value→Shared→Prop}
end
section
variable {P:Program} {w:World} {A:Around} {E:Value→Shared→Prop} {s:Shared}
end
section
variable {P:Program} {w:World} {A:Around} {E:Value→Shared→Prop} {s:Shared}
end
section
variable {P:Program} {w:World} {A:Around} {E:Value→Shared→Prop} {s:Shared}
end
end Ug
end
section
namespace Ug
open PySem Sg PyProof.Rows
section
variable {P:Program} {w:World} {A:Around} {E:Value→Shared→Prop} {s:Shared}
end
end Ug
end
section
namespace L2
open PySem PySem.Spec PyProof.Rows Sg
section
variable {X:Cx}
end
end L2
namespace J
open PySem PySem.Spec PyProof.Rows L2 Sg
section
variable {X:Cx} {a b c e:Expr} {es:List Expr} {m m1 m2 m3:ME} {ms:MA} {p pos pos' p2 apos cpos q npos:Pos} {x:Str}
variable {K:Frag} {N:Addr→Prop} {H:Hp} {σ:L2.St} {v:V} {L:List Addr}
end
end J
end
section
namespace Lm
open PySem PyProof.Rows
section
variable {prog:Program} {w:World} {A:Around} {E:Value→Shared→Prop} {s:Shared} {h₀:Heap} {l q I S:Addr} {vs:List Value} {R:Result→Shared→Prop} {Q:Value→Shared→Prop}
end
end Lm
end
section
namespace L2
open PySem PySem.Spec PyProof.Rows PySem.W
section
variable {X:Cx} {pins:List (Addr × Obj)} {σ:St} {H:Hp} {s:Shared} {h':Heap}
end
end L2
namespace L2
open PySem PySem.Spec PyProof.Rows PySem.W
end L2
end
section
namespace J
open PySem PySem.Spec PyProof.Rows L2 PySem.W
section
variable {X:Cx} {a b c e:Expr} {es:List Expr} {m m1 m2 m3:ME} {ms:MA} {p pos pos' p1 p2 p3 lp kp:Pos} {x y:Str}
variable {K:Frag} {N:Addr→Prop} {H:Hp} {σ:L2.St} {v:V} {L:List Addr}
end
section
variable {X:Cx} {K:Frag}
end
section
variable {P:Program} {w:World} {K:Frag} {mg:Str→Option Value} {base:Heap}
theorem RF {f c b:Addr} {oc:Value} {od:Option Addr} {fd:FuncData} {osl:Array (Option Value)} (n:nsIn K mainGlobals Bi = some (some (.ref f))) (lk:K.lookup f = some ⟨oc,od,.func fd,osl⟩) (t:tabIn K Bi = some (c,b)):fd.code = .ref c:=by
 unfold tabIn at t
 rw [n] at t
 dsimp only at t
 rw [lk] at t
 dsimp only at t
 split at t
 ·rename_i c' hc
  split at t
  ·split at t
   ·cases t; exact hc
   ·cases t
  ·cases t
 ·cases t
theorem TL {st:Stmt} {f c b:Addr} {fd:FuncData} {N ps:List Str} {k:Nat} {m:MS} (F:Fun K Bi Bi st f fd) (hn:nsIn K mainGlobals Bi = some (some (.ref f))) (ht:tabIn K Bi = some (c,b)) (S:FnScope N ps (Ao st))
  (hb:∀ (A:Around) (outer:List Env) (s:Shared) (H:Hp) (E:XK),Room k (A.deeper (envOfC Bi (Ao st) s.heap.objs.size f (.ref c)))→JSs (AI CX0 P w K mg base N Bi (Ao st) f (.ref c) A outer s H E).nox (BL st) m) :
  FnOk P w K mg base CX0 (k + 1) f fd ps (spJ K (fnM ps.length N.length m) ps.length):=by
 obtain ⟨oc,od,kV,doc,pm,an,cdv,ct,osl,rfl,lk,hcd⟩:=F.ex
 have ec:cdv = .ref c:=RF hn lk ht
 subst ec
 refine PN lk hcd S (fun vs H Q E h=>?_) fun A outer s H vs Q E hr h=>?_
 ·obtain ⟨_,_,_,h,_⟩:=h
  exact h
 ·have hl:vs.length = ps.length:=by
   obtain ⟨_,_,_,h,_⟩:=h
   exact h
  have:=JK h
  refine ⟨_,PSs.nox (hb A outer s H E hr),?_⟩
  unfold L2.start
  rw [hl]
  exact this
end
end J
end
section
namespace L2
open PySem PySem.Spec PyProof.Rows
section
variable {X:Cx} {a e:Expr} {ta te:TE} {apos cpos:Pos}
end
end L2
namespace J
open PySem PySem.Spec PyProof.Rows L2
section
variable {X:Cx} {a b c e:Expr} {es:List Expr} {m m1 m2 m3:ME} {ms:MA} {p pos pos' p2 apos cpos q npos:Pos} {x:Str}
variable {K:Frag} {N:Addr→Prop} {H:Hp} {σ:L2.St} {v:V} {L:List Addr}
end
section
variable {K:Frag} {ρ ρ' ρ1 ρ2:Ro} {σ σ' σ1 σ2:L2.St} {H H' H1 H2:Hp} {O O' N:Addr→Prop} {fp fp' fp1 fp2:Nat→List Addr} {L L1:List Addr}
end
section
variable {X:Cx} {a b c e:Expr} {es:List Expr} {m m1 m2 m3:ME} {ms:MA} {p pos pos' p2 apos cpos q npos:Pos} {x:Str}
end
end J
end
section
namespace J
open PySem PySem.Spec PyProof.Rows L2
noncomputable abbrev MR:=Ro→Option Str
noncomputable abbrev FnR:=List (Own × A)→Option Str
noncomputable def Mf (a:MS) (r:MR):MR:=fun ρ=>(a ρ).bind fun f=>match f with
 | .next ρ1=>r ρ1
 | _=>none
noncomputable def ifR (c:MT) (r:MR):MR:=fun ρ=>(c ρ).bind fun p=>if p.1 then r p.2 else none
noncomputable def G9 (x:Str):MR:=fun _=>some x
noncomputable def By:List (Own × A)→Bool
 | []=>true
 | (.own,.fz _) :: as=>By as
 | _=>false
noncomputable def Bo (Ψ:FnR) (m:MA):MR:=fun ρ=>(m ρ).bind fun p=>(Cq p.2 p.1).bind fun args=>if By args then Ψ args else none
noncomputable def fnR (np nn:Nat) (r:MR):FnR:=fun args=>if args.length = np then r (args.map some ++ List.replicate (nn - np) none) else none
noncomputable def tR (K:Frag) (XC:Str→Addr) (E:XK) (r:MR):TS:=fun _ σ H=>∃ ρ O fp,Rel K ρ σ H O fp∧∃ x,r ρ = some x∧∀ H',Kept (Fp fp) H H'→E (.ref (XC x)) none H'
noncomputable def spR (K:Frag) (XC:Str→Addr) (Ψ:FnR) (np:Nat):Sp:=fun vs H _ E=>∃ args O fp,vs.length = np∧Rel K (args.map some) (vs.map some) H O fp∧∃ x,Ψ args = some x∧∀ H',Kept (Fp fp) H H'→E (.ref (XC x)) none H'
section
variable {K:Frag} {XC:Str→Addr} {E:XK} {σ:L2.St} {H:Hp} {D:Ends} {r:MR} {a:MS} {c:MT}
theorem Vu (h:tR K XC E (Mf a r) D σ H):VD (tS K a) (tR K XC E r) D σ H:=by
 obtain ⟨ρ,O,fp,rl,x,e,k⟩:=h
 simp only [Mf,bind_eq_some_iff] at e
 obtain ⟨f,e1,e2⟩:=e
 cases f with
 | next ρ1 =>
  refine ⟨ρ,O,fp,rl,_,e1,fun σ' fp' H' p=>?_⟩
  exact ⟨ρ1,O,fp',p.rel0,x,e2,fun H'' kk=>k H'' (p.kept.trans kk fun q hq=>p.new q (.inr hq))⟩
 | brk _=>cases e2
 | cnt _=>cases e2
 | ret _ _=>cases e2
theorem Ww {u:TS} (h:tR K XC E (ifR c r) D σ H):Vt (tT K c) (tR K XC E r) u D σ H:=by
 obtain ⟨ρ,O,fp,rl,x,e,k⟩:=h
 simp only [ifR,bind_eq_some_iff] at e
 obtain ⟨⟨b,ρ1⟩,e1,e2⟩:=e
 cases b with
 | true =>
  refine ⟨ρ,O,fp,rl,true,ρ1,e1,fun fp1 H1 p=>?_⟩
  dsimp only
  rw [if_pos rfl]
  exact ⟨ρ1,O,fp1,p.rel0,x,e2,fun H'' kk=>k H'' (p.kept.trans kk fun q hq=>p.new q (.inr hq))⟩
 | false=>cases e2
theorem Rg {C:Addr} {x:Str} {m:MA} {rs:List R} (hm:∀ ρ,m ρ = some (rs,ρ)) (hl:rs.length≤8) (hC:XC x = C) (h:tR K XC E (G9 x) D σ H):NG E C (tA K m) D σ H:=by
 obtain ⟨ρ,O,fp,rl,y,e,k⟩:=h
 cases e
 refine ⟨ρ,O,fp,rl,rs,ρ,hm ρ,fun vs H' q=>?_⟩
 obtain ⟨L,fp',p,q⟩:=q
 refine ⟨?_,?_⟩
 ·have:∀ {rs:List R} {vs:List V} {N:Addr→Prop} {L:List Addr},RRs K N H' σ vs rs L→vs.length = rs.length:=by
   intro rs
   induction rs with
   | nil=>intro vs N L q; cases vs with | nil=>rfl | cons _ _=>simp only [RRs] at q
   | cons r rs ih =>
    intro vs N L q
    cases vs with
    | nil=>simp only [RRs] at q
    | cons v vs =>
     simp only [RRs] at q
     obtain ⟨_,_,_,_,q2⟩:=q
     simp [ih q2]
  have hs:8≤sizeLine:=by decide
  rw [this q]; lia
 ·rw [← hC]; exact k H' p.kept
theorem Mv {N:Addr→Prop} {ρ:Ro}:∀ {rs:List R} {args:List (Own × A)} {vs:List V} {L:List Addr},Cq ρ rs = some args→By args = true→RRs K N H σ vs rs L→args.length = vs.length∧∀ (j:Nat) st a v,args[j]? = some (st,a)→vs[j]? = some v→∃ d,a = .fz d∧RepA N H v d:=by
 intro rs
 induction rs with
 | nil =>
  intro args vs L e _ q
  cases vs with
  | nil=>cases e; exact ⟨rfl,fun j st a v h=>by simp at h⟩
  | cons _ _=>simp only [RRs] at q
 | cons r rs ih =>
  intro args vs L e hp q
  cases vs with
  | nil=>simp only [RRs] at q
  | cons v vs =>
   simp only [RRs] at q
   obtain ⟨L1,L2,_,q1,q2⟩:=q
   simp only [Cq,bind_eq_some_iff,map_eq_some_iff] at e
   obtain ⟨a,e1,args',e2,rfl⟩:=e
   obtain ⟨st,a⟩:=a
   cases st with
   | lent=>cases a <;> simp [By] at hp
   | ro=>cases a <;> simp [By] at hp
   | own =>
    cases a with
    | fz d =>
     simp only [By] at hp
     obtain ⟨i1,i2⟩:=ih e2 hp q2
     cases r with
     | val b =>
      cases e1
      simp only [RR] at q1
      rw [Aw] at q1
      refine ⟨by simp [i1],fun j st a u h1 h2=>?_⟩
      cases j with
      | zero=>cases h1; cases h2; exact ⟨d,rfl,q1.2⟩
      | succ j=>exact i2 j st a u (by simpa using h1) (by simpa using h2)
     | ref i =>
      simp only [E1] at e1
      split at e1 <;> cases e1
    | _=>simp [By] at hp
theorem GK {np:Nat} {Ψ:FnR} {m:MA} {E':XK} (hE:E' = E) (hnp:∀ args y,Ψ args = some y→args.length = np) (h:tR K XC E (Bo Ψ m) D σ H):Mj (Mi (spR K XC Ψ np) [] E' (tA K m)) D σ H:=by
 subst hE
 obtain ⟨ρ,O,fp,rl,x,e,k⟩:=h
 simp only [Bo,bind_eq_some_iff] at e
 obtain ⟨⟨rs,ρ1⟩,e1,args,e2,e3⟩:=e
 split at e3
 ·rename_i hp
  refine ⟨ρ,O,fp,rl,rs,ρ1,e1,fun vs H1 q=>?_⟩
  obtain ⟨L,fp1,p,q⟩:=q
  obtain ⟨i1,i2⟩:=Mv e2 hp q
  rw [List.append_nil]
  have nn:∀ b,NN (fun _=>[]) (NN fp1 (ad O L)) b↔NN fp1 (ad O L) b:=fun b=>⟨fun z=>by
   rcases z with ⟨j,z⟩ | z
   ·simp at z
   ·exact z,fun z=>.inr z⟩
  refine ⟨args,NN fp1 (ad O L),fun _=>[],by rw [← i1]; exact hnp _ _ e3,⟨by simp [i1],fun j st a ea=>?_,fun _ _=>rfl,fun _=>List.nodup_nil,fun i j b h=>by simp at h,fun i b h=>by simp at h,fun b z=>p.rel.al b ((nn b).mp z)⟩,x,e3,fun H' kk=>?_⟩
  ·have hj:j < args.length:=by
    have:=Az ea
    simpa using this
   have ea':args[j]? = some (st,a):=by simpa using ea
   obtain ⟨v,hv⟩:∃ v,vs[j]? = some v:=⟨vs[j]'(by rw [← i1]; exact hj),List.getElem?_eq_getElem _⟩
   obtain ⟨d,rfl,rd⟩:=i2 j st a v ea' hv
   refine ⟨v,by simp [hv],?_⟩
   rw [Aw]
   exact ⟨rfl,EW (fun b z=>(nn b).mp z) rd⟩
  ·exact k H' (p.kept.trans kk fun b z=>by
    obtain ⟨j,z⟩:=z
    simp at z)
 ·cases e3
theorem Tz {np nn:Nat} {r:MR} {vs:List V} {Q:VK} (h:spR K XC (fnR np nn r) np vs H Q E):tR K XC E r D (vs.map some ++ List.replicate (nn - np) none) H:=by
 obtain ⟨args,O,fp,hl,rl,x,e,k⟩:=h
 simp only [fnR] at e
 split at e
 ·exact ⟨_,O,fp,rl.start (nn - np),x,e,k⟩
 ·cases e
theorem A8 {np nn:Nat} {r:MR}:∀ args y,fnR np nn r args = some y→args.length = np:=fun args y e=>by
 unfold fnR at e
 split at e
 ·rename_i h; exact h
 ·cases e
end
section
variable {X:Cx} {K:Frag} {XC:Str→Addr} {E:XK} {r:MR} {w1:MS} {s:Stmt} {ss st st':List Stmt} {mt:MT} {c:Expr} {pos:Pos}
noncomputable def JR (X:Cx) (XC:Str→Addr) (E:XK) (s:Stmt) (r:MR):Prop:=PS X s (tR X.K XC E r)
noncomputable def JRs (X:Cx) (XC:Str→Addr) (E:XK) (ss:List Stmt) (r:MR):Prop:=PSs X ss (tR X.K XC E r)
theorem Qm (h:JS X s w1) (t:JRs X XC E ss r):JRs X XC E (s :: ss) (Mf w1 r):=Fi (Ir h t) fun _ _ _ h=>Vu h
theorem AJ (h:JR X XC E s r):JRs X XC E (s :: ss) r:=
 Fi (Ir h (show PSs X ss (fun _ _ _=>False) from fun _ _ _ _ _ _ h=>h.elim)) fun _ _ _ h=>h
theorem N4 (hc:JT X c mt) (ha:JRs X XC E st r):JR X XC E (.If c st st' pos) (ifR mt r):=
 Bz (Og hc ha (show PSs X st' (fun _ _ _=>False) from fun _ _ _ _ _ _ h=>h.elim)) fun _ _ _ h=>Ww h
end
section
variable {P:Program} {w:World} {K:Frag} {mg:Str→Option Value} {base:Heap} {XC:Str→Addr}
theorem CK {x qual:Str} {st:Stmt} {f:Addr} {fd:FuncData} {N ps:List Str} {k:Nat} {r:MR} (F:Fun K x qual st f fd) (S:FnScope N ps (Ao st))
  (hb:∀ (cdv:Value) (A:Around) (outer:List Env) (s:Shared) (H:Hp) (E:XK),Room k (A.deeper (envOfC qual (Ao st) s.heap.objs.size f cdv))→JRs (AI (Fly P w) P w K mg base N qual (Ao st) f cdv A outer s H E) XC E (BL st) r) :
  FnOk P w K mg base (Fly P w) (k + 1) f fd ps (spR K XC (fnR ps.length N.length r) ps.length):=by
 refine F.okF S (fun vs H Q E h=>?_) fun cdv A outer s H vs Q E hr h=>⟨_,hb cdv A outer s H E hr,?_⟩
 ·obtain ⟨_,_,_,h,_⟩:=h
  exact h
 ·have hl:vs.length = ps.length:=by
   obtain ⟨_,_,_,h,_⟩:=h
   exact h
  have:=Tz (D:={ nx:=fun _ H'=>Q .non H',rt:=Q }) h
  unfold L2.start
  rw [hl]
  exact this
section
variable {N:List Str} {qual:Str} {scope:Scope} {f:Addr} {cd:Value} {A:Around} {outer:List Env} {s:Shared} {H:Hp} {E:XK}
theorem H0 {x:Str} {C:Addr} {np cpos pos:Pos} {e:Expr} {z:Str} {k:Nat} (X:Exc K mg x C) (hC:XC x = C) (hr:Room k (A.deeper (envOfC qual scope s.heap.objs.size f cd)))
  (hg:Gl (AI (Fly P w) P w K mg base N qual scope f cd A outer s H E) x) (hdb:(x == ("__debug__" : Str)) = false)
  (he:starEach [e] (AI (Fly P w) P w K mg base N qual scope f cd A outer s H E).env = (false,eval e (AI (Fly P w) P w K mg base N qual scope f cd A outer s H E).env) :: starEach [] (AI (Fly P w) P w K mg base N qual scope f cd A outer s H E).env)
  (hpl:(backTo cpos (starEach [] (AI (Fly P w) P w K mg base N qual scope f cd A outer s H E).env)).any (·.1) = false)
  (ha:JE (AI (Fly P w) P w K mg base N qual scope f cd A outer s H E) e (Ag (.str z))) :
  JR (AI (Fly P w) P w K mg base N qual scope f cd A outer s H E) XC E (.Raise (some (.Call (.Name x np) [e] [] cpos)) none pos) (G9 x):=
 Bz (Pb X hr hg hdb he hpl (Aa he ha Af)) fun _ _ _ h=>Rg (rs:=[.val (.fz (.str z))]) (fun _=>rfl) (show 1≤8 by decide) hC h
theorem Dy {g:Str} {k j np:Nat} {ps:List Str} {Ψ:FnR} {ms:MA} {p cpos pos:Pos} {e:Expr} {es:List Expr} (D:Def P w K mg base (Fly P w) k g ps (spR K XC Ψ np)) (hnp:∀ args y,Ψ args = some y→args.length = np) (hr:Room j (A.deeper (envOfC qual scope s.heap.objs.size f cd))) (hkj:k≤j)
  (hs:swapsWith (.Call (.Name g p) (e :: es) [] cpos) none pos.line (AI (Fly P w) P w K mg base N qual scope f cd A outer s H E).env = pure false)
  (hdb:(g == ("__debug__" : Str)) = false) (hg:Gl (AI (Fly P w) P w K mg base N qual scope f cd A outer s H E) g)
  (he:starEach (e :: es) (AI (Fly P w) P w K mg base N qual scope f cd A outer s H E).env = (false,eval e (AI (Fly P w) P w K mg base N qual scope f cd A outer s H E).env) :: starEach es (AI (Fly P w) P w K mg base N qual scope f cd A outer s H E).env)
  (hpl:(backTo cpos (starEach es (AI (Fly P w) P w K mg base N qual scope f cd A outer s H E).env)).any (·.1) = false)
  (ha:JA (AI (Fly P w) P w K mg base N qual scope f cd A outer s H E) (e :: es) ms) :
  JR (AI (Fly P w) P w K mg base N qual scope f cd A outer s H E) XC E (.Expr (.Call (.Name g p) (e :: es) [] cpos) pos) (Bo Ψ ms):=
 Bz (GH (G5 (X:=AI (Fly P w) P w K mg base N qual scope f cd A outer s H E) (E:=E) D hr hkj (GF fun _ _ _ h=>h) ha hg hdb he hpl) hs) fun _ _ _ h=>GK rfl hnp h
end
end
end J
end
section
namespace PySem
section
variable {M:Model} {A:Around} {E:Value→Shared→Prop}
variable {nm q nm' q':Str} {C N B N':Addr} {bs bm bs' bm':List Value} {hdct hdct':Bool} {sn sn':List Str} {sub sub':List Value} {ab ab':Bool} {col col':Option Bool} {dd dd':Option Addr} {k0 k1 k2 k3 k5 j0 j1 j2 j3 j5:Option Value} {newId newId':String}
theorem GP {h:Heap} {g:Array GenState} {d:Drawn} {t:Nat} {os:OsState} {e:Addr} {oe:Obj} {Q:Bool→Shared→Prop}
  (hC:h.get? C = some (excClassObj nm q C N bs bm hdct sn sub ab col dd k0 k1 k2 k3 k5 newId)) (hB:h.get? B = some (excClassObj nm' q' B N' bs' bm' hdct' sn' sub' ab' col' dd' j0 j1 j2 j3 j5 newId')) (he:h.get? e = some oe) (hcls:oe.cls = .ref C) (hbase:bm'.contains (.type "BaseException") = true) (hm:bm.contains (.ref B) = true)
  (hq:Q true ⟨h,g,d,t,os⟩):wpAny M A (excMatches (.ref e) (.ref B)) Q E ⟨h,g,d,t,os⟩:=by
 have hcB:(Value.ref B :: bm').contains (.type "BaseException") = true:=by rw [List.contains_cons,hbase,Bool.or_true]
 have hcC:(Value.ref C :: bm).contains (.ref B) = true:=by rw [List.contains_cons,hm,Bool.or_true]
 have f:=tc_notTuple
 unfold excMatches
 repeat (first | (with_reducible refine wpAny_loadPart_at he ?_; rw [hcls]) | with_reducible refine wpAny_loadPart_at hB ?_ | (with_reducible refine wpAny_isSubtype_exc hB ?_; rw [hcB]) | (with_reducible refine wpAny_isSubtype_exc hC ?_; rw [hcC]) | wp_step)
 exact hq
end
noncomputable def Above (h:Heap) (C B:Addr):Prop:=∃ (nm q nm' q':Str) (N N':Addr) (bs bm bs' bm':List Value) (hd hd':Bool) (sn sn':List Str) (sub sub':List Value) (ab ab':Bool) (col col':Option Bool) (dd dd':Option Addr) (k0 k1 k2 k3 k5 j0 j1 j2 j3 j5:Option Value) (nid nid':String),
 h.get? C = some (excClassObj nm q C N bs bm hd sn sub ab col dd k0 k1 k2 k3 k5 nid)∧h.get? B = some (excClassObj nm' q' B N' bs' bm' hd' sn' sub' ab' col' dd' j0 j1 j2 j3 j5 nid')∧bm'.contains (.type "BaseException") = true∧bm.contains (.ref B) = true
section
variable {prog:Program} {w:World} {A:Around} {E:Value→Shared→Prop} {s:Shared} {env:Env}
theorem Gv {e C B:Addr} {t:Expr} {n:Str} {b₀:Stmt} {suite:List Stmt} {pos:Pos} {rest:List ExceptHandler} {Q:Flow→Shared→Prop}
  (h:wpAny (model prog w) (A.mark (some (.ref e))) (eval t env) (fun c s₁=>c = .ref B∧Above s₁.heap C B∧(∃ oe,s₁.heap.get? e = some oe∧oe.cls = .ref C) ∧
   wpAny (model prog w) (A.mark (some (.ref e))) (setFlight (.ref e) none) (fun _ s₂ =>
     wpAny (model prog w) (A.mark (some (.ref e))) (storeName env n (.ref e)) (fun _ s₃ =>
      wpAny (model prog w) (A.mark (some (.ref e))) (execs (b₀ :: suite) env)
       (fun f s₄=>wpAny (model prog w) A (do bindName env n .none; unbindBehindTheSuite env n pos) (fun _ s₅=>Q f s₅) E s₄)
       (AsSuiteRaised (model prog w) (A.mark (some (.ref e))) env n pos (notedBy (model prog w) (A.mark (some (.ref e))) env (cameBackBy (model prog w) A env E))) s₃) (notedBy (model prog w) (A.mark (some (.ref e))) env (cameBackBy (model prog w) A env E)) s₂) (notedBy (model prog w) (A.mark (some (.ref e))) env (cameBackBy (model prog w) A env E)) s₁) (notedBy (model prog w) (A.mark (some (.ref e))) env (cameBackBy (model prog w) A env E)) s) :
  wpAny (model prog w) A (handleBy (.ref e) env (.ExceptHandler (some t) (some n) (b₀ :: suite) pos :: rest)) Q E s:=by
 refine wpAny_handleBy_cons (codeAny_handlers_test (wpAny_mono h (fun c s₁ h₁=>?_) fun _ _ y=>y)) (by intro q; cases q)
 obtain ⟨rfl,⟨_,_,_,_,_,_,_,_,_,_,_,_,_,_,_,_,_,_,_,_,_,_,_,_,_,_,_,_,_,_,_,_,_,_,hC,hB,hb,hm⟩,⟨oe,he,hcls⟩,hk⟩:=h₁
 obtain ⟨hh,g,d,tk,os⟩:=s₁
 exact GP hC hB he hcls hb hm (codeAny_handlers_suite_as hk)
end
end PySem
end
section
namespace L2
open PySem PySem.Spec PyProof.Rows
section
variable {P:Program} {w:World} {outer:List Env} {H H':Hp} {s s':Shared} {a C:Addr} {a0:Value} {B:Heap}
theorem FlyAt.on {h':Heap} (F:FlyAt P w outer H s a C a0 B H' s') (hd:∀ b∈frs outer,∀ o,s.heap.get? b = some o→∀ vs,o.data ≠ .fields vs) (fl:Heap.FlyingW B outer a (.ref C) a0 h') (sm:s'.heap.UpToSlots h') (pl:A0 h' a):FlyAt P w outer H s a C a0 B H' { s' with heap:=h' }:=
 ⟨F.os,F.bare,fl,F.keep,fun b o e n hb=>by
  obtain ⟨sl,e1⟩:=F.slot b o e n hb
  obtain ⟨sl2,e2⟩:=sm b { o with slots:=sl } e1 (hd b hb o e)
  exact ⟨sl2,e2⟩,F.free,F.there,F.tups,F.frzs,F.tbls,F.hok,pl⟩
theorem FlyAt.un (F:FlyAt P w outer H s a C a0 B H' s') (ht:∀ b∈frs outer,∀ o,s.heap.get? b = some o→H b = none):Un (frs outer) [] H H' s.heap s'.heap∧HOk P w H' s'.heap:=by
 have st:∀ b o,B.get? b = some o→s'.heap.get? b = some o:=F.fly.1
 refine ⟨⟨fun b o e n hb _=>st b o (F.keep b o e n hb),fun b o e n hb _=>F.slot b o e n hb,fun b o e n _=>F.free b o e n,fun b o e _=>?_,F.tups,F.frzs,F.tbls⟩,F.hok.kept st⟩
 by_cases hb:b∈frs outer
 ·obtain ⟨sl,e1⟩:=F.slot b o e (ht b hb o e) hb
  exact ⟨_,e1⟩
 ·obtain ⟨o',e1⟩:=F.there b o e hb
  exact ⟨o',st b o' e1⟩
end
section
variable {X:Cx} {pins:List (Addr × Obj)} {σ:St} {H H':Hp} {s s':Shared} {a C:Addr} {a0:Value} {B:Heap}
theorem Inv.landed (I:Inv X pins σ H s) (F:FlyAt X.prog X.w X.stack H s a C a0 B H' s'):Inv X pins σ H' s':=by
 have e0:=I.env0
 obtain ⟨u,hok⟩:=F.un fun b hb o e=>e0.frf b hb
 obtain ⟨v,H1,J,_,q⟩:=I.after (Q:=fun _ H1=>H1 = H') (u:=.none) (s':=s') ⟨.non,H',F.os,F.bare,u,hok,rfl,rfl⟩
 subst q
 exact J
theorem lands {env:Env} {outer:List Env} {L:Addr} {E:Value→Shared→Prop} {R:Shared→Prop} (I:Inv X pins σ H s) (hs:X.stack = env :: outer) (hf:env.frame = some L) (F:FlyAt X.prog X.w X.stack H s a C a0 B H' s')
  (h:∀ s3,FlyAt X.prog X.w X.stack H s a C a0 B H' s3→R s3) :
  wpAny (model X.prog X.w) X.A (noteFrame (.ref a) env) (fun _ s2=>wpAny (model X.prog X.w) X.A (setFlight (.ref a) none) (fun _ s3=>R s3) E s2) E s':=by
 have e0:=I.env0
 have hd:∀ b∈frs X.stack,∀ o,s.heap.get? b = some o→∀ vs,o.data ≠ .fields vs:=fun b hb o e=>DN e0.funs hb e
 have fr:=e0.frames
 have fl:=F.fly
 rw [hs] at fr fl
 refine LB fr hf fl F.pl fun h1 held sm1 pl1=>?_
 refine F0 held.1 held.2.1 held.2.2.1 held.2.2.2 pl1 fun h2 fl2 sm2 pl2=>?_
 rw [← hs] at fl2
 exact h _ (F.on hd fl2 (sm1.trans sm2) pl2)
end
section
variable {X:Cx} {body:List Stmt} {h0:ExceptHandler} {hs:List ExceptHandler} {pos:Pos} {t:TS}
noncomputable def My (X:Cx) (pins:List (Addr × Obj)) (D:Ends) (hs:List ExceptHandler):Value→Shared→Prop:=fun e s1 =>
 wpAny (model X.prog X.w) X.A (noteFrame e X.env) (fun _ s2=>wpAny (model X.prog X.w) X.A (setFlight e none) (fun _ s3=>wpAny (model X.prog X.w) X.A (handleBy e X.env hs) (SP X pins D) X.xe s3) X.xe s2) X.xe s1
theorem Ox {pins:List (Addr × Obj)} {s:Shared} {σ:St} {H:Hp} {D:Ends} (hb:wpAny (model X.prog X.w) X.A (execs body X.env) (SP X pins D) (My X pins D (h0 :: hs)) s) :
  wpAny (model X.prog X.w) X.A (exec (.Try body (h0 :: hs) [] [] pos) X.env) (SP X pins D) X.xe s:=by
 refine wpAny_Try_except (wpAny_mono hb (fun f s1 q=>?_) fun e s1 q=>q)
 cases f with
 | next=>exact wpAny_execs_nil q
 | brk=>exact q
 | cont=>exact q
 | ret u=>exact q
theorem Pd (hb:PSs X.nox body t):PS X (.Try body (h0 :: hs) [] [] pos) t:=fun pins s σ H D I h =>
 Ox (σ:=σ) (H:=H) (wpAny_mono (hb pins s σ H D (I.wish _) h) (fun _ _ q=>q.unwish) fun _ _ z=>False.elim z)
theorem Jd {P:Program} {w:World} {env:Env} {outer:List Env} {L:Addr} {pins:List (Addr × Obj)} {D:Ends} {E:XK} (hP:X.prog = P) (hw:X.w = w) (he:X.env = env) (hs':X.stack = env :: outer) (hf:env.frame = some L)
  (h:∀ (σ:St) (H H':Hp) (s s3:Shared) (a C:Addr) (a0:Value) (B:Heap),Inv X pins σ H s→FlyAt P w X.stack H s a C a0 B H' s3→Inv X pins σ H' s3→E (.ref C) none H'→wpAny (model P w) X.A (handleBy (.ref a) env (h0 :: hs)) (SP X pins D) X.xe s3) :
  ∀ (σ:St) (H:Hp) (s:Shared) (e:Value) (s':Shared),Inv X pins σ H s→Fly P w X.stack H s E e s'→My X pins D (h0 :: hs) e s':=by
 subst hP hw he
 intro σ H s e s' I fl
 obtain ⟨a,C,a0,B,H',rfl,F,q⟩:=fl
 exact lands I hs' hf F fun s3 F3=>h σ H H' s s3 a C a0 B I F3 (I.landed F3) q
end
section
variable {X:Cx} {k j:Nat} {x:Str} {ps:List Str} {sp:Sp} {E:XK} {p cpos pos:Pos} {e:Expr} {es:List Expr} {t:TA} {pins:List (Addr × Obj)} {σ:St} {H:Hp} {s:Shared}
end
section
variable {X:Cx} {pins:List (Addr × Obj)} {σ:St} {H H':Hp} {s s':Shared} {a C:Addr} {a0:Value} {B:Heap}
theorem FlyAt.fresh {P:Program} {w:World} {K:Frag} {mg:Str→Option Value} {base:Heap} {A:Around} {outer:List Env} (e0:Env0 P w K mg base A outer s H) (F:FlyAt P w outer H s a C a0 B H' s'):s.heap.get? a = none:=by
 cases hs:s.heap.get? a with
 | none=>rfl
 | some o =>
  by_cases hb:a∈frs outer
  ·obtain ⟨sl,e1⟩:=F.slot a o hs (e0.frf a hb) hb
   obtain ⟨oe,vs,e2,_,hd,_⟩:=F.fly.first
   rw [e1] at e2
   cases e2
   exact absurd hd (DN e0.funs hb hs vs)
  ·obtain ⟨o',e1⟩:=F.there a o hs hb
   rw [F.fly.2.1] at e1; cases e1
theorem Inv.track {s1:Shared} {o:Obj} (I0:Inv X pins σ H s) (I:Inv X pins σ H' s1) (h0:s.heap.get? a = none) (hn:H' a = none) (ho:s1.heap.get? a = some o):Inv X pins σ (upd H' a (.frz o (.own a))) s1:=by
 have ne:∀ b u,s.heap.get? b = some u→b≠a:=fun b u e z=>by rw [z,h0] at e; cases e
 have neH:∀ b u,H' b = some u→b≠a:=fun b u e z=>by rw [z,hn] at e; cases e
 have u:=I.base
 obtain ⟨m0,n0,_⟩:=I0.loc
 refine ⟨I.ok,I.os,I.bare,⟨u.keep,u.slot,fun b ob e n hx=>?_,u.there,fun b xs e=>?_,fun b ob v e=>?_,fun b qs e=>?_⟩,I.loc,I.cell,?_,fun x c hc=>?_,fun q hq=>?_,fun b v e=>?_,I.len⟩
 ·by_cases hb:b∈X.ex
  ·exact absurd hb hx
  ·obtain ⟨o',e'⟩:=I0.base.there b ob e hx
   rw [Ax (ne b o' e')]
   exact u.free b ob e n hx
 ·have:=u.tups b xs e
  rw [Ax (neH b _ this)]; exact this
 ·have:=u.frzs b ob v e
  rw [Ax (neH b _ this)]; exact this
 ·obtain ⟨more,this⟩:=u.tbls b qs e
  exact ⟨more,by rw [Ax (neH b _ this)]; exact this⟩
 ·obtain ⟨ol,es,ep,el,_⟩:=n0
  rw [Ax (ne _ ol el)]; exact I.free
 ·obtain ⟨v,hv⟩:=I0.cell x c hc
  obtain ⟨oc,ec,_⟩:=hv
  rw [Ax (ne _ oc ec)]; exact I.freeC x c hc
 ·obtain ⟨e1,e2,e3⟩:=I.pin q hq
  obtain ⟨f1,_⟩:=I0.pin q hq
  exact ⟨e1,by rw [Ax (ne _ _ f1)]; exact e2,e3⟩
 ·by_cases hb:b = a
  ·subst hb
   rw [AQ] at e; cases e
   exact ⟨ho,_,ho⟩
  ·rw [Ax hb] at e
   exact (I.hok b v e).stay (fun d v' _ q=>q) (fun d q=>by rw [Ax (neH d _ q)]; exact q) fun d xs q=>by rw [Ax (neH d _ q)]; exact q
end
end L2
end
section
namespace PySem
theorem Above.keeps {h h':Heap} {C B:Addr} (x:Above h C B) (k:∀ b o,h.get? b = some o→h'.get? b = some o):Above h' C B:=by
 obtain ⟨a1,a2,a3,a4,a5,a6,a7,a8,a9,b0,b1,b2,b3,b4,b5,b6,b7,b8,b9,c0,c1,c2,c3,c4,c5,c6,c7,c8,c9,d0,d1,d2,d3,d4,hC,hB,q⟩:=x
 exact ⟨a1,a2,a3,a4,a5,a6,a7,a8,a9,b0,b1,b2,b3,b4,b5,b6,b7,b8,b9,c0,c1,c2,c3,c4,c5,c6,c7,c8,c9,d0,d1,d2,d3,d4,k _ _ hC,k _ _ hB,q⟩
end PySem
namespace L2
open PySem PySem.Spec PyProof.Rows
section
variable {X:Cx} {pins:List (Addr × Obj)} {σ:St} {H H':Hp} {s s3:Shared} {a C:Addr} {a0:Value} {B:Heap}
theorem Inv.forget {h':Heap} {t':Nat} {m':Str→Option Value} (I:Inv X pins σ H s) (hn':h'.Ns X.env.locals m') (hs:Heap.SameBut X.env.locals s.heap h'):Inv X pins (List.replicate X.N.length none) H { s with heap:=h',toks:=t' }:=by
 have cne:=I.cne
 refine ⟨I.ok,I.os,I.bare,⟨fun b o e n hb hx=>?_,fun b o e n hb hx=>?_,I.base.free,fun b o e hx=>?_,I.base.tups,I.base.frzs,I.base.tbls⟩,⟨_,hn',fun j y v' e1 e2 e3=>?_⟩,fun y c e=>?_,I.free,I.freeC,fun p hp=>?_,fun b ob e=>?_,by simp⟩
 ·exact (hs.2 b (Nat.ne_of_lt (Nat.lt_of_lt_of_le (Heap.lt_size e) I.ok.above))).trans (I.base.keep b o e n hb hx)
 ·obtain ⟨sl,e1⟩:=I.base.slot b o e n hb hx
  exact ⟨sl,(hs.2 b (Nat.ne_of_lt (Nat.lt_of_lt_of_le (Heap.lt_size e) I.ok.above))).trans e1⟩
 ·obtain ⟨o',e1⟩:=I.base.there b o e hx
  exact ⟨o',(hs.2 b (Nat.ne_of_lt (Nat.lt_of_lt_of_le (Heap.lt_size e) I.ok.above))).trans e1⟩
 ·rw [List.getElem?_replicate] at e2
  split at e2 <;> cases e2
 ·obtain ⟨w',z⟩:=I.cell y c e
  exact ⟨w',z.sameBut hs (cne y c e)⟩
 ·obtain ⟨e,n,ne,nf,d⟩:=I.pin p hp
  exact ⟨(hs.2 p.1 ne).trans e,n,ne,nf,d⟩
 ·have hfree:=I.free
  refine (I.hok b ob e).stay (fun c w' hc q=>(hs.2 c ?_).trans q) (fun _ q=>q) fun _ _ q=>q
  rintro rfl
  rcases hc with hc | hc
  ·rw [← hc,hfree] at e; cases e
  ·rw [hfree] at hc; cases hc
theorem ML {HE:Addr} {y n:Str} {i:Nat} {e:Expr} {tp rp hpos:Pos} {D:Ends} (hN:X.N.Nodup) (hi:X.N[i]? = some n) (hx:X.env.scope.names.lookup n = some .local) (hk:X.env.kindOf n = some .local)
  (hg:Gl X y) (hm:X.mg y = some (.ref HE)) (hdb:(y == ("__debug__" : Str)) = false) (hab:Above X.base C HE) (I0:Inv X pins σ H s) (F:FlyAt X.prog X.w X.stack H s a C a0 B H' s3) (hn:H' a = none)
  (he:∀ (oe:Obj) (vs:Array Value) (s5:Shared),oe.cls = .ref C→oe.data = .fields vs→vs[2]? = some .none→Inv X pins (σ.set i (some (.ref a))) (upd H' a (.frz oe (.own a))) s5→wpAny (model X.prog X.w) (X.A.mark (some (.ref a))) (eval e X.env) (fun u s6=>∃ v σ6 H6,Inv X pins σ6 H6 s6∧RelV v u∧D.rt v H6) (fun _ _=>False) s5) :
  wpAny (model X.prog X.w) X.A (handleBy (.ref a) X.env [.ExceptHandler (some (.Name y tp)) (some n) [.Return (some e) rp] hpos]) (SP X pins D) X.xe s3:=by
 have I3:=I0.landed F
 have e0:=I0.env0
 have hd:∀ b∈frs X.stack,∀ o,s.heap.get? b = some o→∀ vs,o.data ≠ .fields vs:=fun b hb o e=>DN e0.funs hb e
 refine Gv (C:=C) (B:=HE) (Calls.Name_function_global I3.ok.kind hg (Calls.loadGlobal_global (by rw [I3.ok.glob]; exact I3.mod.glob.keeps I3.bk) hm ⟨rfl,hab.keeps I3.bk,F.fly.there,?_⟩) hdb)
 refine Lz F.fly F.pl fun h4 fl4 sm4 pl4=>?_
 have F4:=F.on hd fl4 sm4 pl4
 have I4:=I0.landed F4
 obtain ⟨oe,hoe,hcls⟩:=fl4.there
 obtain ⟨oe',vs,q1,q2,q3⟩:=pl4
 rw [hoe] at q1
 cases q1
 have I4':=Inv.track I0 I4 (F.fresh e0) hn hoe
 refine EA (v:=.ref a) I4' hN hi (.inl hx) rfl (fun s5 I5=>?_) (.inr hx)
 refine wpAny_execs_cons (wpAny_Return_some (wpAny_mono (he oe vs s5 hcls q2 q3 I5) (fun u s6 yy=>?_) fun _ _ z=>z.elim))
 obtain ⟨v,σ6,H6,I6,r,q⟩:=yy
 obtain ⟨m6,n6,_⟩:=id I6.loc
 refine wpAny_nameGoes hk n6 (by rw [I6.ok.kind]; rfl) fun h7 m7 n7 sb7=>?_
 exact ⟨v,_,H6,I6.forget n7 sb7,r,q⟩
end
end L2
end
section
namespace L2
open PySem PySem.Spec PyProof.Rows
theorem IP:entryFor table "proto.unchain" = some Builtin.«proto.unchain»:=entryFor_of_tree (by kernel_rfl)
section
variable {prog:Program} {w:World} {A:Around} {E:Value→Shared→Prop} {s:Shared}
theorem Kz {α:Type} {h e:Addr} {oe:Obj} {ve:Array Value} {Q:α → Shared→Prop} (hh:A.handled = some (.ref h)) (ne:h≠e) (hp:A0 s.heap h) (he:s.heap.get? e = some oe) (hde:oe.data = .fields ve) (h2:2 < ve.size)
  (k:E (.ref e) { s with heap:=s.heap.update e (Obj.mapFields (·.setIfInBounds 2 (.ref h))) }):wpAny (model prog w) A (raiseNew (α:=α) (.ref e)) Q E s:=by
 obtain ⟨oh,vh,ho,hd,hc⟩:=hp
 simp only [raiseNew]
 refine wpAny_bind (wpAny_handled ?_)
 rw [hh]
 have hne:(Value.ref h != Value.ref e) = true:=by
  rw [bne_iff_ne]
  intro z
  injection z with z
  exact ne z
 show wpAny _ _ (if (Value.ref h != Value.ref e) = true then _ else _) _ _ _
 rw [if_pos hne]
 refine wpAny_bind (wpAny_holding (runValue_entry IP ?_))
 unfold Builtin.«proto.unchain»
 refine wpAny_bind (wpAny_field ho hd hc ?_)
 refine wpAny_pure ⟨_,rfl,?_⟩
 unfold updateField
 refine wpAny_bind (wpAny_bind (wpAny_load he ?_))
 rw [hde]
 show wpAny _ _ (if 2 < ve.size then _ else _) _ _ _
 rw [if_pos h2]
 exact wpAny_update he (wpAny_throw k)
end
section
variable {prog:Program} {w:World} {A:Around} {E:Value→Shared→Prop} {s:Shared}
theorem Ha {it a:Addr} {x left step:Int} {Q:Option Value→Shared→Prop} (hh:A.handled = some (.ref a)) (hp:A0 s.heap a) (hit:IsRangeIter s.heap it x left step) (hleft:left≤0)
  (hQ:∀ h',(∀ b o,s.heap.get? b = some o→h'.get? b = some o)→Q none { s with heap:=h' }):wpAny (model prog w) A (pyNext (.ref it)) Q E s:=by
 have hT:s.TypeIs (.ref it) "range_iterator" := ⟨_,hit,rfl⟩
 unfold pyNext
 refine wpAny_bind (wpAny_attempt (wpAny_callSpecial?_slot (name:=Str.ofString "__next__") hT F.slot_range_iterator_next
  (wpAny_call_entry F.slot_range_iterator_next hT F.entry_range_iterator_next ?_ (F.args_range_iterator_next_1 _))))
 show wpAny _ _ (field (.ref it) 0 >>= _) _ _ s
 refine wpAny_bind (wpAny_field hit rfl (x:=rawInt x) rfl ?_)
 show wpAny _ _ (field (.ref it) 1 >>= _) _ _ s
 refine wpAny_bind (wpAny_field hit rfl (x:=rawInt left) rfl ?_)
 show wpAny _ _ (field (.ref it) 2 >>= _) _ _ s
 refine wpAny_bind (wpAny_field hit rfl (x:=rawInt step) rfl ?_)
 show wpAny _ _ (if left≤0 then _ else _) _ _ s
 rw [if_pos hleft]
 refine wpAny_bind (wpAny_rule ?_)
 refine wpAny_bind ?_
 show wpAny _ _ (newExc (.type "StopIteration") [] >>= _) _ _ _
 refine wpAny_bind ?_
 simp only [newExc,newTuple]
 refine wpAny_bind (wpAny_newObj_type ?_ (by size_fits))
 refine wpAny_bind (m:=firstArgMember _ _) (wpAny_of_eq (a:=Value.none) (by first | rfl | (simp only [firstArgMember]; rfl)) ?_)
 refine wpAny_newObj_type ?_ (by size_fits)
 have hlt:=hp.lt
 have kk:∀ (o1 o2:Obj) b o,s.heap.get? b = some o→((s.heap.push o1).push o2).get? b = some o:=fun o1 o2 b o e=>Heap.get?_push_of_some _ (Heap.get?_push_of_some _ e)
 refine Kz (h:=a) hh (fun z=>?_) (hp.keeps (kk _ _)) (Heap.get?_push_size _ rfl) rfl (by simp [ownMembersOf]) ?_
 ·have:((s.heap.push { cls:=.type "tuple",data:=.seq ([]:List Value).toArray }).objs.size:Nat) = s.heap.objs.size + 1:=Heap.size_push ..
  lia
 refine wpAny_bind (wpAny_isInstance (T := "StopIteration") (b:=true) ⟨_,Heap.get?_update_self _ (Heap.get?_push_size _ rfl) rfl,rfl⟩ isSubtype_stop ?_)
 refine wpAny_pure (hQ _ fun b o e=>?_)
 refine (Heap.get?_update_other _ _ fun z=>?_).trans (kk _ _ b o e)
 have hb:=Heap.lt_size e
 have:((s.heap.push { cls:=.type "tuple",data:=.seq ([]:List Value).toArray }).objs.size:Nat) = s.heap.objs.size + 1:=Heap.size_push ..
 lia
end
end L2
end
section
namespace J
open PySem PySem.Spec PyProof.Rows L2
section
variable {X:Cx} {a b c e:Expr} {m m1 m2 m3:ME} {p pos pos' p2:Pos}
variable {K:Frag} {N:Addr→Prop} {H:Hp} {v:V}
end
end J
end
section
namespace L2
open PySem PySem.Spec PyProof.Rows
section
variable {X:Cx}
end
end L2
namespace J
open PySem PySem.Spec PyProof.Rows L2
section
variable {X:Cx} {a b c e:Expr} {es:List Expr} {m m1 m2 m3:ME} {ms:MA} {p pos pos' p2 apos cpos q npos:Pos} {x:Str}
variable {K:Frag} {N:Addr→Prop} {H:Hp} {σ:L2.St} {v:V} {L:List Addr}
noncomputable def Tu:List A→Option A:=FT (fun _ _=>true) fun i j=>i + j
noncomputable def WG (i:Nat) (m:ME):MS:=AL i (opM Tu (m2L (Ae i) m))
end
end J
end
section
namespace L2
open PySem PySem.Spec PyProof.Rows
section
variable {X:Cx} {pins:List (Addr × Obj)} {σ:St} {H:Hp} {s:Shared}
end
end L2
namespace J
open PySem PySem.Spec PyProof.Rows L2
section
variable {X:Cx} {x:Str} {pos:Pos} {mi:MI} {mt:MT} {m:ME}
end
end J
end
section
namespace L2
open PySem PySem.Spec PyProof.Rows
noncomputable def Mkd (X:Cx):Prop:=∃ (a:Addr) (o:Obj) (u:HO) (vs:Array Value),X.A.handled = some (.ref a)∧X.H₀ a = some (.frz o u)∧o.data = .fields vs∧vs[2]? = some .none
theorem Inv.plainly {X:Cx} {pins:List (Addr × Obj)} {σ:St} {H:Hp} {s:Shared} (I:Inv X pins σ H s) (m:Mkd X):∃ a,X.A.handled = some (.ref a)∧A0 s.heap a:=by
 obtain ⟨a,o,u,vs,h,hp,hd,hc⟩:=m
 have hok:=(show BH X.prog X.w H s.heap a (.frz o u) from I.hok a _ (I.base.frzs _ _ _ hp))
 exact ⟨a,h,o,vs,hok.1,hd,hc⟩
theorem Td {X:Cx} {own:List Str} {scope:Scope} {C:Addr} {cl:List (Str × Addr)} {fn:Str→Bool} {s:Shared} {σ:St} {H:Hp} {fp:List Addr} {pins:List (Addr × Obj)} (I:Inv X pins σ H s) (m:Mkd X):Mkd (cxD X own scope C cl fn s H fp pins):=by
 obtain ⟨a,o,u,vs,h,hp,r⟩:=m
 exact ⟨a,o,u,vs,h,I.base.frzs _ _ _ hp,r⟩
structure TurnM (P:Program) (w:World) (K:Frag) (tg:Expr) (J:It) (fp:List Addr) (it:Addr) (tn:Nat→Heap→Prop):Prop where
 mem:it∈fp
 obj:∀ i h,tn i h→∀ b∈fp,∃ o,h.get? b = some o∧∀ v,o.data ≠ .cell v
 keep:∀ i h h',tn i h→(∀ b∈fp,∀ o,h.get? b = some o→h'.get? b = some o)→tn i h'
 item:∀ (X:Cx),X.prog = P→X.w = w→X.K = K→Mkd X→∀ (i:Nat) (pins:List (Addr × Obj)) (s:Shared) (σ:St) (H:Hp) (E:Value→Shared→Prop),Inv X pins σ H s→(∀ b∈fp,Eb X pins H b)→tn i s.heap→J.go i H →
  wpAny (model P w) X.A (pyNext (.ref it)) (fun r s1=>∃ u,r = some u ∧
   wpAny (model P w) X.A (letOwnedTupleGo tg (.ref it) u) (fun _ s2=>∃ x H',Inv X pins σ H' s2∧RelV x u∧J.yld i H x H'∧tn (i + 1) s2.heap∧∀ b∈fp,H' b = none) E s1) E s
 done:∀ (X:Cx),X.prog = P→X.w = w→X.K = K→Mkd X→∀ (i:Nat) (pins:List (Addr × Obj)) (s:Shared) (σ:St) (H:Hp) (E:Value→Shared→Prop),Inv X pins σ H s→(∀ b∈fp,Eb X pins H b)→tn i s.heap→J.stop i H →
  wpAny (model P w) X.A (pyNext (.ref it)) (fun r s1=>r = none∧Inv X pins σ H s1) E s
 self:∀ (A:Around) (i:Nat) (s:Shared) (Q:Value→Shared→Prop) (E:Value→Shared→Prop),tn i s.heap→Q (.ref it) s→wpAny (model P w) A (pyIter (.ref it)) Q E s
noncomputable def VJ (X:Cx) (pins:List (Addr × Obj)) (σ:St) (tg:Expr) (R:It→Hp→Prop) (itv:Value) (s2:Shared):Prop:=
 ∃ (it:Addr) (fp:List Addr) (tn:Nat→Heap→Prop) (J:It) (H':Hp),itv = .ref it∧Inv X pins σ H' s2∧TurnM X.prog X.w X.K tg J fp it tn∧tn 0 s2.heap∧(∀ b∈fp,Eb X pins H' b)∧R J H'
noncomputable def PIM (X:Cx) (tg iter:Expr) (wi:TI):Prop:=
 ∀ (pins:List (Addr × Obj)) (s:Shared) (σ:St) (H:Hp) (R:It→Hp→Prop),Inv X pins σ H s→wi σ H R →
  wpAny (model X.prog X.w) X.A (eval iter X.env) (fun v s1=>wpAny (model X.prog X.w) X.A (pyIter v) (VJ X pins σ tg R) X.xe s1) X.xe s
theorem Ml {P:Program} {w:World} {K:Frag} {tg:Expr} (it:Addr) (lo:Int) (n:Nat):TurnM P w K tg (Itr lo n) [it] it (fun i h=>IsRangeIter h it (lo + (i:Nat) * 1) ((n:Int) - (i:Nat)) 1) where
 mem:=by simp
 obj:=fun i h st b hb=>by
  have e:b = it:=by simpa using hb
  subst e
  exact ⟨_,st,fun v z=>by
   have z':Data.fields _ = Data.cell v:=z
   cases z'⟩
 keep:=fun i h h' st k=>k it (by simp) _ st
 item:=by
  intro X hP hw hK hc i pins s σ H E I hf st hg
  subst hP hw hK
  obtain ⟨f0,f1,f2,f3,f4,f5⟩:=hf it (by simp)
  have hi:i < n:=hg
  refine wpAny_pyNext_range_item st (by lia) fun h' st' sb=>?_
  have I1:Inv X pins σ H { s with heap:=h',toks:=s.toks + 1 }:=I.turned (fun b o hb e=>(sb.2 b hb).trans e) f0 f1 f3 f4 f5
  have e1:lo + ((i + 1:Nat):Int) * 1 = lo + (i:Int) * 1 + 1:=by lia
  have e2:(n:Int) - ((i + 1:Nat):Int) = (n:Int) - (i:Int) - 1:=by lia
  have st2:IsRangeIter h' it (lo + ((i + 1:Nat):Int) * 1) ((n:Int) - ((i + 1:Nat):Int)) 1:=by rw [e1,e2]; exact st'
  refine ⟨_,rfl,Jp (s:={ s with heap:=h',toks:=s.toks + 1 }) (n := "range_iterator") st2 rfl rfl (by decide) ⟨.int (lo + i),H,I1,⟨s.toks,?_⟩,⟨rfl,rfl⟩,st2,fun b hb=>(hf b hb).1⟩⟩
  rw [Int.mul_one]
 done:=by
  intro X hP hw hK hc i pins s σ H E I hf st hg
  subst hP hw hK
  obtain ⟨f0,f1,f2,f3,f4,f5⟩:=hf it (by simp)
  obtain ⟨a,hh,hp⟩:=I.plainly hc
  exact Ha hh hp st (by have:n≤i:=hg; lia) fun h' kk=>⟨rfl,I.kept (t':=s.toks) fun b o e=>kk b o e⟩
 self:=fun _ _ _ _ _ st h=>wpAny_pyIter_rangeiter st h
section
variable {X:Cx} {tg:Expr}
theorem Pe {pins:List (Addr × Obj)} {σ:St} {H:Hp} {s:Shared} {R:It→Hp→Prop} {E:Value→Shared→Prop} {lo hi:Int} {t u v:Tok} {tk:Nat} (I:Inv X pins σ H s) (h1 : -(2 ^ 62)≤lo) (h2:lo < 2 ^ 62) (h3 : -(2 ^ 62)≤hi) (h4:hi < 2 ^ 62)
  (q:R (Itr lo (hi - lo).toNat) H):wpAny (model X.prog X.w) X.A (pyIter (.ref s.heap.objs.size)) (VJ X pins σ tg R) E { s with heap:=s.heap.push { cls:=.type "range",data:=.fields #[.int lo t,.int hi u,.int 1 v] },toks:=tk }:=by
 refine wpAny_pyIter_range (IsRange.new ..) (small_one h1 h2 h3 h4) ?_
 have I1:Inv X pins σ H { s with heap:=s.heap.push { cls:=.type "range",data:=.fields #[.int lo t,.int hi u,.int 1 v] },toks:=tk }:=I.kept fun b o e=>Heap.get?_push_of_some _ e
 refine ⟨(s.heap.push { cls:=.type "range",data:=.fields #[.int lo t,.int hi u,.int 1 v] }).objs.size,[(s.heap.push { cls:=.type "range",data:=.fields #[.int lo t,.int hi u,.int 1 v] }).objs.size],_,_,H,rfl,
  I1.kept (t':=tk) fun b o e=>Heap.get?_push_of_some _ e,Ml _ lo (hi - lo).toNat,?_,fun b hb=>?_,q⟩
 ·have e1:lo + ((0:Nat):Int) * 1 = lo:=by simp
  have e2:(((hi - lo).toNat:Nat):Int) - ((0:Nat):Int) = Builtin.Range.rangeSize lo hi 1:=by rw [rangeSize_one]; split <;> lia
  show IsRangeIter _ _ (lo + ((0:Nat):Int) * 1) ((((hi - lo).toNat:Nat):Int) - ((0:Nat):Int)) 1
  rw [e1,e2]
  exact Heap.get?_push_size _ rfl
 ·have e:b = (s.heap.push { cls:=.type "range",data:=.fields #[.int lo t,.int hi u,.int 1 v] }).objs.size:=by simpa using hb
  subst e
  exact I1.fpOk (Nat.le_refl _) (I1.hok.fresh (Nat.le_refl _))
theorem Nk {a:Expr} {ta:TA} {p pos:Pos} (hg:Gl X "range") (hm:X.mg "range" = none) (ha:PA X [a] ta) (hs:starEach [a] X.env = [(false,eval a X.env)]:=by rfl):PIM X tg (.Call (.Name "range" p) [a] [] pos) (P0 ta):=by
 intro pins s σ H R I h
 refine Call_ (F2 I hg hm boot_range (PyProof.Rows.callWith_type1 (thn (ha pos pins s σ H _ I h) fun us s1 ⟨vs,H1,I1,r1,q1⟩=>?_) hs rfl))
 obtain ⟨j,e,q1,q2,q⟩:=q1
 subst e
 cases r1 with
 | cons r rr =>
  cases rr
  obtain ⟨t,rfl⟩:=r
  exact call_range_1 (Pe I1 (by lia) (by lia) q1 q2 (by simpa using q))
end
section
variable {X:Cx} {pins:List (Addr × Obj)} {σ:St} {H:Hp} {s:Shared}
theorem Pf {own:List Str} {scope:Scope} {fp:List Addr} {it:Addr} {tn:Nat→Heap→Prop} {J:It} {target iter elt:Expr} {ifs:List Expr} {pos:Pos} {un:TU} {tc:TT} {te:TE} {acc:Addr} {Q:VK} {R:Result→Shared→Prop}
  {cl:List (Str × Addr)} {fn:Str→Bool} {h1:Heap} {t1:Nat} (hc:Mkd X)
  (hg:PGo (cxD X own scope s.heap.objs.size cl fn s H fp pins) target own.length un) (ht:PTs (cxD X own scope s.heap.objs.size cl fn s H fp pins) ifs tc) (he:PE (cxD X own scope s.heap.objs.size cl fn s H fp pins) elt te)
  (I:Inv X pins σ H s) (T:TurnM X.prog X.w X.K target J fp it tn) (st:tn 0 s.heap) (f2:∀ b∈fp,Eb X pins H b)
  (W:Nat→Nat→List V→Hp→Prop) (w0:∃ m,W 0 m [] H)
  (turn:∀ i m ys H,W i m ys H→H acc = some (.lst ys) ∧
   ((J.stop i H∧Q (.ref acc) H)∨(J.go i H∧∀ x H',J.yld i H x H'→∃ vs,un x H' vs∧tc (vs.map some ++ σ) H' fun b H3 =>
    if b = true then te (vs.map some ++ σ) H3 fun v H4=>H4 acc = some (.lst ys)∧ys.length < sizeLine∧∃ m',m' < m∧W (i + 1) m' (ys ++ [v]) (upd H4 acc (.lst (ys ++ [v])))
    else ∃ m',m' < m∧W (i + 1) m' ys H3)))
  (fin:∀ s' σ' H',Inv (cxD X own scope s.heap.objs.size cl fn s H fp pins) [] σ' H' s'→Q (.ref acc) H'→R (.ok .next) s')
  (hk:∀ b o,s.heap.get? b = some o→h1.get? b = some o) (I0:Inv (cxD X own scope s.heap.objs.size cl fn s H fp pins) [] (List.replicate own.length none ++ σ) H { s with heap:=h1,toks:=t1 }) :
  codeAny (model X.prog X.w) X.A (.compStart (.ListComp elt [⟨target,iter,ifs,0⟩] scope pos) 0 (.ref it) (.ref acc) (compEnvC scope cl s.heap.objs.size X.env)) R { s with heap:=h1,toks:=t1 }:=by
 have st1:tn 0 h1:=T.keep _ _ _ st fun b _ o e=>hk b o e
 have stat:∀ {H':Hp},(∀ b∈fp,H' b = none)→∀ b∈fp,Eb (cxD X own scope s.heap.objs.size cl fn s H fp pins) [] H' b:=fun hn b hb=>by
  obtain ⟨_,f1,f3,_,f5,f6⟩:=f2 b hb
  obtain ⟨o,e,_⟩:=T.obj _ _ st b hb
  refine ⟨hn b hb,Nat.ne_of_lt (Heap.lt_size e),fun hz=>?_,.inl hb,(I0.ok.exf b hb).2,fun p hp=>f6 p (by simpa using hp)⟩
  rcases List.mem_cons.mp (I.stkSub b hz) with z | z
  ·exact f1 z
  ·exact f3 z
 have loop:∀ s4,s4 = { s with heap:=h1,toks:=t1 }→codeAny (model X.prog X.w) X.A (.compLoop (.ListComp elt [⟨target,iter,ifs,0⟩] scope pos) 0 (.ref it) (.ref acc) (compEnvC scope cl s.heap.objs.size X.env)) R s4:=by
  rintro s4 rfl
  obtain ⟨m0,w0⟩:=w0
  refine HQ (fun n s'=>∃ i ys σ0 H',σ0.length = own.length∧Inv (cxD X own scope s.heap.objs.size cl fn s H fp pins) [] (σ0 ++ σ) H' s'∧tn i s'.heap∧(∀ b∈fp,H' b = none)∧W i n ys H') ?_ m0 ⟨0,[],_,H,by rw [List.length_replicate],I0,st1,fun b hb=>(f2 b hb).1,w0⟩
  rintro n s3 ⟨i,ys,σ0,H3,hl3,I3,st3,fr3,w3⟩
  obtain ⟨ha,turn3⟩:=turn i n ys H3 w3
  rcases turn3 with ⟨stop,qn⟩ | ⟨go,step⟩
  ·refine thn (T.done (cxD X own scope s.heap.objs.size cl fn s H fp pins) rfl rfl rfl (Td I hc) i [] s3 _ H3 _ I3 (stat fr3) st3 stop) fun r s4 yy=>?_
   obtain ⟨hr,I4⟩:=yy
   subst hr
   exact fin s4 _ H3 I4 qn
  ·refine thn (T.item (cxD X own scope s.heap.objs.size cl fn s H fp pins) rfl rfl rfl (Td I hc) i [] s3 _ H3 _ I3 (stat fr3) st3 go) fun r s4 yy=>?_
   obtain ⟨u,hr,h4⟩:=yy
   subst hr
   refine thn h4 fun _ s5 yy=>?_
   obtain ⟨x,H5,I5,r5,y5,st5,fr5⟩:=yy
   obtain ⟨vs,hu,q5⟩:=step x H5 y5
   have I5':=I5.pinned (stat fr5) (T.obj _ _ st5)
   have again:∀ {H7:Hp} {s7:Shared},vs.length = own.length→Inv (cxD X own scope s.heap.objs.size cl fn s H fp pins) ([] ++ G7 fp s5.heap) (vs.map some ++ σ) H7 s7→∀ {ys'},(∃ m',m' < n∧W (i + 1) m' ys' H7) →
     ∃ m,m < n∧∃ i ys σ0 H',σ0.length = own.length∧Inv (cxD X own scope s.heap.objs.size cl fn s H fp pins) [] (σ0 ++ σ) H' s7∧tn i s7.heap∧(∀ b∈fp,H' b = none)∧W i m ys H':=fun {H7 s7} hl I7 {ys'} ⟨m',hm,w7⟩=>by
    refine ⟨m',hm,i + 1,ys',vs.map some,H7,by rw [List.length_map,hl],I7.unpinned,T.keep _ _ _ st5 fun b hb o e=>(I7.pin (b,o) (List.mem_append_right _ (List.mem_append_right _ (C1 hb e)))).1,fun b hb=>?_,w7⟩
    obtain ⟨o,e,d⟩:=T.obj _ _ st5 b hb
    exact (I7.pin (b,o) (List.mem_append_right _ (List.mem_append_right _ (C1 hb e)))).2.1
   refine thn (hg _ s5 σ0 σ H5 x u vs hl3 I5' r5 hu) fun _ s6 yy=>?_
   obtain ⟨hl,I6⟩:=yy
   refine thn (ht _ s6 _ H5 _ I6 q5) fun ok s7 yy=>?_
   obtain ⟨H7,I7,q7⟩:=yy
   cases ok with
   | false =>
    rw [if_neg Bool.false_ne_true] at q7
    rw [if_neg Bool.false_ne_true]
    exact again hl I7 q7
   | true =>
    rw [if_pos rfl] at q7
    rw [if_pos rfl]
    refine thn (he _ s7 _ H7 _ I7 q7) fun v s8 yy=>?_
    obtain ⟨y,H8,I8,r8,ha8,hz8,q8⟩:=yy
    refine thn (GW _ s8 _ H8 (.ref acc) [y] (.ref acc) [v] (fun _ H9=>∃ m',m' < n∧W (i + 1) m' (ys ++ [y]) H9) I8 rfl (.cons r8 .nil) ⟨acc,ys,y,rfl,rfl,ha8,hz8,q8⟩) fun _ s9 yy=>?_
    obtain ⟨_,H9,I9,_,q9⟩:=yy
    exact again hl I9 q9
 exact codeAny_compStart_list (loop _ rfl) (T.self X.A 0 _ _ _ st1 (loop _ rfl))
theorem Nq {own:List Str} {scope:Scope} {fp:List Addr} {it:Addr} {tn:Nat→Heap→Prop} {J:It} {target iter elt:Expr} {ifs:List Expr} {pos:Pos} {un:TU} {tc:TT} {te:TE} {acc:Addr} {Q:VK} {R:Result→Shared→Prop}
  {E:Value→Shared→Prop} (hc:Mkd X) (hok:BX own X.N scope X.env.scope = true)
  (hg:∀ C s H fp pins,PGo (cxC X own scope C s H fp pins) target own.length un) (ht:∀ C s H fp pins,PTs (cxC X own scope C s H fp pins) ifs tc) (he:∀ C s H fp pins,PE (cxC X own scope C s H fp pins) elt te)
  (I:Inv X pins σ H s) (T:TurnM X.prog X.w X.K target J fp it tn) (st:tn 0 s.heap) (f2:∀ b∈fp,Eb X pins H b)
  (W:Nat→Nat→List V→Hp→Prop) (w0:∃ m,W 0 m [] H)
  (turn:∀ i m ys H,W i m ys H→H acc = some (.lst ys) ∧
   ((J.stop i H∧Q (.ref acc) H)∨(J.go i H∧∀ x H',J.yld i H x H'→∃ vs,un x H' vs∧tc (vs.map some ++ σ) H' fun b H3 =>
    if b = true then te (vs.map some ++ σ) H3 fun v H4=>H4 acc = some (.lst ys)∧ys.length < sizeLine∧∃ m',m' < m∧W (i + 1) m' (ys ++ [v]) (upd H4 acc (.lst (ys ++ [v])))
    else ∃ m',m' < m∧W (i + 1) m' ys H3)))
  (fin:∀ s' σ' H',Inv (cxC X own scope s.heap.objs.size s H fp pins) [] σ' H' s'→Q (.ref acc) H'→R (.ok .next) s') :
  wpAny (model X.prog X.w) X.A (newFunctionEnv scope X.env.globals (clo X.env.cells scope.names []) [] X.env.qual none .none (some X.env)) (fun cenv s₄ =>
   cenv.locals = s.heap.objs.size∧codeAny (model X.prog X.w) X.A (.compStart (.ListComp elt [⟨target,iter,ifs,0⟩] scope pos) 0 (.ref it) (.ref acc) { cenv with scope:=relabel scope X.env }) R s₄) E s:=by
 have hcell:∀ x∈scope.names,x.2 ≠ .cell:=fun x hx z=>by
  simp only [BX,Bool.and_eq_true,List.all_eq_true] at hok
  have:=(hok.1.1.2 x hx).1.1
  rw [z] at this
  simp at this
 have hkind:scope.kind = .function:=by
  simp only [BX,Bool.and_eq_true] at hok
  simpa using hok.1.2
 refine wpAny_newFunctionEnv hcell (fun x hx=>by simp at hx) (fun h1 hns hsb=>⟨rfl,?_⟩) hkind
 have hk:∀ b o,s.heap.get? b = some o→h1.get? b = some o:=fun b o e=>(hsb.2 b (Nat.ne_of_lt (Heap.lt_size e))).trans (Heap.get?_push_of_some _ e)
 have I0:Inv (cxC X own scope s.heap.objs.size s H fp pins) [] (List.replicate own.length none ++ σ) H { s with heap:=h1,toks:=s.toks + ([]:List (Str × Value)).length }:=
  Jq hok I f2 (fun b hb=>let ⟨o,e,_⟩:=T.obj _ _ st b hb; ⟨o,e⟩) (by simpa using hns) hk
 exact Pf (iter:=iter) (pos:=pos) hc (hg _ _ _ _ _) (ht _ _ _ _ _) (he _ _ _ _ _) I T st f2 W w0 turn fin hk I0
end
section
variable {X:Cx}
end
structure ExcCls (K:Frag) (C:Addr):Prop where
 ga:PySem.W.findIn K (.ref C) "__getattribute__" = some (some (.builtin "BaseException.__getattribute__"))
 noga:PySem.W.findIn K (.ref C) "__getattr__" = some none
 cl:PySem.W.findIn K (.ref C) "__class__" = some (some (.builtin "object.__class__"))
 obj:PySem.W.mroIn K C (.type "object") = some true
 bex:PySem.W.mroIn K C (.type "BaseException") = some true
section
variable {prog:Program} {w:World} {A:Around} {E:Value→Shared→Prop} {h:Heap} {g:Array GenState} {d:Drawn} {t:Nat} {os:OsState} {a C:Addr} {o:Obj} {K:Frag}
theorem IQ {R:Result→Shared→Prop} (X:K.In h) (Y:ExcCls K C) (hx:h.get? a = some o) (hc:o.cls = .ref C) (hq:R (.ok (.ret (.ref C))) ⟨h,g,d,t,os⟩) :
  codeAny (model prog w) A (.call (.builtin "getset_descriptor.__get__") ⟨[.builtin "object.__class__",.ref a,.ref C],[]⟩) R ⟨h,g,d,t,os⟩:=by
 have hT5:(⟨h,g,d,t,os⟩:Shared).TypeIs (.builtin "object.__class__") "getset_descriptor" := F.typeOf_object_class
 have L1:=PySem.W.looks_mroIn (M:=model prog w) X Y.obj
 have L2:PySem.W.Looks (model prog w) h (isSubtype (.ref C) (.type (".".intercalate ("object.__class__".cutAt '.').dropLast))) true:=by rw [F.owner_object_class]; exact L1
 refine codeAny_call_builtin F.slot_gs_get.plain F.entry_gs_get (F.slot_gs_get.check _ _ _ _ _ _ _ _ hT5 (F.args_gs_get _ _ _) ?_)
 repeat (any_goals (first | assumption | (with_reducible refine wpAny_loadPart_at hx ?_; rw [hc]) | (with_reducible refine L2.at ?_) | wp_step))
 refine ⟨Code.quiet_builtin _ dK,codeAny_builtin F.entry_object_class ?_⟩
 repeat (any_goals (first | assumption | (with_reducible refine wpAny_loadPart_at hx ?_; rw [hc]) | wp_step))
theorem Hn {tk:Tok} {Q:Fin→Shared→Prop} (X:K.In h) (Y:ExcCls K C) (hx:h.get? a = some o) (hc:o.cls = .ref C) (hq:Q (.done (.ret (.ref C))) ⟨h,g,d,t,os⟩) :
  wpAny (model prog w) A (Builtin.«object.__getattribute__» ⟨[.ref a,.str "__class__" tk],[]⟩) Q E ⟨h,g,d,t,os⟩:=by
 have hT5:(⟨h,g,d,t,os⟩:Shared).TypeIs (.builtin "object.__class__") "getset_descriptor" := F.typeOf_object_class
 have f5:=F.typeOf_object_class
 have f6:=F.slot_gs_get.lookup
 have f7:=F.slot_gs_set.lookup
 have L1:=PySem.W.looks_findIn (M:=model prog w) X Y.cl
 repeat (any_goals (first | assumption | (with_reducible refine wpAny_loadPart_at hx ?_; rw [hc]) | (with_reducible refine L1.at ?_) | wp_step))
 refine IQ X Y hx hc ?_
 repeat (any_goals (first | assumption | wp_step))
theorem J1 {M:Model} {nameV:Value} {Q:Unit→Shared→Prop} (X:K.In h) (Y:ExcCls K C) (hx:h.get? a = some o) (hc:o.cls = .ref C) (hq:Q () ⟨h,g,d,t,os⟩):wpAny M A (checkBuiltinCall "BaseException.__getattribute__" ⟨[.ref a,nameV],[]⟩) Q E ⟨h,g,d,t,os⟩:=by
 have hk:builtinKind "BaseException.__getattribute__" = some .slot:=by decide +kernel
 have hsplit:splitId "BaseException.__getattribute__" = some ("BaseException","__getattribute__"):=by decide +kernel
 have L1:=PySem.W.looks_mroIn (M:=M) X Y.bex
 have ha:=F.args_bexc_ga (.ref a) nameV
 simp only [checkBuiltinCall,hk,hsplit]
 refine wpAny_bind ?_
 ·unfold isInstance
  repeat (first | (with_reducible refine wpAny_loadPart_at hx ?_; rw [hc]) | (with_reducible refine L1.at ?_) | wp_step)
  exact hq
theorem HX {tk:Tok} {R:Result→Shared→Prop} (X:K.In h) (Y:ExcCls K C) (hx:h.get? a = some o) (hc:o.cls = .ref C) (hp:Slot "ValueError" "__getattribute__" "BaseException.__getattribute__") (hq:R (.ok (.ret (.ref C))) ⟨h,g,d,t,os⟩) :
  codeAny (model prog w) A (.call (.builtin "BaseException.__getattribute__") ⟨[.ref a,.str "__class__" tk],[]⟩) R ⟨h,g,d,t,os⟩:=
 codeAny_call_builtin hp.plain F.entry_bexc_ga (J1 X Y hx hc (Hn X Y hx hc hq))
theorem J0 {tk:Tok} {fill:Bool} {Q:Value→Shared→Prop} (X:K.In h) (Y:ExcCls K C) (hx:h.get? a = some o) (hc:o.cls = .ref C) (hp:Slot "ValueError" "__getattribute__" "BaseException.__getattribute__") (hq:Q (.ref C) ⟨h,g,d,t,os⟩) :
  wpAny (model prog w) A (getAttrBy (.ref a) (.str "__class__" tk) fill) Q E ⟨h,g,d,t,os⟩:=by
 have f3:=hp.bind (.ref a)
 have hx2:(Value.builtin "BaseException.__getattribute__" == Value.builtin "object.__getattribute__") = false:=by decide +kernel
 have hx1:(onTheHeap (Value.ref C) && Value.builtin "BaseException.__getattribute__" == Value.builtin "object.__getattribute__") = false:=by rw [hx2]; rfl
 have L1:=PySem.W.looks_findIn (M:=model prog w) X Y.ga
 have L2:=PySem.W.looks_findIn (M:=model prog w) X Y.noga
 repeat (any_goals (first | assumption | (with_reducible refine wpAny_loadPart_at hx ?_; rw [hc]) | (with_reducible refine L1.at ?_) | (with_reducible refine L2.at ?_) | wp_step))
 refine HX X Y hx hc hp ?_
 repeat (any_goals (first | assumption | wp_step))
theorem HW {Q:Option Value→Shared→Prop} (X:K.In h) (Y:ExcCls K C) (hx:h.get? a = some o) (hc:o.cls = .ref C) (hp:Slot "ValueError" "__getattribute__" "BaseException.__getattribute__") (hq:Q (some (.ref C)) ⟨h,g,d,t + 1,os⟩) :
  wpAny (model prog w) A (getAttr? (.ref a) "__class__") Q E ⟨h,g,d,t,os⟩:=by
 unfold getAttr? getAttrBy?
 repeat (any_goals (first | assumption | with_reducible apply J0 X Y hx hc hp | wp_step))
end
theorem Qr {K:Frag} {a C:Addr} {cd:ClassData} (Y:ExcCls K C) (hcD:PySem.W.clsIn K C = some cd):PySem.W.KitX K (.ref a) (.ref C) (fun h=>∃ o,h.get? a = some o∧o.cls = .ref C) where
 ty:=fun M h _ p=>by
  obtain ⟨o,h1,h2⟩:=p
  exact h2 ▸ (PySem.W.Looks.ld h1).andThen .now
 it:=fun _ _ X _=>by
  unfold PySem.W.clsIn at hcD
  split at hcD
  ·rename_i c' d' cd' sl' ho
   intro A' Q' E' s' k q
   unfold isType loadHead
   exact wpAny_bind (wpAny_loadPart (k _ _ (X _ _ ho)) (wpAny_pure q))
  ·cases hcD
 ne:=fun h tp dd its n sl X htp=>by
  refine Bool.eq_false_iff.mpr fun q=>?_
  have e:C = tp:=Value.ref.inj (beq_iff_eq.mp q)
  subst e
  unfold PySem.W.clsIn at hcD
  split at hcD
  ·rename_i c' d' cd' sl' ho
   have z:=(X _ _ ho).symm.trans htp
   cases z
  ·cases hcD
 ca:=fun {_ _ _ _ _ s} X p k=>by
  obtain ⟨h,g,d,t,os⟩:=s
  obtain ⟨o,h1,h2⟩:=p
  exact HW X Y h1 h2 F.attr_ValueError.ga k
noncomputable def Wi (C:Addr) (c:V) (b:Bool):List V→Hp→VK→Prop:=fun xs H Q=>∃ a o u,xs = [.ref a,c]∧H a = some (.frz o u)∧o.cls = .ref C∧Q (.bl b) H
theorem PB {X:Cx} {C:Addr} {c:V} {cv:Value} {b:Bool} {cd:ClassData} (Y:ExcCls X.K C) (hcD:PySem.W.clsIn X.K C = some cd) (hk:PySem.W.kitOne X.K (.ref C) cv = some b) (hc:∀ u,RelV c u→u = cv) :
  Cc X (.builtin "isinstance") (Wi C c b):=by
 intro pins s σ H xs us Q I r h
 obtain ⟨a,o,u,rfl,ho,hcl,q⟩:=h
 obtain ⟨v1,v2,rfl,r1,r2⟩:=r.two
 cases (show v1 = Value.ref a from r1)
 cases hc _ r2
 have hok:=(show BH X.prog X.w H s.heap a (.frz o u) from I.hok a _ ho)
 exact PySem.W.kia_one (Qr Y hcD) I.kIn ⟨o,hok.1,hcl⟩ hk (fun z=>nomatch z) fun tk=>⟨.bl b,H,I.tok tk,rfl,q⟩
end L2
end
section
namespace J
open PySem PySem.Spec PyProof.Rows L2
section
variable {X:Cx} {a:Expr} {m:ME} {p pos q:Pos} {K:Frag} {H:Hp} {σ:L2.St}
noncomputable def TZ (C:Addr) (b:Bool):A→Option A
 | .opq _ o=>if (o.cls == .ref C) = true then some (.fz (.bl b)) else none
 | .fz _ | .lst _ | .tup _ | .scr _ | .dic _ | .dct _=>none
noncomputable def Bk (C:Addr) (b:Bool):List A→Option A:=on1 (TZ C b)
theorem UA {C:Addr} {b:Bool}:OpN K (Bk C b) (r1L fun x H Q=>∃ a o u,x = .ref a∧H a = some (.frz o u)∧o.cls = .ref C∧Q (.bl b) H):=by
 intro N H xs as b' Q hs e k
 replace e:=Ef e
 obtain ⟨a,rfl,e⟩:=e
 obtain ⟨x,L1,rfl,h1⟩:=Dq hs
 cases a with
 | opq a o =>
  simp only [TZ] at e
  split at e
  ·rename_i hc
   cases e
   rw [Aw] at h1
   obtain ⟨rfl,_,u,h⟩:=h1
   exact ⟨_,rfl,a,o,u,rfl,h,beq_iff_eq.mp hc,k _ _ C3⟩
  ·cases e
 | _=>cases e
theorem Vn {C:Addr} {c:V} {b:Bool} {Q:VK} (h:tE K (opM (Bk C b) (m1L m)) σ H Q):tCB (Wi C c b) (B0 (tE K m) (B0 (tC c) FF)) σ H Q:=by
 have h2:=one UA h
 exact tE.mono h2 fun x H1 ⟨a,o,u,e,r,hc,q⟩=>⟨a,o,u,by rw [e],r,hc,q⟩
theorem Qi {y:Str} {C:Addr} {c:V} {cv:Value} {b:Bool} {cd:ClassData} (Y:ExcCls X.K C) (hcD:PySem.W.clsIn X.K C = some cd) (hk:PySem.W.kitOne X.K (.ref C) cv = some b) (hc:∀ u,RelV c u→u = cv)
  (hn:PE X (.Name y q) (tC c)) (hg:Gl X "isinstance") (B:Blt X.mg X.K) (he:starEach [a,.Name y q] X.env = [(false,eval a X.env),(false,eval (.Name y q) X.env)]) (he2:starEach [.Name y q] X.env = [(false,eval (.Name y q) X.env)]) (ha:JE X a m) :
  JE X (.Call (.Name "isinstance" p) [a,.Name y q] [] pos) (opM (Bk C b) (m1L m)):=
 AO (Io (PB Y hcD hk hc) hg B.isinstance PyProof.Rows.Boot.«isinstance» (Cp ha (Cp hn Eg he2) (he.trans (by rw [he2]))) dK dK (he.trans (by rw [he2])) (by rw [he2]; rfl)) fun _ _ _ h=>Vn h
end
section
variable {X:Cx} {a b c e:Expr} {m:ME} {mt:MT} {mi:MI} {p pos:Pos} {x:Str}
noncomputable def JIM (X:Cx) (tg e:Expr) (m:MI):Prop:=PIM X tg e (tI X.K m)
theorem QO {tg:Expr} {t t':TI} (h:PIM X tg e t) (w:∀ σ H R,t' σ H R→t σ H R):PIM X tg e t':=fun pins s σ H R I q=>h pins s σ H R I (w σ H R q)
theorem Qk {tg:Expr} (hg:Gl X "range") (hm:X.mg "range" = none) (hs:starEach [a] X.env = [(false,eval a X.env)]) (h:JE X a m):JIM X tg (.Call (.Name "range" p) [a] [] pos) (Bw m):=
 QO (Nk hg hm (Cp h Eg hs) hs) fun _ _ _ h=>Ou h
end
end J
end
section
namespace L2
open PySem PySem.Spec PyProof.Rows
structure RoomM (k:Nat) (A:Around):Prop where
 dp:A.depth + 3 * k + 5 < recursionLimit
 un:A.units + 16 * k + 200 < cLine
theorem RoomM.mono {j k:Nat} {A:Around} (r:RoomM k A) (h:j≤k):RoomM j A:=⟨by have:=r.dp; lia,by have:=r.un; lia⟩
theorem RoomM.deeper {k:Nat} {A:Around} (r:RoomM (k + 1) A) (env:Env):RoomM k (A.deeper env):=
 ⟨by have:=r.dp; show A.depth + 1 + 3 * k + 5 < _; lia,by have:=r.un; show A.units + 3 + 16 * k + 200 < _; lia⟩
theorem RoomM.depth {k:Nat} {A:Around} (r:RoomM k A):A.depth < recursionLimit:=by have:=r.dp; lia
theorem RoomM.units {k:Nat} {A:Around} (r:RoomM k A):A.units + 64 < cLine:=by have:=r.un; lia
theorem Room.marked {k:Nat} {A:Around} (r:Room k A) (e:Option Value):RoomM k (A.mark e):=⟨r.dp,r.un⟩
noncomputable def S5 (A:Around) (H:Hp):Prop:=∃ (a:Addr) (o:Obj) (u:HO) (vs:Array Value),A.handled = some (.ref a)∧H a = some (.frz o u)∧o.data = .fields vs∧vs[2]? = some .none
theorem Mkd.of {X:Cx} {pins:List (Addr × Obj)} {σ:St} {H:Hp} {s:Shared} (m:Mkd X) (I:Inv X pins σ H s):S5 X.A H:=by
 obtain ⟨a,o,u,vs,h,hp,r⟩:=m
 exact ⟨a,o,u,vs,h,I.base.frzs _ _ _ hp,r⟩
noncomputable def cxM (CX:CXT) (P:Program) (w:World) (K:Frag) (mg:Str→Option Value) (base:Heap) (N:List Str) (qual:Str) (scope:Scope) (f:Addr) (cd:Value) (A:Around) (outer:List Env) (s:Shared) (H:Hp) (E:XK):Cx:=
 { AI CX P w K mg base N qual scope f cd A outer s H E with calm:=false }
theorem MP {CX:CXT} {P:Program} {w:World} {K:Frag} {mg:Str→Option Value} {base:Heap} {N ps:List Str} {qual:Str} {scope:Scope} {f:Addr} {cd:Value} {A:Around} {outer:List Env} {s s1:Shared} {H:Hp} {E:XK} {us:List Value} {vs:List V}
  (S:FnScope N ps scope) (e0:Env0 P w K mg base A outer s H) (hl:vs.length = ps.length) (r:Vals vs us)
  (x:InCallC s s.heap.objs.size (bindL (envOfC qual scope s.heap.objs.size f cd).kindOf (ps.zip us) fun _=>none) (cellsFrom (s.heap.objs.size + 1) scope.names []) (bindC (envOfC qual scope s.heap.objs.size f cd).kindOf (ps.zip us) fun _=>none) s1) :
  Inv (cxM CX P w K mg base N qual scope f cd A outer s H E) [] (start N vs) H s1:=by
 have I:=GS (CX:=CX) (E:=E) (A:={ A with handled:=none }) (P:=P) (w:=w) (K:=K) (mg:=mg) (base:=base) (outer:=outer) (qual:=qual) (f:=f) (cd:=cd) S rfl ⟨e0.frames,e0.mod,e0.bs,e0.bsz,e0.funs,e0.frf,e0.hok,e0.bare,e0.tb⟩ hl r x
 exact ⟨⟨I.ok.mod,I.ok.kind,I.ok.glob,I.ok.blt,I.ok.above,I.ok.inj,I.ok.has,I.ok.cab,fun z=>absurd z Bool.false_ne_true,Around.frames_deeper e0.frames,I.ok.stk,I.ok.exf,I.ok.bs,I.ok.bsz,I.ok.noex,I.ok.exfs,I.ok.funs,I.ok.frf,I.ok.tb⟩,
  I.os,I.bare,I.base,I.loc,I.cell,I.free,I.freeC,I.pin,I.hok,I.len⟩
structure FnOkM (P:Program) (w:World) (K:Frag) (mg:Str→Option Value) (base:Heap) (CX:CXT) (k:Nat) (f:Addr) (fd:FuncData) (ps:List Str) (sp:Sp):Prop where
 len:∀ vs H Q E,sp vs H Q E→vs.length = ps.length
 run:∀ (A:Around) (outer:List Env) (s:Shared) (H:Hp) (args:Args) (us:List Value) (vs:List V) (Q:VK) (E:XK),RoomM k A→S5 A H→Env0 P w K mg base A outer s H→BindsTo s fd args (ps.zip us)→Vals vs us→sp vs H Q E →
  codeAny (model P w) A (.call (.ref f) args) (CR CX outer P w H s Q E) s
theorem TJ {CX:CXT} {P:Program} {w:World} {K:Frag} {mg:Str→Option Value} {base:Heap} {k:Nat} {f:Addr} {name qual:Str} {params:Arguments} {body:List Stmt} {scope:Scope} {dV kV doc pm cdv ct oc:Value} {an od:Option Addr}
  {osl:Array (Option Value)} {N ps:List Str} {sp:Sp} (lk:K.lookup f = some ⟨oc,od,.func (PySem.W.fnOf name qual params body scope dV kV doc pm an cdv ct),osl⟩) (hcd:PySem.W.codeIn K cdv qual = true) (S:FnScope N ps scope)
  (len:∀ vs H Q E,sp vs H Q E→vs.length = ps.length)
  (hbody:∀ (A:Around) (outer:List Env) (s:Shared) (H:Hp) (vs:List V) (Q:VK) (E:XK),RoomM k (A.deeper (envOfC qual scope s.heap.objs.size f cdv))→Mkd (cxM CX P w K mg base N qual scope f cdv A outer s H E)→sp vs H Q E →
   ∃ t,PSs (cxM CX P w K mg base N qual scope f cdv A outer s H E) body t∧t { nx:=fun _ H'=>Q .non H',rt:=Q } (start N vs) H) :
  FnOkM P w K mg base CX (k + 1) f (PySem.W.fnOf name qual params body scope dV kV doc pm an cdv ct) ps sp:=by
 refine ⟨len,fun A outer s H args us vs Q E hr hmk e0 hb r hsp=>?_⟩
 have hl:=len _ _ _ _ hsp
 have KX:K.In s.heap:=e0.mod.kin.keeps fun b o e=>(e0.bs b o e).1
 have lim:s.heap.NoLimit:=e0.mod.nolimit.keeps fun b o e=>(e0.bs b o e).1
 have hkind:∀ y∈ps.zip us,scope.names.lookup y.1 = some .local∨(scope.names.lookup y.1 = some .cell∧((cellsFrom (s.heap.objs.size + 1) scope.names []).lookup y.1).isSome = true):=fun ⟨n,v⟩ hy=>by
  rcases S.par n (List.of_mem_zip hy).1 with q | q
  ·exact .inl q
  ·exact .inr ⟨q,PySem.W.cellsFrom_some _ _ _ (.inl q)⟩
 refine codeAny_call_function hr.depth (KX _ _ lk) rfl S.co S.gen rfl (PySem.W.codeRec_of KX hcd) (hb _ _ _ _ ?_)
 refine wpAny_newFunctionEnv_cells S.kind hkind fun env he s1 x=>?_
 subst he
 refine ⟨lim.keeps x.toInCall.keep,codeAny_func ?_⟩
 obtain ⟨t,ht,hq⟩:=hbody A outer s H vs Q E (hr.deeper _) hmk hsp
 have I:Inv (cxM CX P w K mg base N qual scope f cdv A outer s H E) [] (start N vs) H s1:=MP S e0 hl r x
 refine wpAny_mono (ht [] s1 (start N vs) H _ I hq) (fun fl s' hs=>?_) fun e s' hs=>hs
 have fin:∀ {σ':St} {H':Hp} {v:V} {u:Value},Inv (cxM CX P w K mg base N qual scope f cdv A outer s H E) [] σ' H' s'→RelV v u→Q v H'→CE outer P w H s Q u s':=
  fun {σ' H' v u} J rv q=>⟨v,H',J.os,J.bare,J.base,J.hok,rv,q⟩
 cases fl with
 | ret u =>
  obtain ⟨v,σ',H',J,rv,q⟩:=hs
  exact fin J rv q
 | next =>
  obtain ⟨σ',H',J,q⟩:=hs
  exact fin (v:=V.non) (u:=Value.none) J rfl q
 | brk =>
  obtain ⟨_,_,_,q⟩:=hs
  exact False.elim q
 | cont =>
  obtain ⟨_,_,_,q⟩:=hs
  exact False.elim q
section
variable {X:Cx} {CX:CXT} {k:Nat} {f C:Addr} {fd:FuncData} {ps:List Str} {sp:Sp} {dvs:List V} {ds:List Value} {E:XK} {x m:Str} {p pos apos:Pos} {e o:Expr} {es:List Expr} {ta:TE} {t:TA}
theorem SG {pins:List (Addr × Obj)} {σ:St} {H:Hp} {s:Shared} {Q:VK} {us:List Value} {vs:List V} (F:FnOkM X.prog X.w X.K X.mg X.base CX k f fd ps sp) (hr:RoomM k X.A) (hmk:Mkd X) (hb:Binds X.K fd ps ds) (hd:Vals dvs ds) (hx:Passes CX X E)
  (I:Inv X pins σ H s) (r:Vals vs us) (h:sp (vs ++ dvs) H Q E):wpAny (model X.prog X.w) X.A (call (.ref f) us) (EP X pins σ Q) X.xe s:=by
 have r2:Vals (vs ++ dvs) (us ++ ds):=r.append hd
 have hl:(us ++ ds).length = ps.length:=by rw [← r2.length]; exact F.len _ _ _ _ h
 refine wpAny_call (codeAny_mono (F.run X.A X.stack s H ⟨us,[]⟩ (us ++ ds) (vs ++ dvs) Q E hr (hmk.of I) I.env0 (hb s us I.kIn hl) r2 h) fun r s' hq=>?_)
 cases r with
 | error e=>exact hx pins σ H s e s' I hq
 | ok fl =>
  cases fl with
  | ret u=>exact I.after hq
  | next=>exact False.elim hq
  | brk=>exact False.elim hq
  | cont=>exact False.elim hq
theorem QJ (F:FnOkM X.prog X.w X.K X.mg X.base CX k f fd ps sp) (hr:RoomM k X.A) (hmk:Mkd X) (hg:Gl X x) (hm:X.mg x = some (.ref f)) (hk:PySem.W.keepIn X.K (.ref f) = true) (hb:Binds X.K fd ps ds) (hd:Vals dvs ds) (hx:Passes CX X E)
  (ha:PA X (e :: es) t) (hdb:(x == ("__debug__" : Str)) = false:=by decide) (he:starEach (e :: es) X.env = (false,eval e X.env) :: starEach es X.env:=by rfl) (hpl:(backTo pos (starEach es X.env)).any (·.1) = false:=by rfl) :
  PE X (.Call (.Name x p) (e :: es) [] pos) (Mi sp dvs E t):=by
 intro pins s σ H Q I h
 refine wpAny_Call_Name_kw (HC I hg hm ?_ hdb)
 refine PySem.W.callWith_K (h₀:=X.base) I.ok.mod.kin hk (thn (ha pos pins s σ H _ I h) fun us s1 ⟨vs,H1,I1,r,q⟩=>⟨I1.kIn,?_⟩) he hpl
 exact SG F hr hmk hb hd hx I1 r q
end
structure DefM (P:Program) (w:World) (K:Frag) (mg:Str→Option Value) (base:Heap) (CX:CXT) (k:Nat) (x:Str) (ps:List Str) (sp:Sp):Prop where
 ex:∃ (f:Addr) (fd:FuncData),mg x = some (.ref f)∧PySem.W.keepIn K (.ref f) = true∧Binds K fd ps []∧FnOkM P w K mg base CX k f fd ps sp
end L2
namespace J
open PySem PySem.Spec PyProof.Rows L2
section
variable {P:Program} {w:World} {K:Frag} {mg:Str→Option Value} {base:Heap}
theorem TM {x:Str} {st:Stmt} {f:Addr} {fd:FuncData} {N ps:List Str} {k:Nat} {m:MS} (F:Fun K x x st f fd) (S:FnScope N ps (Ao st))
  (hb:∀ (cdv:Value) (A:Around) (outer:List Env) (s:Shared) (H:Hp) (E:XK),RoomM k (A.deeper (envOfC x (Ao st) s.heap.objs.size f cdv))→Mkd (cxM CX0 P w K mg base N x (Ao st) f cdv A outer s H E) →
   JSs (cxM CX0 P w K mg base N x (Ao st) f cdv A outer s H E).nox (BL st) m) :
  FnOkM P w K mg base CX0 (k + 1) f fd ps (spJ K (fnM ps.length N.length m) ps.length):=by
 obtain ⟨oc,od,kV,doc,pm,an,cdv,ct,osl,rfl,lk,hcd⟩:=F.ex
 refine TJ lk hcd S (fun vs H Q E h=>?_) fun A outer s H vs Q E hr hm h=>?_
 ·obtain ⟨_,_,_,h,_⟩:=h
  exact h
 ·have hl:vs.length = ps.length:=by
   obtain ⟨_,_,_,h,_⟩:=h
   exact h
  have:=JK h
  refine ⟨_,PSs.nox (hb cdv A outer s H E hr hm),?_⟩
  unfold L2.start
  rw [hl]
  exact this
end
section
variable {X:Cx} {e:Expr} {es:List Expr} {ms:MA} {p pos:Pos} {x:Str}
theorem Qc {P:Program} {w:World} {K:Frag} {mg:Str→Option Value} {base:Heap} {CX:CXT} {k j:Nat} {ps:List Str} {Φ:Fn} {np:Nat} {E:XK} (D:DefM P w K mg base CX k x ps (spJ K Φ np)) (hnp:∀ args y,Φ args = some y→args.length = np)
  (hP:X.prog = P) (hw:X.w = w) (hK:X.K = K) (hm:X.mg = mg) (hb:X.base = base) (hr:RoomM j X.A) (hkj:k≤j) (hmk:Mkd X) (hx:Passes CX X E) (hdb:(x == ("__debug__" : Str)) = false) (hg:Gl X x)
  (he:starEach (e :: es) X.env = (false,eval e X.env) :: starEach es X.env) (hpl:(backTo pos (starEach es X.env)).any (·.1) = false) (ha:JA X (e :: es) ms):JE X (.Call (.Name x p) (e :: es) [] pos) (Al Φ ms):=by
 subst hP hw hK hm hb
 obtain ⟨f,fd,a,b,c,d⟩:=D.ex
 exact AO (QJ d (hr.mono hkj) hmk hg a b c .nil hx ha hdb he hpl) fun _ _ _ h=>Oq hnp h
end
end J
end
section
namespace L2
open PySem PySem.Spec PyProof.Rows PySem.W
section
variable {P:Program} {w:World} {K:Frag} {mg:Str→Option Value} {base:Heap}
end
theorem BH.obj {P:Program} {w:World} {H:Hp} {h:Heap} {a:Addr} {o:HO} (x:BH P w H h a o):∃ u,h.get? a = some u:=by
 cases o with
 | lst xs=>obtain ⟨_,_,_,_,e⟩:=x; exact ⟨_,e⟩
 | tup xs=>obtain ⟨_,_,_,o,e,_⟩:=x; exact ⟨_,e⟩
 | dK kvs=>obtain ⟨_,_,_,_,o,_,_,e,_⟩:=x; exact ⟨_,e⟩
 | dT kvs=>obtain ⟨_,_,_,_,o,_,_,e,_⟩:=x; exact ⟨_,e⟩
 | set S n=>obtain ⟨o,_,_,_,e,_⟩:=x; exact ⟨_,e⟩
 | ins C dx fs=>obtain ⟨_,_,_,e,_⟩:=x; exact ⟨_,e⟩
 | own y=>obtain ⟨_,e⟩:=x; exact ⟨_,e⟩
 | xd fs=>obtain ⟨_,⟨_,_,_,e,_⟩,_⟩:=x; exact ⟨_,e⟩
 | rng lo hi=>obtain ⟨_,_,_,e⟩:=x; exact ⟨_,e⟩
 | frz ob u=>obtain ⟨e,_⟩:=x; exact ⟨_,e⟩
 | tbl ps=>obtain ⟨_,e,_⟩:=x; exact ⟨_,e⟩
 | met f y=>exact ⟨_,(show h.get? a = some _ from x)⟩
 | ext φ=>obtain ⟨_,⟨_,e⟩,_⟩:=x; exact ⟨_,e⟩
theorem HOk.none {P:Program} {w:World} {H:Hp} {h:Heap} {a:Addr} (x:HOk P w H h) (e:h.get? a = Option.none):H a = Option.none:=by
 cases q:H a with
 | none=>rfl
 | some u =>
  obtain ⟨o,z⟩:=(x a u q).obj
  rw [e] at z; cases z
theorem FlyAt.untracked {P:Program} {w:World} {outer:List Env} {H H':Hp} {s s':Shared} {a C:Addr} {a0:Value} {B:Heap} (F:FlyAt P w outer H s a C a0 B H' s'):H' a = Option.none:=F.hok.none F.fly.2.1
noncomputable abbrev Cx.mk2 (X:Cx) (a:Addr) (o:Obj):Cx:={ X with A:=X.A.mark (some (.ref a)),calm:=false,H₀:=upd X.H₀ a (.frz o (.own a)),xe:=fun _ _=>False }
section
variable {X:Cx} {pins:List (Addr × Obj)} {σ:St} {H:Hp} {s:Shared} {a:Addr} {o:Obj}
theorem Inv.mk2 (I:Inv X pins σ H s) (ha:H a = some (.frz o (.own a))) (hs:X.s₀.heap.get? a = none) (hn:X.H₀ a = none):Inv (X.mk2 a o) pins σ H s:=by
 have k:=I.ok
 have ne:∀ b u,X.s₀.heap.get? b = some u→b≠a:=fun b u e z=>by rw [z,hs] at e; cases e
 have nh:∀ b u,X.H₀ b = some u→b≠a:=fun b u e z=>by rw [z,hn] at e; cases e
 refine ⟨⟨k.mod,k.kind,k.glob,k.blt,k.above,k.inj,k.has,k.cab,fun z=>absurd z Bool.false_ne_true,k.frames,k.stk,k.exf,fun b ob e=>⟨(k.bs b ob e).1,?_⟩,k.bsz,k.noex,k.exfs,k.funs,fun b hb=>?_,fun c p e=>?_⟩,
  I.os,I.bare,⟨fun b ob e n=>I.base.keep b ob e ?_,fun b ob e n=>I.base.slot b ob e ?_,fun b ob e n=>I.base.free b ob e ?_,I.base.there,fun b xs e=>?_,fun b ob u e=>?_,fun b qs e=>?_⟩,I.loc,I.cell,I.free,I.freeC,I.pin,I.hok,I.len⟩
 ·show upd X.H₀ a _ b = none
  rw [Ax (ne b ob (k.bs b ob e).1)]; exact (k.bs b ob e).2
 ·obtain ⟨_,ob,e,_⟩:=k.funs.mem hb
  show upd X.H₀ a _ b = none
  rw [Ax (ne b ob e)]; exact k.frf b hb
 ·obtain ⟨ps,e1,e2⟩:=k.tb c p e
  exact ⟨ps,by show upd X.H₀ a _ p = _; rw [Ax (nh p _ e1)]; exact e1,e2⟩
 ·have n:upd X.H₀ a _ b = none:=n
  rw [Ax (ne b ob e)] at n; exact n
 ·have n:upd X.H₀ a _ b = none:=n
  rw [Ax (ne b ob e)] at n; exact n
 ·have n:upd X.H₀ a _ b = none:=n
  rw [Ax (ne b ob e)] at n; exact n
 ·have e:upd X.H₀ a _ b = _:=e
  by_cases z:b = a
  ·rw [z,AQ] at e; cases e
  ·rw [Ax z] at e; exact I.base.tups b xs e
 ·have e:upd X.H₀ a _ b = _:=e
  by_cases z:b = a
  ·rw [z,AQ] at e; cases e; rw [z]; exact ha
  ·rw [Ax z] at e; exact I.base.frzs b ob u e
 ·have e:upd X.H₀ a _ b = _:=e
  by_cases z:b = a
  ·rw [z,AQ] at e; cases e
  ·rw [Ax z] at e; exact I.base.tbls b qs e
theorem Inv.un2 (I:Inv (X.mk2 a o) pins σ H s) (k:X.Ok) (hs:X.s₀.heap.get? a = none) (hn:X.H₀ a = none):Inv X pins σ H s:=by
 have ne:∀ b u,X.s₀.heap.get? b = some u→b≠a:=fun b u e z=>by rw [z,hs] at e; cases e
 have nh:∀ b u,X.H₀ b = some u→b≠a:=fun b u e z=>by rw [z,hn] at e; cases e
 have u:=I.base
 refine ⟨k,I.os,I.bare,⟨fun b ob e n=>u.keep b ob e ?_,fun b ob e n=>u.slot b ob e ?_,fun b ob e n=>u.free b ob e ?_,u.there,fun b xs e=>u.tups b xs ?_,fun b ob v e=>u.frzs b ob v ?_,fun b qs e=>u.tbls b qs ?_⟩,I.loc,I.cell,I.free,I.freeC,I.pin,I.hok,I.len⟩
 ·show upd X.H₀ a _ b = none; rw [Ax (ne b ob e)]; exact n
 ·show upd X.H₀ a _ b = none; rw [Ax (ne b ob e)]; exact n
 ·show upd X.H₀ a _ b = none; rw [Ax (ne b ob e)]; exact n
 ·show upd X.H₀ a _ b = _; rw [Ax (nh b _ e)]; exact e
 ·show upd X.H₀ a _ b = _; rw [Ax (nh b _ e)]; exact e
 ·show upd X.H₀ a _ b = _; rw [Ax (nh b _ e)]; exact e
theorem WK {vs:Array Value} (hd:o.data = .fields vs) (h2:vs[2]? = some .none):Mkd (X.mk2 a o):=⟨a,o,_,vs,rfl,AQ,hd,h2⟩
end
theorem TK {CX:CXT} {P:Program} {w:World} {K:Frag} {mg:Str→Option Value} {base:Heap} {k:Nat} {f:Addr} {name qual:Str} {params:Arguments} {body:List Stmt} {scope:Scope} {dV kV doc pm cdv ct oc:Value} {an od:Option Addr}
  {osl:Array (Option Value)} {N ps:List Str} (lk:K.lookup f = some ⟨oc,od,.func (PySem.W.fnOf name qual params body scope dV kV doc pm an cdv ct),osl⟩) (hcd:PySem.W.codeIn K cdv qual = true) (S:FnScope N ps scope)
  {A:Around} {outer:List Env} {s:Shared} {H:Hp} {args:Args} {us:List Value} {vs:List V} {Q:VK} {E:XK} (hr:Room (k + 1) A) (e0:Env0 P w K mg base A outer s H) (hb:BindsTo s (PySem.W.fnOf name qual params body scope dV kV doc pm an cdv ct) args (ps.zip us)) (r:Vals vs us) (hl:vs.length = ps.length)
  (hbody:∀ s1,Room k (A.deeper (envOfC qual scope s.heap.objs.size f cdv))→Inv (AI CX P w K mg base N qual scope f cdv A outer s H E) [] (start N vs) H s1→(∀ b o,s.heap.get? b = some o→s1.heap.get? b = some o) →
   wpAny (model P w) (A.deeper (envOfC qual scope s.heap.objs.size f cdv)) (execs body (envOfC qual scope s.heap.objs.size f cdv)) (SP (AI CX P w K mg base N qual scope f cdv A outer s H E) [] { nx:=fun _ H'=>Q .non H',rt:=Q }) (AI CX P w K mg base N qual scope f cdv A outer s H E).xe s1) :
  codeAny (model P w) A (.call (.ref f) args) (CR CX outer P w H s Q E) s:=by
 have KX:K.In s.heap:=e0.mod.kin.keeps fun b o e=>(e0.bs b o e).1
 have lim:s.heap.NoLimit:=e0.mod.nolimit.keeps fun b o e=>(e0.bs b o e).1
 have hkind:∀ y∈ps.zip us,scope.names.lookup y.1 = some .local∨(scope.names.lookup y.1 = some .cell∧((cellsFrom (s.heap.objs.size + 1) scope.names []).lookup y.1).isSome = true):=fun ⟨n,v⟩ hy=>by
  rcases S.par n (List.of_mem_zip hy).1 with q | q
  ·exact .inl q
  ·exact .inr ⟨q,PySem.W.cellsFrom_some _ _ _ (.inl q)⟩
 refine codeAny_call_function hr.depth (KX _ _ lk) rfl S.co S.gen rfl (PySem.W.codeRec_of KX hcd) (hb _ _ _ _ ?_)
 refine wpAny_newFunctionEnv_cells S.kind hkind fun env he s1 x=>?_
 subst he
 refine ⟨lim.keeps x.toInCall.keep,codeAny_func ?_⟩
 have I:Inv (AI CX P w K mg base N qual scope f cdv A outer s H E) [] (start N vs) H s1:=GS S hr.hd e0 hl r x
 refine wpAny_mono (hbody s1 (hr.deeper _) I x.toInCall.keep) (fun fl s' hs=>?_) fun e s' hs=>hs
 have fin:∀ {σ':St} {H':Hp} {v:V} {u:Value},Inv (AI CX P w K mg base N qual scope f cdv A outer s H E) [] σ' H' s'→RelV v u→Q v H'→CE outer P w H s Q u s':=
  fun {σ' H' v u} J rv q=>⟨v,H',J.os,J.bare,J.base,J.hok,rv,q⟩
 cases fl with
 | ret u =>
  obtain ⟨v,σ',H',J,rv,q⟩:=hs
  exact fin J rv q
 | next =>
  obtain ⟨σ',H',J,q⟩:=hs
  exact fin (v:=V.non) (u:=Value.none) J rfl q
 | brk =>
  obtain ⟨_,_,_,q⟩:=hs
  exact False.elim q
 | cont =>
  obtain ⟨_,_,_,q⟩:=hs
  exact False.elim q
theorem Pt {K:Frag} {h:Heap} {C B:Addr} {n n':String} (X:K.In h) (qC:excIn K C Rn n = true) (qB:excIn K B Rn n' = true) (hm:mroIn K C (.ref B) = some true) (hne:C≠B):Above h C B:=by
 obtain ⟨bm',N',nm',qn',bs',hdct',sn',sub',ab',col',dd',j0,j1,j2,j3,j5,mN',hB,_,_,T'⟩:=NY X qB
 have hbase:=T'.hasType PySem.F.excBase_ValueError.hasBase
 unfold excIn at qC
 split at qC
 ·rename_i dd cd sl ho
  split at qC
  ·rename_i C' bm k0 k1 k2 k3 n k5 hmro hs
   simp only [Bool.and_eq_true,beq_iff_eq,Bool.not_eq_true'] at qC
   obtain ⟨⟨⟨⟨⟨rfl,rfl⟩,hdel⟩,ht⟩,hok⟩,hni⟩:=qC
   have hc:clsIn K C' = some cd:=by unfold clsIn; rw [ho]
   unfold mroIn at hm
   rw [hc,Option.bind_some,hmro] at hm
   have hm2:(Value.ref C' :: bm).contains (.ref B) = true:=by simpa using hm
   rw [List.contains_cons] at hm2
   have hne2:((Value.ref B:Value) == .ref C') = false:=by
    rw [Bool.eq_false_iff]
    intro z
    exact hne (Value.ref.inj (beq_iff_eq.mp z)).symm
   rw [hne2,Bool.false_or] at hm2
   obtain ⟨nm,bs,mro,ns,qn,hd,sn,sub,ab,col,del⟩:=cd
   dsimp only at hmro hdel hok hni
   subst hmro hdel
   have hsl:sl = #[k0,k1,k2,k3,some (.builtin n),k5]:=by
    obtain ⟨l⟩:=sl
    simp only at hs
    rw [hs]
   subst hsl
   exact ⟨_,_,_,_,_,_,_,_,_,_,_,_,_,_,_,_,_,_,_,_,_,_,_,_,_,_,_,_,_,_,_,_,_,_,X _ _ ho,hB,hbase,hm2⟩
  ·cases qC
 ·cases qC
end L2
end
section
namespace J
open PySem PySem.Spec PyProof.Rows L2
section
variable {P:Program} {w:World} {K:Frag} {mg:Str→Option Value} {base:Heap}
end
end J
end
section
namespace J
open PySem PySem.Spec PyProof.Rows L2 PySem.W
section
variable {P:Program} {w:World} {K:Frag} {mg:Str→Option Value} {base:Heap}
end
section
variable {X:Cx} {scope:Scope} {pins:List (Addr × Obj)} {σ:L2.St} {H H2:Hp} {s:Shared} {ρ:Ro} {O:Addr→Prop} {fp:Nat→List Addr}
end
end J
end
section
namespace L2
open PySem PySem.Spec PyProof.Rows
section
variable {X:Cx}
theorem Pc {i:Nat} {y:Str} {py spos:Pos} {own:List Str} {scope:Scope} {target iter elt:Expr} {ifs:List Expr} {pos:Pos} {wi:TI} {un:TU} {tc:TT} {te:TE} (nd:X.N.Nodup) (hiN:X.N[i]? = some y) (hy:X.env.scope.names.lookup y = some .local)
  (hc:Mkd X) (hok:BX own X.N scope X.env.scope = true) (hi:PIM X target iter wi)
  (hg:∀ C s H fp pins,PGo (cxC X own scope C s H fp pins) target own.length un) (ht:∀ C s H fp pins,PTs (cxC X own scope C s H fp pins) ifs tc) (he:∀ C s H fp pins,PE (cxC X own scope C s H fp pins) elt te)
  (hs:∀ x,foldedSetIterable iter X.env x = pure x:=by intro _; rfl)
  (hsw:swapsWith (.ListComp elt [⟨target,iter,ifs,0⟩] scope pos) (some (.Name y py)) spos.line X.env = pure true:=by rfl) :
  PS X (.Assign [.Name y py] (.ListComp elt [⟨target,iter,ifs,0⟩] scope pos) spos) (ND (tLc wi un tc te) (Gu i)):=by
 intro pins s σ H D I h
 rw [exec_Assign_Name_used _ _ _ _ hsw]
 refine wpAny_bind (wpAny_standAt (wpAny_bind ?_))
 show wpAny _ X.A (do let _ ← comprehension (.ListComp elt [⟨target,iter,ifs,0⟩] scope pos) scope X.env _ (newList []) false (eval iter X.env) (some (assign (.Name y py) X.env))) _ _ s
 refine wpAny_bind (wpAny_mono (wpAny_comprehension_free (use:=some (assign (.Name y py) X.env)) (Q:=fun _ s'=>SP X pins D .next s') rfl hs (Mz (BX.free hok I)) (BX.kind hok) (BX.names hok) ?_) (fun _ s' hq=>wpAny_pure (wpAny_pure hq)) fun _ _ e=>e)
 refine thn (hi pins s σ H _ I h) fun v s1 h1=>thn h1 fun itv s2 h2=>?_
 obtain ⟨it,fp,tn,J,H2,e,I2,T,st2,f2,q⟩:=h2
 subst e
 obtain ⟨W,w0,turn⟩:=q s2.heap.objs.size I2.fresh
 refine wpAny_newObj_type (hd:=by size_fits) ?_
 have I3:Inv X pins σ (upd H2 s2.heap.objs.size (.lst [])) { s2 with heap:=s2.heap.push { cls:=.type "list",data:=.seq ([]:List Value).toArray } }:=I2.lnew (its:=[]) (t':=s2.toks) .nil (Nat.zero_le _)
 have st3:tn 0 (s2.heap.push { cls:=.type "list",data:=.seq ([]:List Value).toArray }):=T.keep _ _ _ st2 fun b _ o e=>Heap.get?_push_of_some _ e
 have f3:∀ b∈fp,Eb X pins (upd H2 s2.heap.objs.size (.lst [])) b:=fun b hb=>by
  obtain ⟨o,e,_⟩:=T.obj _ _ st2 b hb
  exact ⟨by rw [Ax (Nat.ne_of_lt (Heap.lt_size e))]; exact (f2 b hb).1,(f2 b hb).2⟩
 generalize hS:({ s2 with heap:=s2.heap.push { cls:=.type "list",data:=.seq ([]:List Value).toArray } }:Shared) = s3 at I3 st3
 have st3':tn 0 s3.heap:=by rw [← hS]; exact st3
 refine thn (Nq (iter:=iter) (pos:=pos) (acc:=s2.heap.objs.size) (Q:=fun x H1=>Gu i x σ H1 D.nx) (R:=compPost (model X.prog X.w) X.A X.xe (some (assign (.Name y py) X.env)) (fun _ s'=>SP X pins D .next s') (.ref s2.heap.objs.size) s3.heap.objs.size) hc hok hg ht he I3 T st3' f3 W w0 turn fun s' σ' H' J' q'=>?_) fun cenv s4 ⟨el,h4⟩=>?_
 ·have I4:Inv X pins σ H' s':=E9 I3 f3 J' (h':=s'.heap) (.refl ..)
  obtain ⟨m,⟨oC,es,ep,hoC,hdC,hrC⟩,_⟩:=J'.loc
  have hCL:s3.heap.objs.size≠X.env.locals:=Nat.ne_of_gt I3.lt
  have hfs:s3.heap.objs.size ∉ X.fs:=I3.nofs (Nat.le_refl _)
  have hCc:∀ x c,X.env.cells.lookup x = some c→c≠s3.heap.objs.size:=fun x c e=>by
   obtain ⟨v,z⟩:=I3.cell x c e
   exact Nat.ne_of_lt z.lt
  have hCp:∀ p∈X.pn ++ pins,p.1≠s3.heap.objs.size:=fun p hp=>Nat.ne_of_lt (Heap.lt_size (I3.pin p hp).1)
  have I5:Inv X (pins ++ [(s3.heap.objs.size,oC)]) σ H' s':=I4.pins_of fun p hp=>(List.mem_append.mp hp).elim (fun z=>I4.pin p (List.mem_append_right _ z)) fun z=>by
   have z':p = (s3.heap.objs.size,oC):=by simpa using z
   subst z'
   exact ⟨hoC,J'.free,hCL,hfs,fun v=>by rw [hdC]; intro z; cases z⟩
  show wpAny _ X.A (assign (.Name y py) X.env (.ref s2.heap.objs.size)) _ _ s'
  refine wpAny_assign_Name (EA I5 nd hiN (.inl hy) (v:=.ref s2.heap.objs.size) rfl (fun s6 I6=>?_) (.inr hy))
  have hp:=I6.pin (s3.heap.objs.size,oC) (List.mem_append_right _ (List.mem_append_right _ (by simp)))
  refine ⟨m,⟨oC,es,ep,hp.1,hdC,hrC⟩,fun h' hs'=>?_⟩
  exact ⟨_,H',I6.unpinned.turned (h':=h') (t':=s6.toks) (it:=s3.heap.objs.size) (fun b o hb e=>(hs'.2 b hb).trans e) hp.2.1 hCL (.inr I3.sz) hCc hCp,q'⟩
 ·rw [← el] at h4
  exact h4
theorem R9 {k:Nat} (hr:RoomM k X.A):OpR X (compareOp .NotEq) Vb:=by
 intro pins s σ H x y v u Q I rx ry h
 obtain ⟨d,e,r1,r2,hs,q⟩:=h
 exact EqBoolInt.of_rcne (L0 I.hok r1 r2 rx ry hs (by have:=hr.units; lia)) ⟨.bl _,H,I,rfl,q⟩
end
end L2
namespace J
open PySem PySem.Spec PyProof.Rows L2
section
variable {X:Cx} {a b c e:Expr} {m:ME} {mt:MT} {mi:MI} {p pos apos cpos q:Pos} {x:Str} {K:Frag}
theorem OM (i:Nat) {y:Str} {py spos:Pos} {scope:Scope} {iter elt:Expr} {ifs:List Expr} {px:Pos} (nd:X.N.Nodup) (hiN:X.N[i]? = some y) (hy:X.env.scope.names.lookup y = some .local) (hok:BX [x] X.N scope X.env.scope = true) (hc:Mkd X) (hx:scope.names.lookup x = some .local)
  (hs:∀ z,foldedSetIterable iter X.env z = pure z) (hsw:swapsWith (.ListComp elt [⟨.Name x px,iter,ifs,0⟩] scope pos) (some (.Name y py)) spos.line X.env = pure true) (hi:JIM X (.Name x px) iter mi) (ht:JTc X [x] scope ifs mt) (he:JEc X [x] scope elt m) :
  JS X (.Assign [.Name y py] (.ListComp elt [⟨.Name x px,iter,ifs,0⟩] scope pos) spos) (AL i (Bf mi 0 mt m)):=by
 have hnx:x ∉ X.N:=fun hy=>by
  simp only [BX,Bool.and_eq_true,List.all_eq_true] at hok
  have:=hok.2 x (by simp)
  simp [hy] at this
 exact Bz (Pc (un:=Rm) (te:=tE X.K m) nd hiN hy hc hok hi (fun C s H fp pins=>Iq rfl (List.nodup_cons.mpr ⟨hnx,nd⟩) (lookup_relabel_local hx)) ht (fun C s H fp pins=>he C s H fp pins) hs hsw) fun _ _ _ h=>KY (NH h)
noncomputable def K9:List Str:=["NoHouse","NoRow","NoMachine","NoRoom","NoHand","Unlike","NoPast","TooMany","Torn","NoTable","NoSet","Falls","Whole","NoText","NoWord"]
structure XW (K:Frag) (mg:Str→Option Value) (C:Addr) (wd:Str):Prop where
 cls:ExcCls K C
 cd:(PySem.W.clsIn K C).isSome = true
 own:∀ y∈K9,∃ a,mg y = some (.ref a)∧PySem.W.kitOne K (.ref C) (.ref a) = some (y == wd)
 ve:mg "ValueError" = none∧PySem.W.kitOne K (.ref C) (.type "ValueError") = some true
theorem Cu {y wd:Str} {C:Addr} (bb:Bool) (W:XW X.K X.mg C wd) (hy:y∈K9) (hb:(y == wd) = bb) (hdb:(y == ("__debug__" : Str)) = false) (hgy:Gl X y) (hg:Gl X "isinstance") (B:Blt X.mg X.K) (he:starEach [a,.Name y q] X.env = [(false,eval a X.env),(false,eval (.Name y q) X.env)]) (he2:starEach [.Name y q] X.env = [(false,eval (.Name y q) X.env)]) (ha:JE X a m) :
  JE X (.Call (.Name "isinstance" p) [a,.Name y q] [] pos) (opM (Bk C bb) (m1L m)):=by
 obtain ⟨cd,hcd⟩:=Option.isSome_iff_exists.mp W.cd
 obtain ⟨ay,h1,h2⟩:=W.own y hy
 rw [hb] at h2
 exact Qi (c:=.ref ay) W.cls hcd h2 (fun u r=>r) (Oc hgy h1 rfl hdb) hg B he he2 ha
theorem Ub {wd:Str} {C:Addr} (W:XW X.K X.mg C wd) (hgy:Gl X "ValueError") (hg:Gl X "isinstance") (B:Blt X.mg X.K) (he:starEach [a,.Name "ValueError" q] X.env = [(false,eval a X.env),(false,eval (.Name "ValueError" q) X.env)]) (he2:starEach [.Name "ValueError" q] X.env = [(false,eval (.Name "ValueError" q) X.env)]) (ha:JE X a m) :
  JE X (.Call (.Name "isinstance" p) [a,.Name "ValueError" q] [] pos) (opM (Bk C true) (m1L m)):=by
 obtain ⟨cd,hcd⟩:=Option.isSome_iff_exists.mp W.cd
 exact Qi (c:=.ty "ValueError") W.cls hcd W.ve.2 (fun u r=>r) (Fy hgy W.ve.1 dK rfl dK dK) hg B he he2 ha
noncomputable def HL (r s:MR):MR:=fun ρ=>(r ρ).or (s ρ)
theorem J8 {XC:Str→Addr} {E:XK} {ss:List Stmt} {r r2:MR} (h:JRs X XC E ss r) (h2:JRs X XC E ss r2):JRs X XC E ss (HL r r2):=by
 intro pins s σ H D I q
 obtain ⟨ρ,O,fp,rl,x,e,k⟩:=q
 simp only [HL] at e
 rcases Option.or_eq_some_iff.mp e with e | ⟨_,e⟩
 ·exact h pins s σ H D I ⟨ρ,O,fp,rl,x,e,k⟩
 ·exact h2 pins s σ H D I ⟨ρ,O,fp,rl,x,e,k⟩
end
end J
end
section
namespace J
open PySem PySem.Spec PyProof.Rows L2 PySem.W
section
variable {P:Program} {w:World} {K:Frag} {mg:Str→Option Value} {base:Heap}
theorem ON {X:Cx} {body:List Stmt} {h0:ExceptHandler} {hs:List ExceptHandler} {pos:Pos} {m:MS} (hb:JSs X.nox body m):JS X (.Try body (h0 :: hs) [] [] pos) m:=Pd hb
end
section
variable {K:Frag}
end
section
variable {X:Cx} {K:Frag} {a b:Expr} {m1 m2:ME} {p2 pos:Pos} {N:Addr→Prop} {H:Hp}
end
end J
end
section
namespace J
open PySem PySem.Spec PyProof.Rows L2
section
variable {X:Cx}
end
section
variable {K:Frag} {σ:L2.St} {H:Hp}
end
section
variable {X:Cx} {p pos apos cpos npos npos2:Pos} {x y:Str}
end
end J
end
section
namespace L2
open PySem PySem.Spec PyProof.Rows
section
variable {X:Cx}
end
end L2
namespace J
open PySem PySem.Spec PyProof.Rows L2
section
variable {X:Cx} {x:Str} {pos:Pos} {m:ME}
end
end J
end
section
namespace L2
open PySem PySem.Spec PyProof.Rows
section
variable {X:Cx}
end
end L2
namespace J
open PySem PySem.Spec PyProof.Rows L2
section
variable {X:Cx} {e:Expr} {es:List Expr} {m:ME} {ms:MA} {p pos:Pos} {K:Frag}
end
end J
end
section
namespace J
open PySem PySem.Spec PyProof.Rows L2
section
variable {P:Program} {w:World} {K:Frag} {mg:Str→Option Value} {base:Heap} {XC:Str→Addr}
variable {N:List Str} {qual:Str} {scope:Scope} {f:Addr} {cd:Value} {A:Around} {outer:List Env} {s:Shared} {H:Hp} {E:XK}
theorem EM {g:Str} {k j np:Nat} {ps:List Str} {Ψ:FnR} {ms:MA} {p cpos pos:Pos} {e:Expr} {es:List Expr} (D:Def P w K mg base (Fly P w) k g ps (spR K XC Ψ np)) (hnp:∀ args y,Ψ args = some y→args.length = np) (hr:Room j (A.deeper (envOfC qual scope s.heap.objs.size f cd))) (hkj:k≤j)
  (hdb:(g == ("__debug__" : Str)) = false) (hg:Gl (AI (Fly P w) P w K mg base N qual scope f cd A outer s H E) g)
  (he:starEach (e :: es) (AI (Fly P w) P w K mg base N qual scope f cd A outer s H E).env = (false,eval e (AI (Fly P w) P w K mg base N qual scope f cd A outer s H E).env) :: starEach es (AI (Fly P w) P w K mg base N qual scope f cd A outer s H E).env)
  (hpl:(backTo cpos (starEach es (AI (Fly P w) P w K mg base N qual scope f cd A outer s H E).env)).any (·.1) = false)
  (ha:JA (AI (Fly P w) P w K mg base N qual scope f cd A outer s H E) (e :: es) ms) :
  JR (AI (Fly P w) P w K mg base N qual scope f cd A outer s H E) XC E (.Return (some (.Call (.Name g p) (e :: es) [] cpos)) pos) (Bo Ψ ms):=
 Bz (QR (G5 (X:=AI (Fly P w) P w K mg base N qual scope f cd A outer s H E) (E:=E) D hr hkj (GF fun _ _ _ h=>h) ha hg hdb he hpl)) fun D _ _ h=>GK (D:=D) rfl hnp h
theorem N5 {g:Str} {k j np:Nat} {ps:List Str} {Ψ:FnR} {ms:MA} {p cpos pos npos:Pos} {e:Expr} {es:List Expr} {st st':List Stmt} (D:Def P w K mg base (Fly P w) k g ps (spR K XC Ψ np)) (hnp:∀ args y,Ψ args = some y→args.length = np) (hr:Room j (A.deeper (envOfC qual scope s.heap.objs.size f cd))) (hkj:k≤j)
  (hdb:(g == ("__debug__" : Str)) = false) (hg:Gl (AI (Fly P w) P w K mg base N qual scope f cd A outer s H E) g)
  (he:starEach (e :: es) (AI (Fly P w) P w K mg base N qual scope f cd A outer s H E).env = (false,eval e (AI (Fly P w) P w K mg base N qual scope f cd A outer s H E).env) :: starEach es (AI (Fly P w) P w K mg base N qual scope f cd A outer s H E).env)
  (hpl:(backTo cpos (starEach es (AI (Fly P w) P w K mg base N qual scope f cd A outer s H E).env)).any (·.1) = false)
  (ha:JA (AI (Fly P w) P w K mg base N qual scope f cd A outer s H E) (e :: es) ms) :
  JR (AI (Fly P w) P w K mg base N qual scope f cd A outer s H E) XC E (.If (.UnaryOp .Not (.Call (.Name g p) (e :: es) [] cpos) npos) st st' pos) (Bo Ψ ms):=
 Bz (Og (QW (QX (G5 (X:=AI (Fly P w) P w K mg base N qual scope f cd A outer s H E) (E:=E) D hr hkj (GF fun _ _ _ h=>h) ha hg hdb he hpl) (fun _=>rfl))) (show PSs _ st (fun _ _ _=>False) from fun _ _ _ _ _ _ h=>h.elim) (show PSs _ st' (fun _ _ _=>False) from fun _ _ _ _ _ _ h=>h.elim)) fun D _ _ h=>GK (D:=D) rfl hnp h
end
end J
namespace L2
open PySem PySem.Spec PyProof.Rows
section
variable {X:Cx}
end
end L2
namespace J
open PySem PySem.Spec PyProof.Rows L2
section
variable {K:Frag} {H:Hp} {N:Addr→Prop}
end
section
variable {X:Cx} {a b:Expr} {m m1 m2:ME} {p2 pos:Pos}
end
end J
end
section
namespace J
open PySem PySem.Spec PyProof.Rows L2
section
variable {N:Addr→Prop} {H:Hp} {us:List (D × V)} {kvs:List (D × D)} {k d:D} {y:V}
end
section
variable {X:Cx} {a b c e:Expr} {m m1 m2 m3:ME} {p pos pos' p2 apos cpos npos:Pos} {x:Str}
variable {K:Frag} {N:Addr→Prop} {H:Hp} {v:V}
end
section
variable {K:Frag} {ρ ρ' ρ1 ρ2:Ro} {σ σ' σ1 σ2:L2.St} {H H' H1 H2:Hp} {O O' N:Addr→Prop} {fp fp' fp1 fp2:Nat→List Addr} {L L1:List Addr}
end
section
variable {X:Cx} {a b c e:Expr} {es:List Expr} {m m1 m2 m3:ME} {ms:MA} {p pos pos' p2 apos cpos q npos:Pos} {x:Str}
end
end J
end
section
namespace L2
open PySem PySem.Spec PyProof.Rows
section
variable {X:Cx}
end
end L2
namespace J
open PySem PySem.Spec PyProof.Rows L2
section
variable {X:Cx} {a b c e:Expr} {es:List Expr} {m m1 m2 m3:ME} {ms:MA} {p pos pos' p2 apos cpos q npos:Pos} {x:Str}
variable {K:Frag} {N:Addr→Prop} {H:Hp} {σ:L2.St} {v:V} {L:List Addr}
end
end J
end
section
namespace L2
open PySem PySem.Spec PyProof.Rows
section
variable {X:Cx} {H:Hp}
open Classical in
noncomputable def eqW (H:Hp) (e:D) (y:Value):Bool:=if ∃ d v,RelV v y∧Rep H v d∧eqD d e = true then true else false
end
end L2
namespace J
open PySem PySem.Spec PyProof.Rows L2
section
variable {X:Cx} {a b c e:Expr} {m m1 m2 m3:ME} {p pos pos' p2:Pos}
variable {K:Frag} {N:Addr→Prop} {H:Hp} {v:V}
end
end J
end
section
namespace L2
open PySem PySem.Spec PyProof.Rows
theorem Inv.nopin {X:Cx} {pins:List (Addr × Obj)} {σ:St} {H:Hp} {s:Shared} (I:Inv X pins σ H s):Inv X [] σ H s:=
 ⟨I.ok,I.os,I.bare,I.base,I.loc,I.cell,I.free,I.freeC,fun p hp=>I.pin p (by rw [List.append_nil] at hp; exact List.mem_append_left _ hp),I.hok,I.len⟩
end L2
namespace J
open PySem PySem.Spec PyProof.Rows L2 PySem.W
section
variable {X:Cx} {XC:Str→Addr} {E:XK} {K:Frag} {σ:L2.St} {H:Hp} {D:Ends}
noncomputable def FU (c:MT) (r s:MR):MR:=fun ρ=>(c ρ).bind fun p=>if p.1 then r p.2 else s p.2
theorem Ql {g:Str} {k j np:Nat} {ps:List Str} {Ψ:FnR} {ms:MA} {p cpos pos:Pos} {e:Expr} {es:List Expr} (D:Def X.prog X.w X.K X.mg X.base (Fly X.prog X.w) k g ps (spR X.K XC Ψ np)) (hnp:∀ args y,Ψ args = some y→args.length = np) (hr:Room j X.A) (hkj:k≤j) (hx:Passes (Fly X.prog X.w) X E)
  (hs:swapsWith (.Call (.Name g p) (e :: es) [] cpos) none pos.line X.env = pure false) (hdb:(g == ("__debug__" : Str)) = false) (hg:Gl X g) (he:starEach (e :: es) X.env = (false,eval e X.env) :: starEach es X.env) (hpl:(backTo cpos (starEach es X.env)).any (·.1) = false) (ha:JA X (e :: es) ms) :
  JR X XC E (.Expr (.Call (.Name g p) (e :: es) [] cpos) pos) (Bo Ψ ms):=Bz (GH (G5 (E:=E) D hr hkj hx ha hg hdb he hpl) hs) fun _ _ _ h=>GK rfl hnp h
end
noncomputable def Fq (np nn:Nat) (b:MS) (rr:MR):Fn:=fun as=>if By as = true∧as.length = np then (match rr (as.map some ++ List.replicate (nn - np) none) with
 | some x=>some (.fz (.str x),as.map (·.2))
 | none=>fnM np nn b as) else none
theorem Jv:∀ {as:List (Own × A)},By as = true→∀ {i:Nat} {st:Own} {a:A},as[i]? = some (st,a)→st = .own∧∃ d,a = .fz d:=by
 intro as
 induction as with
 | nil=>intro _ i st a e; simp at e
 | cons p as ih =>
  intro h i st a e
  obtain ⟨st0,a0⟩:=p
  cases st0 with
  | own =>
   cases a0 with
   | fz d =>
    cases i with
    | zero=>simp at e; obtain ⟨rfl,rfl⟩:=e; exact ⟨rfl,d,rfl⟩
    | succ i=>exact ih (by simpa [By] using h) (by simpa using e)
   | _=>simp [By] at h
  | _=>cases a0 <;> simp [By] at h
theorem Im:∀ {as:List (Own × A)},By as = true→EO as (as.map (·.2)) = List.replicate as.length none:=by
 intro as
 induction as with
 | nil=>intro _; rfl
 | cons p as ih =>
  intro h
  obtain ⟨st0,a0⟩:=p
  cases st0 with
  | own =>
   cases a0 with
   | fz d =>
    have:=ih (by simpa [By] using h)
    simp [EO,this,List.replicate_succ]
   | _=>simp [By] at h
  | _=>cases a0 <;> simp [By] at h
section
variable {P:Program} {w:World} {K:Frag} {mg:Str→Option Value} {base:Heap}
theorem QE {k kw i:Nat} {f HE:Addr} {fd:FuncData} {st:Stmt} {x n:Str} {N ps:List Str} {tb rest:List Stmt} {b r:MS} {rr:MR} {Φw:Str→Fn} {XC:Str→Addr} {p7 p8 p9 p10 p11 p12 p13:Pos} (words:List Str)
  (F:Fun K x x st f fd) (S:FnScope N ps (Ao st))
  (hbody:BL st = .Try tb [.ExceptHandler (some (.Name "HandError" p7)) (some n) [.Return (some (.Call (.Name "_law_word" p8) [.Name n p9] [] p10)) p11] p12] [] [] p13 :: rest)
  (hi:N[i]? = some n) (hsn:(Ao st).names.lookup n = some .local) (hsH:(Ao st).names.lookup ("HandError" : Str) = some .globalImplicit) (hsw:(Ao st).names.lookup ("_law_word" : Str) = some .globalImplicit)
  (hdn:(n == ("__debug__" : Str)) = false) (hcn:(n == ("__classdict__" : Str)) = false) (hHE:mg "HandError" = some (.ref HE))
  (hb:∀ (cdv:Value) (A:Around) (outer:List Env) (s:Shared) (H:Hp) (E:XK),Room k (A.deeper (envOfC x (Ao st) s.heap.objs.size f cdv))→JSs (AI CX0 P w K mg base N x (Ao st) f cdv A outer s H E).nox tb b)
  (hrest:∀ (cdv:Value) (A:Around) (outer:List Env) (s:Shared) (H:Hp) (E:XK),Room k (A.deeper (envOfC x (Ao st) s.heap.objs.size f cdv))→JSs (AI CX0 P w K mg base N x (Ao st) f cdv A outer s H E).nox rest r)
  (hR:∀ (cdv:Value) (A:Around) (outer:List Env) (s:Shared) (H:Hp) (E E':XK) (xe:Value→Shared→Prop),Room k (A.deeper (envOfC x (Ao st) s.heap.objs.size f cdv))→Passes (Fly P w) ((AI CX0 P w K mg base N x (Ao st) f cdv A outer s H E).wish xe) E'→JRs ((AI CX0 P w K mg base N x (Ao st) f cdv A outer s H E).wish xe) XC E' tb rr)
  (W:∀ z∈words,DefM P w K mg base CX0 kw "_law_word" ["_law_e"] (spJ K (Φw z) 1)) (hw1:∀ z,∀ args y,Φw z args = some y→args.length = 1)
  (hΨ:∀ ρ z,rr ρ = some z→z∈words) (hz:∀ z∈words,Above base (XC z) HE∧z.length≤sizeLine∧∀ a o,o.cls = .ref (XC z) → Φw z [(.lent,.opq a o)] = some (.fz (.str z),[.opq a o])) (hkw:kw≤k) :
  FnOk P w K mg base CX0 (k + 1) f fd ps (spJ K (Fq ps.length N.length (AF b r) rr) ps.length):=by
 have F1:FnOk P w K mg base CX0 (k + 1) f fd ps (spJ K (fnM ps.length N.length (AF b r)) ps.length):=by
  refine Bs F S fun cdv A outer s H E hr=>?_
  rw [hbody]
  exact Ak (ON (hb cdv A outer s H E hr)) (hrest cdv A outer s H E hr)
 refine ⟨fun vs H Q E h=>?_,fun A outer s H args us vs Q E hr e0 hbi rv h=>?_⟩
 ·obtain ⟨_,_,_,h,_⟩:=h
  exact h
 obtain ⟨as,O,fp,hl,rl,a,as',ha,kont⟩:=h
 unfold Fq at ha
 split at ha
 ·rename_i hp
  obtain ⟨hp,_⟩:=hp
  have la:as.length = ps.length:=by
   have:=rl.len
   simp only [List.length_map] at this
   rw [this]; exact hl
  split at ha
  ·rename_i z hzz
   cases ha
   have hzm:=hΨ _ _ hzz
   obtain ⟨hab,hzl,hword⟩:=hz z hzm
   have fpn:∀ i,fp i = []:=fun i=>by
    cases e:as[i]? with
    | none=>exact rl.out i fun st a e2=>by rw [List.getElem?_map,e] at e2; cases e2
    | some p =>
     obtain ⟨st0,a0⟩:=p
     obtain ⟨_,d,rfl⟩:=Jv hp e
     obtain ⟨v,_,q⟩:=rl.slot i st0 (.fz d) (by rw [List.getElem?_map,e]; rfl)
     rw [Aw] at q
     exact q.1
   have fin:∀ H',Ek H H'→∀ v,Aw K (fun _=>False) H' v (.fz (.str z)) []→Q v H':=fun H' sm v q=>by
    refine kont v H' ⟨[],fun _=>[],⟨⟨by rw [Im hp,List.length_replicate,List.length_map,la,hl],fun i st a e=>?_,fun _ _=>rfl,fun _=>List.nodup_nil,fun i j p h=>by simp at h,fun i p h=>by simp at h,fun p h=>?_⟩,List.nodup_nil,fun p h=>by simp at h,fun p h=>?_,fun b o e _=>sm b o e,rfl,fun j st a e n=>?_⟩,?_⟩
    ·rw [Im hp,List.getElem?_replicate] at e
     split at e <;> cases e
    ·have hO:O p:=by
      rcases h with ⟨i,h⟩ | h | h
      ·simp at h
      ·exact h
      ·simp at h
     have:=rl.al p (.inr hO)
     cases q:H p with
     | none=>exact absurd q this
     | some o=>rw [sm p o q]; simp
    ·rcases h with h | ⟨i,h⟩ <;> simp at h
    ·rw [List.getElem?_map] at e
     cases e2:as[j]? with
     | none=>rw [e2] at e; cases e
     | some p =>
      obtain ⟨st0,a0⟩:=p
      rw [e2] at e
      cases e
      exact absurd (Jv hp e2).1 n
    ·rw [Aw] at q ⊢
     obtain ⟨_,q⟩:=q
     cases q with
     | str _ _=>exact ⟨rfl,.str z hzl⟩
   obtain ⟨oc,od,kV,doc,pm,an,cdv,ct,osl,rfl,lk,hcd⟩:=F.ex
   refine TK (E:=E) lk hcd S hr e0 (us:=us) hbi rv hl fun s1 hr1 I kp=>?_
   rw [hbody]
   generalize hX:AI CX0 P w K mg base N x (Ao st) f cdv A outer s H E = X at I ⊢
   have hXi:∀ {σ:L2.St} {H1:Hp} {pins:List (Addr × Obj)} {s':Shared},Inv X pins σ H1 s'→Inv (AI CX0 P w K mg base N x (Ao st) f cdv A outer s H E) pins σ H1 s':=fun h=>by rw [hX]; exact h
   have tri:wpAny (model P w) (A.deeper (envOfC x (Ao st) s.heap.objs.size f cdv)) (exec (.Try tb [.ExceptHandler (some (.Name "HandError" p7)) (some n) [.Return (some (.Call (.Name "_law_word" p8) [.Name n p9] [] p10)) p11] p12] [] [] p13) (envOfC x (Ao st) s.heap.objs.size f cdv)) (SP X [] { nx:=fun _ _=>False,rt:=Q }) X.xe s1:=by
    subst hX
    refine Ox (X:=AI CX0 P w K mg base N x (Ao st) f cdv A outer s H E) (σ:=start N vs) (H:=H) ?_
    have pas:Passes (Fly P w) ((AI CX0 P w K mg base N x (Ao st) f cdv A outer s H E).wish (My (AI CX0 P w K mg base N x (Ao st) f cdv A outer s H E) [] { nx:=fun _ _=>False,rt:=Q } [.ExceptHandler (some (.Name "HandError" p7)) (some n) [.Return (some (.Call (.Name "_law_word" p8) [.Name n p9] [] p10)) p11] p12])) (fun c _ H'=>c = .ref (XC z)∧Ek H H'):=by
     intro pins σ H1 s2 ex s' I2 fl
     refine Jd (X:=AI CX0 P w K mg base N x (Ao st) f cdv A outer s H E) (E:=fun c _ H'=>c = .ref (XC z)∧Ek H H') rfl rfl rfl rfl rfl (fun σ H1 H2 s3 s4 a C' a0 B I3 F3 I4 he=>?_) σ H1 s2 ex s' I2.unwish.nopin fl
     obtain ⟨hc,sm⟩:=he
     obtain rfl:C' = XC z:=Value.ref.inj hc
     have fresh3:s3.heap.get? a = none:=F3.fresh I3.env0
     have fresh0:s.heap.get? a = none:=by
      cases q:s.heap.get? a with
      | none=>rfl
      | some o =>
       obtain ⟨o',z⟩:=I3.base.there a o q (fun z=>absurd (show a∈([]:List Addr) from z) (by simp))
       rw [fresh3] at z; cases z
     refine ML (X:=(AI CX0 P w K mg base N x (Ao st) f cdv A outer s H E)) (i:=i) (HE:=HE) S.nd hi hsn hsn hsH hHE (by decide) hab I3 F3 F3.untracked ?_
     intro oe vs5 s5 hcls hd hv2 I5
     have I6:=I5.mk2 AQ fresh0 (e0.hok.none fresh0)
     have hlσ : σ.length = N.length:=I3.len
     have hiN:i < N.length:=(List.getElem?_eq_some_iff.mp hi).1
     have je:JE ((AI CX0 P w K mg base N x (Ao st) f cdv A outer s H E).mk2 a oe) (.Call (.Name "_law_word" p8) [.Name n p9] [] p10) (Al (Φw z) (Ab (Ae i) Ah)):=
      Qc (X:=(AI CX0 P w K mg base N x (Ao st) f cdv A outer s H E).mk2 a oe) (E:=E0) (W z hzm) (hw1 z) rfl rfl rfl rfl rfl (hr1.marked _) hkw (WK hd hv2) (fun _ _ _ _ _ _ _ z=>False.elim z) (by decide) hsw rfl rfl (Aa rfl (Qj i hi (.inl hsn) hdn hcn) Af)
     have hg:((List.replicate N.length (none:Slot)).set i (some (.own,.opq a oe)))[i]? = some (some (.own,.opq a oe)):=List.getElem?_set_self (by rw [List.length_replicate]; exact hiN)
     have em:Al (Φw z) (Ab (Ae i) Ah) ((List.replicate N.length none).set i (some (.own,.opq a oe))) = some (.val (.fz (.str z)),(List.replicate N.length none).set i (some (.own,.opq a oe))):=by
      simp only [Al,Ab,Ae,Ah,hg,Option.bind_some,Option.map_some,Cq,E1,refs,hword a oe hcls,back,Ny]
      simp
     have cl:=je [] s5 _ _ (fun v H'=>Ek H H'∧Rep H' v (.str z)) I6 ?_
     ·refine wpAny_mono cl (fun u s6 q=>?_) fun _ _ z=>z
      obtain ⟨v,H6,I7,r7,q7⟩:=q
      exact ⟨v,_,H6,I7.un2 I3.ok fresh0 (e0.hok.none fresh0),r7,fin H6 q7.1 v (by rw [Aw]; exact ⟨rfl,q7.2⟩)⟩
     ·refine ⟨(List.replicate N.length none).set i (some (.own,.opq a oe)),fun _=>False,fun _=>[],⟨by simp [hlσ],fun j st' a' e=>?_,fun _ _=>rfl,fun _=>List.nodup_nil,fun i j p z=>by simp at z,fun i p z=>by simp at z,fun p z=>?_⟩,_,_,em,fun v H' q=>?_⟩
      ·by_cases hj:j = i
       ·subst hj
        rw [hg] at e
        cases e
        refine ⟨.ref a,List.getElem?_set_self (by rw [hlσ]; exact hiN),?_⟩
        rw [Aw]
        exact ⟨rfl,rfl,_,AQ⟩
       ·rw [List.getElem?_set_ne (Ne.symm hj),List.getElem?_replicate] at e
        split at e <;> cases e
      ·rcases z with ⟨i,z⟩ | z
       ·simp at z
       ·exact z.elim
      ·obtain ⟨L,fp',p,rr'⟩:=q
       simp only [RR] at rr'
       rw [Aw] at rr'
       refine ⟨fun b o e=>p.kept b o ?_ (.inl fun ⟨i,z⟩=>by simp at z),EW (fun _ z=>z.elim) rr'.2⟩
       have ne:b≠a:=fun z=>by
        rw [z,e0.hok.none fresh0] at e; cases e
       rw [Ax ne]
       exact sm b o e
    have run:=hR cdv A outer s H E (fun c _ H'=>c = .ref (XC z)∧Ek H H') _ hr1 pas [] s1 (start N vs) H { nx:=fun _ _=>False,rt:=fun _ _=>False } (I.wish _) ?_
    ·refine wpAny_mono run (fun fl s2 q=>?_) fun _ _ q=>q
     cases fl with
     | next=>obtain ⟨_,_,_,q⟩:=q; exact q.elim
     | brk=>obtain ⟨_,_,_,q⟩:=q; exact q.elim
     | cont=>obtain ⟨_,_,_,q⟩:=q; exact q.elim
     | ret u=>obtain ⟨_,_,_,_,_,q⟩:=q; exact q.elim
    ·refine ⟨_,O,fp,?_,z,hzz,fun H' kk=>⟨rfl,fun b o e=>kk b o e (.inl fun ⟨i,y⟩=>by rw [fpn i] at y; simp at y)⟩⟩
     have:=rl.start (N.length - ps.length)
     unfold L2.start
     rw [hl]
     exact this
   refine wpAny_execs_cons (wpAny_mono tri (fun fl s2 q=>?_) fun _ _ q=>q)
   cases fl with
   | next=>obtain ⟨_,_,_,q⟩:=q; exact q.elim
   | brk=>exact q
   | cont=>exact q
   | ret u=>exact q
  ·exact F1.run A outer s H args us vs Q E hr e0 hbi rv ⟨_,O,fp,hl,rl,_,_,ha,kont⟩
 ·cases ha
end
end J
end
section
namespace J
open PySem PySem.Spec PyProof.Rows L2
section
variable {X:Cx} {s:Stmt} {m:MS} {K:Frag} {σ:L2.St} {H:Hp} {D:Ends}
end
section
variable {X:Cx} {x:Str} {pos:Pos} {m:ME}
end
end J
namespace J
open PySem PySem.Spec PyProof.Rows L2
theorem Gd {np nn:Nat} {b:MS} {rr:MR}:∀ args y,Fq np nn b rr args = some y→args.length = np:=fun args y e=>by
 unfold Fq at e
 split at e
 ·rename_i hp; exact hp.2
 ·cases e
end J
end
section
namespace J
open PySem PySem.Spec PyProof.Rows L2
section
variable {P:Program} {w:World} {K:Frag} {mg:Str→Option Value} {base:Heap} {XC:Str→Addr}
variable {N:List Str} {qual:Str} {scope:Scope} {f:Addr} {cd:Value} {A:Around} {outer:List Env} {s:Shared} {H:Hp} {E:XK}
theorem Ud {op:CmpOp} {b:Expr} {g:Str} {k j np:Nat} {ps:List Str} {Ψ:FnR} {ms:MA} {p cpos pos npos:Pos} {e:Expr} {es:List Expr} {st st':List Stmt} (D:Def P w K mg base (Fly P w) k g ps (spR K XC Ψ np)) (hnp:∀ args y,Ψ args = some y→args.length = np) (hr:Room j (A.deeper (envOfC qual scope s.heap.objs.size f cd))) (hkj:k≤j)
  (hm:behindInMarks op b = false) (hdb:(g == ("__debug__" : Str)) = false) (hg:Gl (AI (Fly P w) P w K mg base N qual scope f cd A outer s H E) g)
  (he:starEach (e :: es) (AI (Fly P w) P w K mg base N qual scope f cd A outer s H E).env = (false,eval e (AI (Fly P w) P w K mg base N qual scope f cd A outer s H E).env) :: starEach es (AI (Fly P w) P w K mg base N qual scope f cd A outer s H E).env)
  (hpl:(backTo cpos (starEach es (AI (Fly P w) P w K mg base N qual scope f cd A outer s H E).env)).any (·.1) = false)
  (ha:JA (AI (Fly P w) P w K mg base N qual scope f cd A outer s H E) (e :: es) ms) :
  JR (AI (Fly P w) P w K mg base N qual scope f cd A outer s H E) XC E (.If (.Compare (.Call (.Name g p) (e :: es) [] cpos) [op] [b] npos) st st' pos) (Bo Ψ ms):=
 Bz (Og (Oh (r:=fun _ _ _ _=>False) (fun _ _ _ _ _ _ _ _ _ _ _ _ h=>h.elim) (G5 (X:=AI (Fly P w) P w K mg base N qual scope f cd A outer s H E) (E:=E) D hr hkj (GF fun _ _ _ h=>h) ha hg hdb he hpl) (show PE _ b (fun _ _ _=>False) from fun _ _ _ _ _ _ h=>h.elim) hm) (show PSs _ st (fun _ _ _=>False) from fun _ _ _ _ _ _ h=>h.elim) (show PSs _ st' (fun _ _ _=>False) from fun _ _ _ _ _ _ h=>h.elim)) fun D _ _ h=>GK (D:=D) rfl hnp h
end
section
variable {X:Cx} {XC:Str→Addr} {E:XK}
theorem D4 {c:Expr} {st rest:List Stmt} {pos:Pos} {mt:MT} {r r2:MR} (hc:JT X c mt) (ha:JRs X XC E st r) (hb:JRs X XC E rest r2):JRs X XC E (.If c st [] pos :: rest) (FU mt r r2):=
 Fi (J8 (AJ (N4 hc ha)) (Qm (B4 hc Js Ba) hb)) fun D σ H h=>by
  obtain ⟨ρ,O,fp,rl,x,e,k⟩:=h
  exact ⟨ρ,O,fp,rl,x,by
   simp only [FU,HL,ifR,Mf,ifS,bind_eq_some_iff] at e ⊢
   obtain ⟨⟨b,ρ1⟩,e1,e2⟩:=e
   rw [e1]
   cases b with
   | true=>simp only [Option.bind_some,if_true] at e2 ⊢; rw [e2]; rfl
   | false=>simp [Bj] at e2 ⊢; exact e2,k⟩
end
end J
end
section
namespace J
open PySem L2
noncomputable def EV (m:ME) (ρ:Ro) (Q:R→Ro→Prop):Prop:=∃ r ρ',m ρ = some (r,ρ')∧Q r ρ'
noncomputable def AV (m:MA) (ρ:Ro) (Q:List R→Ro→Prop):Prop:=∃ r ρ',m ρ = some (r,ρ')∧Q r ρ'
noncomputable def TV (m:MT) (ρ:Ro) (Q:Bool→Ro→Prop):Prop:=∃ b ρ',m ρ = some (b,ρ')∧Q b ρ'
noncomputable def SV (m:MS) (ρ:Ro) (Q:Fl→Prop):Prop:=∃ f,m ρ = some f∧Q f
noncomputable def IV (m:MI) (ρ:Ro) (Q:List D→Option Nat→Ro→Prop):Prop:=∃ ds n ρ',m ρ = some (ds,n,ρ')∧Q ds n ρ'
noncomputable def FV (Φ:Fn) (as:List (Own × A)) (Q:A→List A→Prop):Prop:=∃ a os,Φ as = some (a,os)∧Q a os
noncomputable def nxt (K:Ro→Prop) (Q:Fl→Prop):Fl→Prop
 | .next ρ=>K ρ
 | f=>Q f
noncomputable def turn (I:Ro→Prop) (u:Ro→Ro) (Q:Fl→Prop):Fl→Prop
 | .next ρ=>I ρ
 | .cnt ρ=>I ρ
 | .brk ρ=>Q (.next (u ρ))
 | .ret x ρ=>Q (.ret x (u ρ))
noncomputable def fin (np:Nat) (Q:A→List A→Prop):Fl→Prop
 | .next ρ=>Q (.fz .non) ((ρ.take np).map GD)
 | .ret a ρ=>Q a ((ρ.take np).map GD)
 | _=>False
noncomputable abbrev Fr (x:Slot):Prop:=free [x] 0 = true
section
variable {m m1 m2 m3:ME} {ms:MA} {c c2:MT} {a b:MS} {it:MI} {ρ ρ1 ρ2:Ro} {Q:R→Ro→Prop} {QA:List R→Ro→Prop} {QT:Bool→Ro→Prop} {QS:Fl→Prop} {K:Ro→Prop} {i:Nat}
theorem CA {Φ:Fn} {as:List (Own × A)} {QF:A→List A→Prop} {x:A} {os:List A} (h : Φ as = some (x,os)) (q:QF x os):FV Φ as QF:=⟨x,os,h,q⟩
theorem Co {Φ:Fn} {as:List (Own × A)} {QF QF':A→List A→Prop} (h:FV Φ as QF) (k:∀ x os,QF x os→QF' x os):FV Φ as QF':=by
 obtain ⟨x,os,e,q⟩:=h; exact ⟨x,os,e,k x os q⟩
theorem Gs {np nn:Nat} {as:List (Own × A)} {QF:A→List A→Prop} (hl:as.length = np) (hρ:as.map some ++ List.replicate (nn - np) none = ρ) (h:SV b ρ (fin np QF)):FV (fnM np nn b) as QF:=by
 obtain ⟨f,e,q⟩:=h
 subst hρ
 cases f with
 | next ρ'=>exact ⟨_,_,by simp only [fnM,if_pos hl,e,Option.bind_some],q⟩
 | ret x ρ'=>exact ⟨_,_,by simp only [fnM,if_pos hl,e,Option.bind_some],q⟩
 | brk ρ'=>exact q.elim
 | cnt ρ'=>exact q.elim
theorem JV {d:D} (q:Q (.val (.fz d)) ρ):EV (Ag d) ρ Q:=⟨_,_,rfl,q⟩
theorem NV {f:List A→Option A} (h:AV ms ρ fun rs ρ1=>∃ as,peeks ρ1 rs = some as∧∃ x,f as = some x∧Q (.val x) ρ1):EV (opM f ms) ρ Q:=by
 obtain ⟨rs,ρ1,e,as,e2,x,e3,q⟩:=h
 exact ⟨_,_,by simp only [opM,e,e2,e3,Option.bind_some,Option.map_some],q⟩
noncomputable def bk (rs:List R) (os:List A) (ρ:Ro):Ro:=match refs rs with
 | []=>ρ
 | _ :: _=>back rs os ρ
theorem VQ (rs:List R) (os:List A) (ρ:Ro):bk rs os ρ = back rs os ρ:=by
 unfold bk
 split
 ·rename_i h
  induction rs generalizing os ρ with
  | nil=>simp [back]
  | cons r rs ih =>
   cases r with
   | ref i=>simp [refs] at h
   | val a =>
    have h:refs rs = []:=h
    cases os with
    | nil=>rfl
    | cons o os=>exact ih os ρ h
 ·rfl
theorem Hy {Φ:Fn} (h:AV ms ρ fun rs ρ1=>∃ as,Cq ρ1 rs = some as∧decide (refs rs).Nodup = true∧FV Φ as fun x os=>Q (.val x) (bk rs os ρ1)):EV (Al Φ ms) ρ Q:=by
 obtain ⟨rs,ρ1,e,as,e2,hn,x,os,e3,q⟩:=h
 rw [VQ] at q
 exact ⟨_,_,by simp only [Al,e,e2,e3,Option.bind_some,Option.map_some,if_pos (of_decide_eq_true hn)],q⟩
theorem Gp (h:EV m ρ fun r ρ1=>∃ d ρ2,share ρ1 r = some (d,ρ2)∧Q (.val (.fz d)) ρ2):EV (Ad m) ρ Q:=by
 obtain ⟨r,ρ1,e,d,ρ2,e2,q⟩:=h
 exact ⟨_,_,by simp only [Ad,e,e2,Option.bind_some,Option.map_some],q⟩
theorem JQ (h:EV m1 ρ fun r ρ1=>∃ x,peek ρ1 r = some x∧∃ y,DX x = some y∧if y then EV m2 ρ1 Q else Q (.val (.fz (.bl false))) ρ1):EV (andM m1 m2) ρ Q:=by
 obtain ⟨r,ρ1,e,x,e2,y,e3,q⟩:=h
 cases y with
 | false=>exact ⟨_,_,by simp only [andM,AR,e,e2,e3,Option.bind_some,Option.map_some,Bool.false_eq_true,if_false],q⟩
 | true =>
  obtain ⟨r',ρ',e4,q⟩:=q
  exact ⟨_,_,by simp only [andM,AR,e,e2,e3,Option.bind_some,Option.map_some,if_true,e4],q⟩
theorem NW (h:EV m1 ρ fun r ρ1=>∃ x,peek ρ1 r = some x∧∃ y,DX x = some y∧if y then Q (.val (.fz (.bl true))) ρ1 else EV m2 ρ1 Q):EV (orM m1 m2) ρ Q:=by
 obtain ⟨r,ρ1,e,x,e2,y,e3,q⟩:=h
 cases y with
 | true=>exact ⟨_,_,by simp only [orM,AR,e,e2,e3,Option.bind_some,Option.map_some,if_true],q⟩
 | false =>
  obtain ⟨r',ρ',e4,q⟩:=q
  exact ⟨_,_,by simp only [orM,AR,e,e2,e3,Option.bind_some,Option.map_some,Bool.false_eq_true,if_false,e4],q⟩
theorem JY (h:EV m ρ fun r ρ1=>∃ x,peek ρ1 r = some x∧∃ y,DX x = some y∧Q (.val (.fz (.bl (!y)))) ρ1):EV (notM m) ρ Q:=by
 obtain ⟨r,ρ1,e,x,e2,y,e3,q⟩:=h
 exact ⟨_,_,by simp only [notM,AR,e,e2,e3,Option.bind_some,Option.map_some],q⟩
theorem JU (h:TV c ρ fun x ρ1=>if x then EV m1 ρ1 Q else EV m2 ρ1 Q):EV (T2 c m1 m2) ρ Q:=by
 obtain ⟨x,ρ1,e,q⟩:=h
 cases x with
 | true=>obtain ⟨r',ρ',e4,q⟩:=q; exact ⟨_,_,by simp only [T2,e,Option.bind_some,if_true,e4],q⟩
 | false=>obtain ⟨r',ρ',e4,q⟩:=q; exact ⟨_,_,by simp only [T2,e,Option.bind_some,Bool.false_eq_true,if_false,e4],q⟩
theorem JX (h:AV ms ρ fun rs ρ1=>∃ as,vals rs = some as∧decide (as.length≤LIM) = true∧Q (.val (.lst as)) ρ1):EV (lstM ms) ρ Q:=by
 obtain ⟨rs,ρ1,e,as,e2,hl,q⟩:=h
 exact ⟨_,_,by simp only [lstM,e,e2,Option.bind_some,if_pos (of_decide_eq_true hl)],q⟩
theorem JZ (h:AV ms ρ fun rs ρ1=>∃ as ρ2,moves rs ρ1 = some (as,ρ2)∧decide (as.length≤LIM) = true∧Q (.val (mkT as)) ρ2):EV (A5 ms) ρ Q:=by
 obtain ⟨rs,ρ1,e,as,ρ2,e2,hl,q⟩:=h
 exact ⟨_,_,by simp only [A5,e,e2,Option.bind_some,if_pos (of_decide_eq_true hl)],q⟩
theorem HM (q:QA [] ρ):AV Ah ρ QA:=⟨_,_,rfl,q⟩
theorem Fs (h:EV m ρ fun r ρ1=>AV ms ρ1 fun rs ρ2=>QA (r :: rs) ρ2):AV (Ab m ms) ρ QA:=by
 obtain ⟨r,ρ1,e,rs,ρ2,e2,q⟩:=h
 exact ⟨_,_,by simp only [Ab,e,e2,Option.bind_some,Option.map_some],q⟩
theorem Py (h:EV m ρ fun r ρ1=>QA [r] ρ1):AV (m1L m) ρ QA:=Fs (by
 obtain ⟨r,ρ1,e,q⟩:=h; exact ⟨r,ρ1,e,HM q⟩)
theorem Rz (h:EV m1 ρ fun r ρ1=>EV m2 ρ1 fun r2 ρ2=>QA [r,r2] ρ2):AV (m2L m1 m2) ρ QA:=Fs (by
 obtain ⟨r,ρ1,e,q⟩:=h; exact ⟨r,ρ1,e,Py q⟩)
theorem K3 (h:EV m ρ fun r ρ1=>∃ x,peek ρ1 r = some x∧∃ y,DX x = some y∧QT y ρ1):TV (AR m) ρ QT:=by
 obtain ⟨r,ρ1,e,x,e2,y,e3,q⟩:=h
 exact ⟨_,_,by simp only [AR,e,e2,e3,Option.bind_some,Option.map_some],q⟩
theorem K2 (h:TV c ρ fun x ρ1=>QT (!x) ρ1):TV (Dp c) ρ QT:=by
 obtain ⟨x,ρ1,e,q⟩:=h
 exact ⟨_,_,by simp only [Dp,e,Option.map_some],q⟩
theorem Oz (h:TV c ρ fun x ρ1=>if x then QT true ρ1 else TV c2 ρ1 QT):TV (orT c c2) ρ QT:=by
 obtain ⟨x,ρ1,e,q⟩:=h
 cases x with
 | true=>exact ⟨_,_,by simp only [orT,e,Option.bind_some,if_true],q⟩
 | false=>obtain ⟨y,ρ',e4,q⟩:=q; exact ⟨_,_,by simp only [orT,e,Option.bind_some,Bool.false_eq_true,if_false,e4],q⟩
theorem K1 (h:TV c ρ fun x ρ1=>if x then TV c2 ρ1 QT else QT false ρ1):TV (Ry c c2) ρ QT:=by
 obtain ⟨x,ρ1,e,q⟩:=h
 cases x with
 | false=>exact ⟨_,_,by simp only [Ry,e,Option.bind_some,Bool.false_eq_true,if_false],q⟩
 | true=>obtain ⟨y,ρ',e4,q⟩:=q; exact ⟨_,_,by simp only [Ry,e,Option.bind_some,if_true,e4],q⟩
theorem KS (h:SV a ρ (nxt (fun ρ1=>SV b ρ1 QS) QS)):SV (AF a b) ρ QS:=by
 obtain ⟨f,e,q⟩:=h
 cases f with
 | next ρ1=>obtain ⟨f,e2,q⟩:=q; exact ⟨f,by simp only [AF,e,Option.bind_some,e2],q⟩
 | brk ρ1=>exact ⟨_,by simp only [AF,e,Option.bind_some],q⟩
 | cnt ρ1=>exact ⟨_,by simp only [AF,e,Option.bind_some],q⟩
 | ret x ρ1=>exact ⟨_,by simp only [AF,e,Option.bind_some],q⟩
theorem KL (h:EV m ρ fun r ρ1=>∃ x ρ2,keep ρ1 r = some (x,ρ2)∧free ρ2 i = true∧QS (.next (ρ2.set i (some (.own,x))))):SV (AL i m) ρ QS:=by
 obtain ⟨r,ρ1,e,x,ρ2,e2,e3,q⟩:=h
 exact ⟨_,by simp only [AL,e,e2,e3,Option.bind_some,if_true],q⟩
theorem KO (h:EV m ρ fun _ ρ1=>QS (.next ρ1)):SV (J2 m) ρ QS:=by
 obtain ⟨r,ρ1,e,q⟩:=h
 exact ⟨_,by simp only [J2,e,Option.map_some],q⟩
theorem KQ (h:EV m ρ fun r ρ1=>∃ x ρ2,move ρ1 r = some (x,ρ2)∧QS (.ret x ρ2)):SV (retS m) ρ QS:=by
 obtain ⟨r,ρ1,e,x,ρ2,e2,q⟩:=h
 exact ⟨_,by simp only [retS,e,e2,Option.bind_some,Option.map_some],q⟩
theorem Oo (h:TV c ρ fun x ρ1=>if x then SV a ρ1 QS else SV b ρ1 QS):SV (ifS c a b) ρ QS:=by
 obtain ⟨x,ρ1,e,q⟩:=h
 cases x with
 | true=>obtain ⟨f,e2,q⟩:=q; exact ⟨f,by simp only [ifS,e,Option.bind_some,if_true,e2],q⟩
 | false=>obtain ⟨f,e2,q⟩:=q; exact ⟨f,by simp only [ifS,e,Option.bind_some,Bool.false_eq_true,if_false,e2],q⟩
theorem HJ (q:QS (.next ρ)):SV Bj ρ QS:=⟨_,rfl,q⟩
theorem KW {is:List Nat} (h:EV m ρ fun r ρ1=>∃ x ρ2,keep ρ1 r = some (x,ρ2)∧∃ as,Eh x = some as∧∃ ρ3,BS is as ρ2 = some ρ3∧QS (.next ρ3)):SV (K6 is m) ρ QS:=by
 obtain ⟨r,ρ1,e,x,ρ2,e2,as,e3,ρ3,e4,q⟩:=h
 exact ⟨_,by simp only [K6,e,e2,e3,e4,Option.bind_some,Option.map_some],q⟩
theorem KP (h:∃ d ρ2,share ρ (.ref i) = some (d,ρ2)∧QS (.next ρ2)):SV (VU i) ρ QS:=by
 obtain ⟨d,ρ2,e,q⟩:=h
 exact ⟨_,by simp only [VU,e,Option.map_some],q⟩
theorem KN (h:SV (AL i (opM Tu (m2L (Ae i) m))) ρ QS):SV (WG i m) ρ QS:=h
theorem Ra (h0:∃ p,DQ ρ i = some p) (h:EV m ρ fun r ρ1=>∃ x ρ2,keep ρ1 r = some (x,ρ2)∧∃ st as,DQ ρ2 i = some (st,as)∧as.length < LIM∧QS (.next (ρ2.set i (some (st,.lst (as ++ [x])))))):SV (EZ i m) ρ QS:=by
 obtain ⟨p,e0⟩:=h0
 obtain ⟨r,ρ1,e,x,ρ2,e2,st,as,e3,hl,q⟩:=h
 exact ⟨_,by simp only [EZ,e0,e,e2,e3,Option.bind_some,if_pos hl],q⟩
theorem NC {is:List Nat} {one:Bool} (h:IV it ρ fun ds n ρ1=>∃ Inv:Nat→Ro→Prop,Inv 0 (lock ρ1 n)∧(∀ j d ρ2,ds[j]? = some d→Inv j ρ2→∃ ρ3,Eo is one d ρ2 = some ρ3∧SV b ρ3 (turn (Inv (j + 1)) (fun ρ4=>unlock ρ1 ρ4 n) QS))∧∀ ρ2,Inv ds.length ρ2→QS (.next (unlock ρ1 ρ2 n))):SV (FD is one it b) ρ QS:=by
 obtain ⟨ds,n,ρ1,e,Inv,h0,hs,he⟩:=h
 have key:∀ (es:List D) (j:Nat) (ρ2:Ro),j≤ds.length→ds.drop j = es→Inv j ρ2→∃ f,forL is one b es ρ2 = some f∧QS (HK ρ1 n f):=by
  intro es
  induction es with
  | nil =>
   intro j ρ2 hj hd hI
   have hj2:ds.length≤j:=by
    have:=congrArg List.length hd
    simp at this
    lia
   have:j = ds.length:=by lia
   subst this
   exact ⟨_,rfl,he ρ2 hI⟩
  | cons d es ih =>
   intro j ρ2 hj hd hI
   have hlt:j < ds.length:=by
    rcases Nat.lt_or_ge j ds.length with z | z
    ·exact z
    ·rw [List.drop_eq_nil_of_le z] at hd; cases hd
   rw [List.drop_eq_getElem_cons hlt] at hd
   injection hd with e1 e2
   obtain ⟨ρ3,e3,f,e4,q⟩:=hs j d ρ2 (by rw [← e1]; simp) hI
   cases f with
   | next ρ4 =>
    obtain ⟨f,e5,q⟩:=ih (j + 1) ρ4 hlt e2 q
    exact ⟨f,by simp only [forL,e3,e4,Option.bind_some,e5],q⟩
   | cnt ρ4 =>
    obtain ⟨f,e5,q⟩:=ih (j + 1) ρ4 hlt e2 q
    exact ⟨f,by simp only [forL,e3,e4,Option.bind_some,e5],q⟩
   | brk ρ4=>exact ⟨.next ρ4,by simp only [forL,e3,e4,Option.bind_some],q⟩
   | ret x ρ4=>exact ⟨.ret x ρ4,by simp only [forL,e3,e4,Option.bind_some],q⟩
 obtain ⟨f,e2,q⟩:=key ds 0 (lock ρ1 n) (Nat.zero_le _) (by simp) h0
 exact ⟨_,by simp only [FD,e,Option.bind_some,e2,Option.map_some],q⟩
theorem RH {pat:Nat} {e:ME} (f:D→Option D) (h:IV it ρ fun ds n ρ1=>decide (ds.length≤LIM) = true∧(∀ d∈ds,∃ bs,Nj pat d = some bs∧TV c (bs.map own ++ lock ρ1 n) fun x ρ2=>ρ2 = bs.map own ++ lock ρ1 n∧if x then EV e (bs.map own ++ lock ρ1 n) (fun r ρ3=>ρ3 = bs.map own ++ lock ρ1 n∧∃ v,share (bs.map own ++ lock ρ1 n) r = some (v,bs.map own ++ lock ρ1 n)∧f d = some v) else f d = none)∧Q (.val (.lst ((ds.filterMap f).map A.fz))) (unlock ρ1 (lock ρ1 n) n)):EV (Bf it pat c e) ρ Q:=by
 obtain ⟨ds,n,ρ1,e0,hl,hs,q⟩:=h
 have key:∀ es:List D,(∀ d∈es,d∈ds)→E5 pat c e es (lock ρ1 n) = some (es.filterMap f,lock ρ1 n):=by
  intro es
  induction es with
  | nil=>intro _; rfl
  | cons d es ih =>
   intro hm
   obtain ⟨bs,e1,x,ρ2,e2,rfl,q2⟩:=hs d (hm d List.mem_cons_self)
   have ih:=ih fun y hy=>hm y (List.mem_cons_of_mem _ hy)
   have hdr:(bs.map own ++ lock ρ1 n).drop bs.length = lock ρ1 n:=by
    rw [List.drop_append_of_le_length (by simp),List.drop_of_length_le (by simp),List.nil_append]
   cases x with
   | false =>
    have q2:f d = none:=q2
    simp only [E5,e1,Option.bind_some,e2,Bool.false_eq_true,if_false,hdr,ih,List.filterMap_cons,q2]
   | true =>
    obtain ⟨r,ρ3,e3,rfl,v,e4,e5⟩:=q2
    simp only [E5,e1,Option.bind_some,e2,if_true,e3,e4,hdr,ih,Option.map_some,List.filterMap_cons,e5]
 exact ⟨_,_,by simp only [Bf,e0,Option.bind_some,if_pos (of_decide_eq_true hl),key ds fun _ h=>h,Option.map_some],q⟩
theorem PL {pat:Nat} {e:ME} (f:D→Option D) (out:List D) (h:IV it ρ fun ds n ρ1=>ds.length≤100000∧ds.filterMap f = out∧(∀ d∈ds,∃ bs,Nj pat d = some bs∧TV c (bs.map own ++ lock ρ1 n) fun x ρ2=>ρ2 = bs.map own ++ lock ρ1 n∧if x then EV e (bs.map own ++ lock ρ1 n) (fun r ρ3=>ρ3 = bs.map own ++ lock ρ1 n∧∃ v,share (bs.map own ++ lock ρ1 n) r = some (v,bs.map own ++ lock ρ1 n)∧f d = some v) else f d = none)∧Q (.val (.lst (out.map A.fz))) (unlock ρ1 (lock ρ1 n) n)):EV (Bf it pat c e) ρ Q:=by
 obtain ⟨ds,n,ρ1,e0,hl,rfl,hs,q⟩:=h
 have hL:100000≤LIM:=by decide
 exact RH f ⟨ds,n,ρ1,e0,decide_eq_true (by lia),hs,q⟩
theorem K4 {QT:Bool→Ro→Prop} (q:QT true ρ):TV Ei ρ QT:=⟨_,_,rfl,q⟩
theorem T4 {QI:List D→Option Nat→Ro→Prop} (h:EV m ρ fun r ρ1=>∃ x,peek ρ1 r = some x∧∃ ds,Bh x = some ds∧QI ds (nameOf r) ρ1):IV (Dr m) ρ QI:=by
 obtain ⟨r,ρ1,e,x,e2,ds,e3,q⟩:=h
 exact ⟨_,_,_,by simp only [Dr,e,e2,e3,Option.bind_some,Option.map_some],q⟩
theorem Qb {QI:List D→Option Nat→Ro→Prop} (h:EV m ρ fun r ρ1=>∃ k:Int,r = .val (.fz (.int k))∧(-1000000≤k∧k≤1000000)∧QI (DU 0 k.toNat) none ρ1):IV (Bw m) ρ QI:=by
 obtain ⟨r,ρ1,e,k,rfl,hk,q⟩:=h
 have e0:(-(2 ^ 62)≤k∧k < 2 ^ 62) = True:=by simp; lia
 exact ⟨_,_,_,by simp only [Bw,e,Option.bind_some,e0,if_true],q⟩
theorem T5 {QI:List D→Option Nat→Ro→Prop} (h:EV m ρ fun r ρ1=>∃ z,r = .val (.fz (.str z))∧decide (z.length≤LIM) = true∧QI (B7 z) none ρ1):IV (IE m) ρ QI:=by
 obtain ⟨r,ρ1,e,z,rfl,hl,q⟩:=h
 exact ⟨_,_,_,by simp only [IE,e,Option.bind_some,if_pos (of_decide_eq_true hl)],q⟩
theorem Ow {I:Ro→Prop} {u:Ro→Ro} {ρ:Ro} (h:I ρ):turn I u QS (.next ρ):=h
theorem Dd {ρ:Ro} (h:K ρ):nxt K QS (.next ρ):=h
theorem Ki {x:A} {ρ:Ro} (h:QS (.ret x ρ)):nxt K QS (.ret x ρ):=h
theorem Hz {np:Nat} {QF:A→List A→Prop} {x:A} {ρ:Ro} (h:QF x ((ρ.take np).map GD)):fin np QF (.ret x ρ):=h
theorem Gq {np:Nat} {QF:A→List A→Prop} {ρ:Ro} (h:QF (.fz .non) ((ρ.take np).map GD)):fin np QF (.next ρ):=h
theorem Lw {P1 P2:Prop} {x:Bool} (hx:x = true) (h:P1):if x then P1 else P2:=by rw [if_pos hx]; exact h
theorem N1 {P1 P2:Prop} {x:Bool} (hx:x = false) (h:P2):if x then P1 else P2:=by rw [if_neg (by rw [hx]; exact Bool.false_ne_true)]; exact h
theorem Qa {P1 P2:Prop} {x:Bool} (h1:x = true→P1) (h2:x = false→P2):if x then P1 else P2:=by
 cases x with
 | true=>exact h1 rfl
 | false=>exact h2 rfl
end
theorem Fv {i j:Int} (h:decide (-1000000≤j∧j≤1000000) = true):Kh [.fz (.int i),.fz (.int j)] = some (.fz (.int (i * j))):=by
 have h:=of_decide_eq_true h
 have e:((-(2 ^ 64) < i∧i < 2 ^ 64)∨(-(2 ^ 64) < j∧j < 2 ^ 64)) = True:=by simp only [eq_iff_iff,iff_true]; exact .inr ⟨by lia,by lia⟩
 simp only [Kh,on2,BJ,fzU,EK,Option.bind_some,e,if_true]
theorem ex1 {α:Type} {f:Option α} {q:α → Prop} {x:α} (h:f = some x) (k:q x):∃ x,f = some x∧q x:=⟨x,h,k⟩
theorem ex2 {α β:Type} {f:Option (α × β)} {q:α → β → Prop} {x:α} {y:β} (h:f = some (x,y)) (k:q x y):∃ x y,f = some (x,y)∧q x y:=⟨x,y,h,k⟩
theorem NX {i:Nat} {ρ ρ1:Ro} {Q:R→Ro→Prop} {r:R} (h:Ae i ρ = some (r,ρ1)) (q:Q r ρ1):EV (Ae i) ρ Q:=⟨r,ρ1,h,q⟩
theorem ex3 {α β:Type} {f:Option (α × β)} {b:β} {q:α → Prop} {x:α} (h:f = some (x,b)) (k:q x):∃ x,f = some (x,b)∧q x:=⟨x,h,k⟩
theorem ex0 {α β:Type} {r:β} {g:α → β} {q:α → Prop} {x:α} (h:r = g x) (k:q x):∃ x,r = g x∧q x:=⟨x,h,k⟩
theorem PU {np nn:Nat} {b:MS} {rr:MR} {as:List (Own × A)} {ρ:Ro} {QF:A→List A→Prop} (hp:By as = true) (hl:as.length = np) (hρ:as.map some ++ List.replicate (nn - np) none = ρ) (h:(∃ z,rr ρ = some z∧QF (.fz (.str z)) (as.map (·.2)))∨(rr ρ = none∧SV b ρ (fin np QF))):FV (Fq np nn b rr) as QF:=by
 subst hρ
 rcases h with ⟨z,e,q⟩ | ⟨e,q⟩
 ·refine ⟨_,_,?_,q⟩
  unfold Fq
  rw [if_pos ⟨hp,hl⟩,e]
 ·obtain ⟨x,os,e2,q⟩:=Gs (nn:=nn) hl rfl q
  refine ⟨x,os,?_,q⟩
  unfold Fq
  rw [if_pos ⟨hp,hl⟩,e]
  exact e2
theorem Gh {Ψ:FnR} {ms:MA} {ρ:Ro} {o:Option Str} (h:AV ms ρ fun rs ρ1=>∃ as,Cq ρ1 rs = some as∧By as = true ∧ Ψ as = o):Bo Ψ ms ρ = o:=by
 obtain ⟨rs,ρ1,e,as,e2,hp,q⟩:=h
 simp only [Bo,e,e2,Option.bind_some,hp,if_true,q]
theorem HA {c:MT} {r s:MR} {ρ:Ro} {o:Option Str} (h:TV c ρ fun x ρ1=>if x then r ρ1 = o else s ρ1 = o):FU c r s ρ = o:=by
 obtain ⟨x,ρ1,e,q⟩:=h
 cases x with
 | true=>simp only [FU,e,Option.bind_some,if_true]; exact q
 | false=>simp only [FU,e,Option.bind_some,Bool.false_eq_true,if_false]; exact q
theorem J5 {c:MT} {r:MR} {ρ:Ro} {o:Option Str} (h:TV c ρ fun x ρ1=>if x then r ρ1 = o else none = o):ifR c r ρ = o:=by
 obtain ⟨x,ρ1,e,q⟩:=h
 cases x with
 | true=>simp only [ifR,e,Option.bind_some,if_true]; exact q
 | false=>simp only [ifR,e,Option.bind_some,Bool.false_eq_true,if_false]; exact q
theorem HH {a:MS} {r:MR} {ρ:Ro} {o:Option Str} (h:SV a ρ (nxt (fun ρ1=>r ρ1 = o) fun _=>False)):Mf a r ρ = o:=by
 obtain ⟨f,e,q⟩:=h
 cases f with
 | next ρ1=>simp only [Mf,e,Option.bind_some]; exact q
 | brk ρ1=>exact q.elim
 | cnt ρ1=>exact q.elim
 | ret x ρ1=>exact q.elim
theorem BM {np nn:Nat} {r:MR} {as:List (Own × A)} {ρ:Ro} {o:Option Str} (hl:as.length = np) (hρ:as.map some ++ List.replicate (nn - np) none = ρ) (h:r ρ = o):fnR np nn r as = o:=by
 subst hρ
 simp only [fnR,if_pos hl,h]
theorem Pw {r s:MR} {ρ:Ro} {z:Str} (h:r ρ = some z):HL r s ρ = some z:=by simp only [HL,h,Option.some_or]
theorem Mu {r s:MR} {ρ:Ro} {o:Option Str} (h:r ρ = none) (h2:s ρ = o):HL r s ρ = o:=by simp only [HL,h,h2,Option.none_or]
noncomputable def DW (W:List Str) (r:MR):Prop:=∀ ρ z,r ρ = some z→z∈W
noncomputable def Ds (W:List Str) (Ψ:FnR):Prop:=∀ as z,Ψ as = some z→z∈W
section
variable {W:List Str} {r s:MR} {c:MT}
theorem A7 {x:Str} (h:x∈W):DW W (G9 x):=fun ρ z e=>by cases e; exact h
theorem BQ (h:DW W r):DW W (ifR c r):=fun ρ z e=>by
 simp only [ifR,bind_eq_some_iff] at e
 obtain ⟨p,_,e⟩:=e
 split at e
 ·exact h _ _ e
 ·cases e
theorem Bu (h:DW W r) (k:DW W s):DW W (FU c r s):=fun ρ z e=>by
 simp only [FU,bind_eq_some_iff] at e
 obtain ⟨p,_,e⟩:=e
 split at e
 ·exact h _ _ e
 ·exact k _ _ e
theorem Bt (h:DW W r) (k:DW W s):DW W (HL r s):=fun ρ z e=>by
 simp only [HL] at e
 rcases Option.or_eq_some_iff.mp e with e | ⟨_,e⟩
 ·exact h _ _ e
 ·exact k _ _ e
theorem Bv {a:MS} (h:DW W r):DW W (Mf a r):=fun ρ z e=>by
 simp only [Mf,bind_eq_some_iff] at e
 obtain ⟨f,_,e⟩:=e
 split at e
 ·exact h _ _ e
 ·cases e
theorem AN {Ψ:FnR} {m:MA} (h:Ds W Ψ):DW W (Bo Ψ m):=fun ρ z e=>by
 simp only [Bo,bind_eq_some_iff] at e
 obtain ⟨p,_,as,_,e⟩:=e
 split at e
 ·exact h _ _ e
 ·cases e
theorem BZ {np nn:Nat} (h:DW W r):Ds W (fnR np nn r):=fun as z e=>by
 unfold fnR at e
 split at e
 ·exact h _ _ e
 ·cases e
end
end J
end
section
namespace St
noncomputable def hit (f:Nat→List Int) (bs:List Int) (c:Nat):Bool:=(f c).any fun x=>decide (x∈bs)
noncomputable def fs (f:Nat→List Int):List Int→List Nat→List Nat
 | _,[]=>[]
 | bs,c :: w=>if hit f bs c then fs f (bs ++ f c) w else c :: fs f (bs ++ f c) w
noncomputable def rs (f:Nat→List Int):List Int→List Nat→List Nat
 | _,[]=>[]
 | bs,c :: w=>if hit f bs c then c :: rs f (bs ++ f c) w else rs f (bs ++ f c) w
noncomputable def srt (cs:List Nat):List Nat:=cs.mergeSort fun a b=>decide (a≤b)
variable {f:Nat→List Int}
noncomputable def pl (f:Nat→List Int):List Int→Nat→List Nat→List Nat
 | _,_,[]=>[]
 | bs,k,c :: w=>if hit f bs c then pl f (bs ++ f c) (k + 1) w else k :: pl f (bs ++ f c) (k + 1) w
end St
end
section
namespace St
variable {f:Nat→List Int}
noncomputable def lst (cs:List Nat):Nat:=(srt cs).headD 0
end St
end
section
namespace J
open PySem L2
theorem Ca (ds:List D):fzs (ds.map A.fz) = some ds:=by
 induction ds with
 | nil=>rfl
 | cons d ds ih=>simp [fzs,ih]
theorem Hx (ds:List D):ers (ds.map A.fz) = some ds:=by
 induction ds with
 | nil=>simp [ers]
 | cons d ds ih=>simp [ers,er,ih]
theorem OR (ρ:Ro):lock ρ none = ρ:=rfl
theorem Mo (ρ:Ro) (n:Option Nat):unlock ρ (lock ρ n) n = ρ:=by
 cases n with
 | none=>rfl
 | some i =>
  simp only [unlock,lock]
  split
  ·rename_i s e
   apply List.ext_getElem?
   intro j
   by_cases h:j = i
   ·subst h
    have hj:j < ρ.length:=Az e
    split
    ·rw [List.getElem?_set_self (by simpa using hj),e]
    ·rw [List.getElem?_set_self hj,e]
   ·split
    ·rw [List.getElem?_set_ne (Ne.symm h),List.getElem?_set_ne (Ne.symm h)]
    ·rw [List.getElem?_set_ne (Ne.symm h)]
  ·rename_i e
   split
   ·rename_i st a e'
    rw [e] at e'; cases e'
   ·rfl
theorem PC {c:MT} {e:ME} {f:D→D} {g:D→Bool} {ρ:Ro}:∀ {ds:List D},(∀ d∈ds,c (own d :: ρ) = some (g d,own d :: ρ))→(∀ d∈ds,g d = true→∃ r,e (own d :: ρ) = some (r,own d :: ρ)∧share (own d :: ρ) r = some (f d,own d :: ρ))→E5 0 c e ds ρ = some ((ds.filter g).map f,ρ):=by
 intro _l
 induction _l with
 | nil =>
  intro _ _
  exact rfl
 | cons d ds ih =>
  intro hc he
  have ih:=ih (fun x hx=>hc x (List.mem_cons_of_mem _ hx)) fun x hx=>he x (List.mem_cons_of_mem _ hx)
  simp only [E5,Nj,Option.bind_some,List.map_cons,List.map_nil,List.cons_append,List.nil_append,hc d List.mem_cons_self]
  cases h:g d with
  | true =>
   obtain ⟨r,h1,h2⟩:=he d List.mem_cons_self h
   simp [h1,h2,ih,h]
  | false=>simp [ih,h]
theorem Lj {it:MI} {c:MT} {e:ME} {f:D→D} {g:D→Bool} {ρ ρ1:Ro} {ds:List D} {n:Option Nat} (hi:it ρ = some (ds,n,ρ1)) (hl:ds.length≤LIM) (hc:∀ d∈ds,c (own d :: lock ρ1 n) = some (g d,own d :: lock ρ1 n))
  (he:∀ d∈ds,g d = true→∃ r,e (own d :: lock ρ1 n) = some (r,own d :: lock ρ1 n)∧share (own d :: lock ρ1 n) r = some (f d,own d :: lock ρ1 n)):Bf it 0 c e ρ = some (.val (.lst (((ds.filter g).map f).map A.fz)),ρ1):=by
 simp only [Bf,hi,Option.bind_some,hl,if_true,PC hc he,Option.map_some,Mo]
theorem CY {it:MI} {e:ME} {f:D→D} {ρ ρ1:Ro} {ds:List D} {n:Option Nat} (hi:it ρ = some (ds,n,ρ1)) (hl:ds.length≤LIM)
  (he:∀ d∈ds,∃ r,e (own d :: lock ρ1 n) = some (r,own d :: lock ρ1 n)∧share (own d :: lock ρ1 n) r = some (f d,own d :: lock ρ1 n)):Bf it 0 Ei e ρ = some (.val (.lst ((ds.map f).map A.fz)),ρ1):=by
 have:=Lj (g:=fun _=>true) (c:=Ei) hi hl (fun d _=>rfl) fun d hd _=>he d hd
 rw [List.filter_eq_self.mpr (fun _ _=>rfl)] at this
 exact this
theorem Lp {is:List Nat} {one:Bool} {b:MS} (Inv:Nat→Ro→Prop):∀ {ds:List D} {i:Nat} {ρ:Ro},Inv i ρ → (∀ (j:Nat) d ρ,ds[j]? = some d→Inv (i + j) ρ → ∃ ρ1 ρ2,Eo is one d ρ = some ρ1∧(b ρ1 = some (.next ρ2)∨b ρ1 = some (.cnt ρ2))∧Inv (i + j + 1) ρ2)→∃ ρ',forL is one b ds ρ = some (.next ρ')∧Inv (i + ds.length) ρ'
 | [],i,ρ,h0,_=>⟨ρ,rfl,h0⟩
 | d :: ds,i,ρ,h0,hs=>by
  obtain ⟨ρ1,ρ2,h1,h2,h3⟩:=hs 0 d ρ rfl h0
  obtain ⟨ρ',h4,h5⟩:=Lp (ds:=ds) (i:=i + 1) (b:=b) (is:=is) (one:=one) Inv h3 fun j d ρ e hI=>by
   have:=hs (j + 1) d ρ (by simpa using e) (by rw [show i + (j + 1) = i + 1 + j by lia]; exact hI)
   rw [show i + (j + 1) + 1 = i + 1 + j + 1 by lia] at this
   exact this
  refine ⟨ρ',?_,by rw [List.length_cons,show i + (ds.length + 1) = i + 1 + ds.length by lia]; exact h5⟩
  rcases h2 with h2 | h2 <;> simp [forL,h1,h2,h4]
theorem Gr {is:List Nat} {one:Bool} {it:MI} {b:MS} {ρ ρ1:Ro} {ds:List D} {n:Option Nat} (Inv:Nat→Ro→Prop) (hi:it ρ = some (ds,n,ρ1)) (h0:Inv 0 (lock ρ1 n))
  (hs:∀ (j:Nat) d ρ,ds[j]? = some d→Inv j ρ → ∃ ρ1 ρ2,Eo is one d ρ = some ρ1∧(b ρ1 = some (.next ρ2)∨b ρ1 = some (.cnt ρ2))∧Inv (j + 1) ρ2):∃ ρ',FD is one it b ρ = some (.next (unlock ρ1 ρ' n))∧Inv ds.length ρ':=by
 obtain ⟨ρ',h1,h2⟩:=Lp (is:=is) (one:=one) (b:=b) Inv (ds:=ds) (i:=0) h0 fun j d ρ e hI=>by
  rw [Nat.zero_add] at hI ⊢
  exact hs j d ρ e hI
 refine ⟨ρ',?_,by simpa using h2⟩
 simp [FD,hi,h1,HK]
theorem He (lo:Int) (n:Nat):(DU lo n).length = n:=by simp [DU]
theorem Hd {lo:Int} {n j:Nat} {d:D} (h:(DU lo n)[j]? = some d):d = .int (lo + j)∧j < n:=by
 have hj:j < n:=by have:=Az h; simpa [DU] using this
 simp only [DU,List.getElem?_map,List.getElem?_range hj,Option.map_some,Option.some.injEq] at h
 exact ⟨h.symm,hj⟩
theorem PF {lo:Int} {n j:Nat} {d:D} (h:(down lo n)[j]? = some d):d = .int (lo - j)∧j < n:=by
 have hj:j < n:=by have:=Az h; simpa [down] using this
 simp only [down,List.getElem?_map,List.getElem?_range hj,Option.map_some,Option.some.injEq] at h
 exact ⟨h.symm,hj⟩
noncomputable def iL (xs:List Int):List D:=xs.map D.int
theorem J4 (xs:List Int):(iL xs).all Cw = true:=by simp [iL,Cw,List.all_eq_true]
theorem MO (x:Int) (xs:List Int):inD (.int x) (iL xs) = decide (x∈xs):=by
 induction xs with
 | nil=>rfl
 | cons y ys ih =>
  have:inD (.int x) (iL (y :: ys)) = (eqD (.int y) (.int x) || inD (.int x) (iL ys)):=rfl
  rw [this,ih]
  simp only [E7,List.mem_cons]
  by_cases h:y = x
  ·subst h; simp
  ·have h':¬ x = y:=fun z=>h z.symm
   simp [h,h']
theorem DC {α:Type} (xs:List α) (f:α → Bool):Dk (xs.map fun x=>D.bl (f x)) = some (xs.map f):=by
 induction xs with
 | nil=>rfl
 | cons x xs ih=>simp [Dk,ih]
theorem Lv (xs:List Int):P6 (iL xs) = some xs:=by
 induction xs with
 | nil=>rfl
 | cons x xs ih =>
  simp only [iL,List.map_cons,P6] at ih ⊢
  rw [ih]; rfl
end J
namespace J
open PySem L2
@[simp] theorem Fu (xs:List Int):(iL xs).length = xs.length:=by simp [iL]
theorem Kg {d:D} {xs:List Int}:d∈iL xs↔∃ i∈xs,d = .int i:=by
 simp only [iL,List.mem_map]
 constructor
 ·rintro ⟨i,h,rfl⟩; exact ⟨i,h,rfl⟩
 ·rintro ⟨i,h,rfl⟩; exact ⟨i,h,rfl⟩
noncomputable def nD:D→Int
 | .int i=>i
 | _=>0
@[simp] theorem WL (i:Int):nD (.int i) = i:=rfl
theorem Ke {β:Type} (f:Int → β) (xs:List Int):(iL xs).map (fun d=>f (nD d)) = xs.map f:=by simp [iL]
end J
namespace J
open PySem L2
theorem Ay {a b:MS} {ρ ρ1:Ro} (h:a ρ = some (.next ρ1)):AF a b ρ = b ρ1:=by simp [AF,h]
theorem V2 {c:MT} {a b:MS} {ρ ρ1:Ro} (h:c ρ = some (true,ρ1)):ifS c a b ρ = a ρ1:=by simp [ifS,h]
theorem RJ {c:MT} {a b:MS} {ρ ρ1:Ro} (h:c ρ = some (false,ρ1)):ifS c a b ρ = b ρ1:=by simp [ifS,h]
theorem K0 {m:ME} {ρ ρ1:Ro} {b:Bool} (h:m ρ = some (.val (.fz (.bl b)),ρ1)):AR m ρ = some (b,ρ1):=by simp [AR,h,peek,DX]
theorem not_of {m:MT} {ρ ρ1:Ro} {b:Bool} (h:m ρ = some (b,ρ1)):Dp m ρ = some (!b,ρ1):=by simp [Dp,h]
theorem DS {m:ME} {ρ ρ1:Ro} {a:A} (h:m ρ = some (.val a,ρ1)):retS m ρ = some (.ret a ρ1):=by simp [retS,h,move]
theorem Ec {m:ME} {ρ ρ1:Ro} {a:A} {i:Nat} (h:m ρ = some (.val a,ρ1)) (hf:free ρ1 i = true):AL i m ρ = some (.next (ρ1.set i (some (.own,a)))):=by simp [AL,h,keep,hf]
theorem BO {np nn:Nat} {b:MS} {args:List (Own × A)} {a:A} {ρ:Ro} (hl:args.length = np) (h:b (args.map some ++ List.replicate (nn - np) none) = some (.ret a ρ)):fnM np nn b args = some (a,(ρ.take np).map GD):=by simp [fnM,hl,h]
end J
end
section
namespace Gk26
open PySem PySem.Spec PyProof.Rows L2 J
noncomputable def top (i:Nat):Stmt:=PySem.Challenge.pw_handsapart_k26_pasts_refused.main.body.getD i (.Pass ⟨0,0,0,0⟩)
noncomputable def Hf:MS:=retS (andM (opM (FE isTup) (m1L (Ae 0))) (opM eqA (m2L (opM Cb (Ab (Ae 0) Ah)) (Ag (.int 2)))))
noncomputable def Ct:Fn:=fnM 1 1 Hf
noncomputable def Gk:MS:=retS (andM (opM (FE isInt) (m1L (Ae 0))) (notM (opM (FE isBool) (m1L (Ae 0)))))
noncomputable def B3:Fn:=fnM 1 1 Gk
noncomputable def CS:MS:=retS (andM (Al B3 (Ab (Ae 0) Ah)) (IL leA leA (Ag (.int 2)) (Ae 0) (Ag (.int 4))))
noncomputable def Bg:Fn:=fnM 1 1 CS
noncomputable def Dt:MS:=retS (andM (Al B3 (Ab (Ae 0) Ah)) (IL leA ltA (Ag (.int 0)) (Ae 0) (Ae 1)))
noncomputable def Bb:Fn:=fnM 2 2 Dt
noncomputable def BW:MS:=retS (opM Hm (Ab (Bf (Dr (Ae 0)) 0 Ei (Al Bb (Ab (Ae 0) (Ab (Ae 2) Ah)))) Ah))
noncomputable def BB:Fn:=fnM 2 2 BW
noncomputable def BU:MS:=retS (andM (opM (FE Hi) (m1L (Ae 0))) (Al BB (Ab (Ae 0) (Ab (Ae 1) Ah))))
noncomputable def AU:Fn:=fnM 2 2 BU
noncomputable def Ck:MS:=AF (ifS (Dp (AR (Al AU (Ab (Ae 0) (Ab (Ae 1) Ah))))) (retS (Ag (.bl false))) Bj) (retS (opM Hm (Ab (Bf (Bw (opM C6 (m2L (opM Cb (Ab (Ae 0) Ah)) (Ag (.int 1))))) 0 Ei (opM ltA (m2L (opM ixA (m2L (Ae 1) (Ae 0))) (opM ixA (m2L (Ae 1) (opM A4 (m2L (Ae 0) (Ag (.int 1))))))))) Ah)))
noncomputable def AG:Fn:=fnM 2 2 Ck
noncomputable def Du:MS:=retS (andM (opM (FE isStr) (m1L (Ae 0))) (andM (opM eqA (m2L (opM Cb (Ab (Ae 0) Ah)) (Ag (.int 1)))) (IL leA leA (Ag (.str (Str.ofString "a"))) (Ae 0) (Ag (.str (Str.ofString "z"))))))
noncomputable def Br:Fn:=fnM 1 1 Du
noncomputable def Gi:MS:=AF (ifS (orT (Dp (AR (Al Ct (Ab (Ae 1) Ah)))) (Dp (AR (Al Br (Ab (opM ixA (m2L (Ae 1) (Ag (.int 0)))) Ah))))) (retS (Ag (.bl false))) Bj) (retS (andM (Al AG (Ab (opM ixA (m2L (Ae 1) (Ag (.int 1)))) (Ab (Ae 0) Ah))) (opM gtA (m2L (opM Cb (Ab (opM ixA (m2L (Ae 1) (Ag (.int 1)))) Ah)) (Ag (.int 0))))))
noncomputable def Cy:Fn:=fnM 2 2 Gi
noncomputable def Dl:MS:=AF (ifS (orT (Dp (AR (opM (FE Hi) (m1L (Ae 1))))) (Dp (AR (IL leA leA (Ag (.int 1)) (opM Cb (Ab (Ae 1) Ah)) (Ag (.int 6)))))) (retS (Ag (.bl false))) Bj) (AF (ifS (Dp (AR (opM Hm (Ab (Bf (Dr (Ae 1)) 0 Ei (Al Cy (Ab (Ae 1) (Ab (Ae 0) Ah)))) Ah)))) (retS (Ag (.bl false))) Bj) (retS (opM Hm (Ab (Bf (Bw (opM C6 (m2L (opM Cb (Ab (Ae 1) Ah)) (Ag (.int 1))))) 0 Ei (opM ltA (m2L (opM ixA (m2L (opM ixA (m2L (Ae 2) (Ae 0))) (Ag (.int 0)))) (opM ixA (m2L (opM ixA (m2L (Ae 2) (opM A4 (m2L (Ae 0) (Ag (.int 1)))))) (Ag (.int 0))))))) Ah))))
noncomputable def CJ:Fn:=fnM 2 2 Dl
noncomputable def Gj:MS:=AF (ifS (Dp (AR (Al Ct (Ab (Ae 0) Ah)))) (retS (Ag (.bl false))) Bj) (retS (andM (Al Bg (Ab (opM ixA (m2L (Ae 0) (Ag (.int 0)))) Ah)) (Al CJ (Ab (opM ixA (m2L (Ae 0) (Ag (.int 0)))) (Ab (opM ixA (m2L (Ae 0) (Ag (.int 1)))) Ah)))))
noncomputable def BC:Fn:=fnM 1 1 Gj
noncomputable def E6:MS:=ifS (Dp (AR (Al BC (Ab (Ae 0) Ah)))) (Fo) Bj
noncomputable def Cm:Fn:=fnM 1 1 E6
noncomputable def DM:MS:=retS (KJ Jr (Ag (.str (Str.ofString ""))) (m1L (Bf (Dr (opM ixA (m2L (Ae 0) (Ag (.int 1))))) 0 Ei (opM ixA (m2L (Ae 0) (Ag (.int 0)))))))
noncomputable def BV:Fn:=fnM 1 1 DM
noncomputable def Cs:MS:=AF (J2 (Al Cm (Ab (Ae 0) Ah))) (AF (ifS (Dp (AR (opM (FE isStr) (m1L (Ae 1))))) (retS (Ag (.bl false))) Bj) (AF (AL 2 (Al BV (Ab (Ae 0) Ah))) (retS (opM Hm (Ab (Bf (IE (Ae 1)) 0 Ei (opM (inA false) (m2L (Ae 0) (Ae 3)))) Ah)))))
noncomputable def Cz:Fn:=fnM 2 3 Cs
noncomputable def Gm:MS:=ifS (Dp (AR (Al Cz (Ab (Ae 0) (Ab (Ae 1) Ah))))) (Fo) Bj
noncomputable def Dh:Fn:=fnM 2 2 Gm
noncomputable def EI:MS:=retS (opM ixA (m2L (opM ixA (m2L (opM ixA (m2L (Ae 0) (Ag (.int 1)))) (KJ HZ (Al BV (Ab (Ae 0) Ah)) (m1L (Ae 1))))) (Ag (.int 1))))
noncomputable def D1:Fn:=fnM 2 2 EI
noncomputable def Cf:MS:=retS (opM Ge (Ab (Bf (Dr (Ae 0)) 0 Ei (opM (inA false) (m2L (Ae 0) (Ae 2)))) Ah))
noncomputable def BN:Fn:=fnM 2 2 Cf
noncomputable def DL:MS:=AF (AL 3 (lstM Ah)) (AF (FD [4,5] false (HS (Ae 1)) (AF (AL 6 (Al D1 (Ab (Ae 0) (Ab (Ae 5) Ah)))) (ifS (AR (opM (inA true) (m2L (Ae 4) (Ae 2)))) (Ln 3 (Ae 6)) (ifS (AR (Al BN (Ab (Ae 6) (Ab (Ae 3) Ah)))) (retS (Ag (.bl false))) Bj)))) (retS (Ag (.bl true))))
noncomputable def Dc:Fn:=fnM 3 7 DL
noncomputable def De:MS:=AF (J2 (Al Dh (Ab (Ae 0) (Ab (Ae 1) Ah)))) (retS (andM (Al AG (Ab (Ae 2) (Ab (opM Cb (Ab (Ae 1) Ah)) Ah))) (Al Dc (Ab (Ae 0) (Ab (Ae 1) (Ab (Ae 2) Ah))))))
noncomputable def C0:Fn:=fnM 3 3 De
noncomputable def CH:MS:=AF (ifS (AR (opM geA (m2L (opM Pu (Ab (Ae 0) Ah)) (opM Sr (m2L (Ag (.int 10)) (Ag (.int 18))))))) (retS (lstM (Ab (Ad (opM Pu (Ab (Ae 0) Ah))) (Ab (Ad (Ag (.int 0))) Ah)))) Bj) (retS (lstM (Ab (Ad (opM LF (m2L (Ae 0) (Ag (.int 2147483647))))) (Ab (Ad (Ag (.int 1))) Ah))))
noncomputable def DZ:Fn:=fnM 1 1 CH
noncomputable def Cj:MS:=AF (ifS (AR (opM eqA (m2L (opM ixA (m2L (Ae 0) (Ag (.int 1)))) (Ag (.int 0))))) (AF (AL 2 (opM LF (m2L (opM ixA (m2L (Ae 0) (Ag (.int 0)))) (Ae 1)))) (AF (LX 0 (Ag (.int 0)) (opM Lo (m2L (opM ixA (m2L (Ae 0) (Ag (.int 0)))) (Ae 1)))) (retS (Ae 2)))) Bj) (AF (LX 0 (Ag (.int 0)) (opM LF (m2L (opM A4 (m2L (opM A4 (m2L (opM Kh (m2L (opM ixA (m2L (Ae 0) (Ag (.int 0)))) (Ag (.int 48271)))) (opM Kh (m2L (opM Kh (m2L (Ag (.int 7919)) (opM ixA (m2L (Ae 0) (Ag (.int 1)))))) (opM ixA (m2L (Ae 0) (Ag (.int 1)))))))) (Ag (.int 17)))) (Ag (.int 2147483647))))) (AF (LX 0 (Ag (.int 1)) (opM A4 (m2L (opM ixA (m2L (Ae 0) (Ag (.int 1)))) (Ag (.int 1))))) (retS (opM LF (m2L (opM Lo (m2L (opM LF (m2L (opM Kh (m2L (opM ixA (m2L (Ae 0) (Ag (.int 0)))) (Ag (.int 69621)))) (Ag (.int 2147483629)))) (Ag (.int 5)))) (Ae 1))))))
noncomputable def Aj:Fn:=fnM 2 3 Cj
noncomputable def DK:MS:=AF (AL 1 (opM A4 (m2L (Ag (.int 2)) (Al Aj (Ab (Ae 0) (Ab (Ag (.int 3)) Ah)))))) (AF (AL 2 (opM A4 (m2L (Ag (.int 1)) (Al Aj (Ab (Ae 0) (Ab (Ag (.int 6)) Ah)))))) (AF (AL 3 (Al Aj (Ab (Ae 0) (Ab (Ag (.int 2)) Ah)))) (AF (AL 4 (lstM Ah)) (AF (AL 5 (Ag (.int 0))) (AF (FD [6] true (Bw (Ae 2)) (AF (AL 5 (opM A4 (m2L (Ae 5) (Al Aj (Ab (Ae 0) (Ab (opM C6 (m2L (opM A4 (m2L (opM C6 (m2L (Ag (.int 27)) (Ae 2))) (Ae 6))) (Ae 5))) Ah)))))) (AF (AL 7 (opM A4 (m2L (Ag (.int 1)) (Al Aj (Ab (Ae 0) (Ab (opM C6 (m2L (opM Ez (m2L (Ag (.int 1)) (Ae 1))) (Ag (.int 1)))) Ah)))))) (AF (ifS (AR (opM eqA (m2L (Ae 3) (Ag (.int 1))))) (AL 7 (opM Mw (m2L (opM Ez (m2L (Ag (.int 1)) (Al Aj (Ab (Ae 0) (Ab (Ae 1) Ah))))) (opM Ez (m2L (Ag (.int 1)) (Al Aj (Ab (Ae 0) (Ab (Ae 1) Ah)))))))) Bj) (AF (EZ 4 (A5 (Ab (Ad (opM ixA (m2L (Ag (.str (Str.ofString "abcdefghijklmnopqrstuvwxyz"))) (Ae 5)))) (Ab (Ad (Bf (Bw (Ae 1)) 0 (AR (opM eqA (m2L (opM Gg (m2L (opM Hu (m2L (Ae 8) (Ae 0))) (Ag (.int 1)))) (Ag (.int 1))))) (Ae 0))) Ah)))) (AL 5 (opM A4 (m2L (Ae 5) (Ag (.int 1)))))))))) (retS (A5 (Ab (Ad (Ae 1)) (Ab (Ad (Ae 4)) Ah)))))))))
noncomputable def C9:Fn:=fnM 1 8 DK
noncomputable def EH:MS:=AF (AL 3 (Al Aj (Ab (Ae 0) (Ab (opM A4 (m2L (Ae 2) (Ag (.int 1)))) Ah)))) (AF (ifS (AR (opM eqA (m2L (Al Aj (Ab (Ae 0) (Ab (Ag (.int 8)) Ah))) (Ag (.int 1))))) (AL 3 (Al Aj (Ab (Ae 0) (Ab (Ag (.int 41)) Ah)))) Bj) (AF (AL 4 (Ag (.str (Str.ofString "")))) (AF (FD [5] true (Bw (Ae 3)) (AL 4 (opM A4 (m2L (Ae 4) (opM ixA (m2L (opM ixA (m2L (opM ixA (m2L (Ae 1) (Ag (.int 1)))) (Al Aj (Ab (Ae 0) (Ab (opM Cb (Ab (opM ixA (m2L (Ae 1) (Ag (.int 1)))) Ah)) Ah))))) (Ag (.int 0)))))))) (retS (Ae 4)))))
noncomputable def D0:Fn:=fnM 3 6 EH
noncomputable def DJ:MS:=AF (AL 2 (Al DZ (Ab (Ae 0) Ah))) (AF (AL 3 (Al C9 (Ab (Ae 2) Ah))) (retS (A5 (Ab (Ae 2) (Ab (Ad (Ae 3)) (Ab (Ad (Al D0 (Ab (Ae 2) (Ab (Ae 3) (Ab (Ae 1) Ah))))) Ah))))))
noncomputable def C8:Fn:=fnM 2 4 DJ
noncomputable def CI:MS:=AF (AL 3 (lstM (Ab (Ad (Ag .non)) (Ab (Ad (Ag (.int 0))) (Ab (Ad (Ag (.bl true))) (Ab (Ad (Ag (.str (Str.ofString "")))) (Ab (Ad (Ag (.str (Str.ofString "0")))) (Ab (Ad (A5 Ah)) (Ab (Ad (A5 (Ab (Ad (Ag (.int 0))) Ah))) (Ab (Ad (lstM (Ab (Ad (opM Cb (Ab (Ae 1) Ah))) Ah))) (Ab (Ad (lstM (Ab (Ad (opM GX (m1L (Ag (.int 1))))) Ah))) (Ab (Ad (lstM (Ab (Ad (Ag (.int 0))) (Ab (Ad (Ag (.int 0))) Ah)))) (Ab (Ad (lstM (Ab (Ad (Ag (.int 1))) (Ab (Ad (Ag (.int 0))) Ah)))) (Ab (Ad (lstM (Ab (Ad (Ag (.bl true))) Ah))) (Ab (Ad (lstM (Ab (Ad (Ag (.str (Str.ofString "0")))) Ah))) (Ab (Ad (lstM (Ab (Ad (lstM (Ab (Ad (Ag (.int 0))) Ah))) Ah))) (Ab (Ad (lstM (Ab (Ad (Ag .non)) Ah))) Ah))))))))))))))))) (AF (FD [4] true (Bw (opM Cb (Ab (Ae 1) Ah))) (ifS (AR (opM gtA (m2L (opM Cb (Ab (opM ixA (m2L (Ae 2) (Ae 4))) Ah)) (Ag (.int 1))))) (EZ 3 (Ad (lstM (Ab (Ad (Ae 4)) Ah)))) Bj)) (retS (opM ixA (m2L (Ae 3) (Al Aj (Ab (Ae 0) (Ab (opM Cb (Ab (Ae 3) Ah)) Ah)))))))
noncomputable def B9:Fn:=fnM 3 5 CI
noncomputable def CZ:MS:=AF (AL 2 (Bf (Dr (opM ixA (m2L (Ae 1) (Ag (.int 1))))) 0 Ei (opM ixA (m2L (Ae 0) (Ag (.int 0)))))) (AF (AL 3 (Bf (IE (Ag (.str (Str.ofString "abcdefghijklmnopqrstuvwxyz")))) 0 (AR (opM (inA true) (m2L (Ae 0) (Ae 3)))) (Ae 0))) (AF (AL 4 (opM ixA (m2L (Ae 3) (Al Aj (Ab (Ae 0) (Ab (opM Cb (Ab (Ae 3) Ah)) Ah)))))) (AF (AL 5 (opM ixA (m2L (Ae 2) (Ag (.int 0))))) (AF (AL 6 (lstM (Ab (Ad (Ag .non)) (Ab (Ad (Ag (.int 0))) (Ab (Ad (Ag (.bl true))) (Ab (Ad (lstM Ah)) (Ab (Ad (lstM (Ab (Ad (Ae 5)) Ah))) (Ab (Ad (A5 (Ab (Ad (Ae 5)) Ah))) (Ab (Ad (Ae 4)) (Ab (Ad (opM A4 (m2L (Ae 5) (Ae 4)))) (Ab (Ad (opM A4 (m2L (Ae 4) (Ae 5)))) (Ab (Ad (opM A4 (m2L (Ae 5) (Ag (.str (Str.ofString " ")))))) (Ab (Ad (Ag (.str (Str.ofString " ")))) (Ab (Ad (Ag (.str (Str.ofString "A")))) Ah)))))))))))))) (AF (EZ 6 (Ad (opM A4 (m2L (Ae 5) (Ag (.str (Str.ofString "0"))))))) (retS (opM ixA (m2L (Ae 6) (Al Aj (Ab (Ae 0) (Ab (opM Cb (Ab (Ae 6) Ah)) Ah)))))))))))
noncomputable def Cn:Fn:=fnM 2 7 CZ
noncomputable def Ed:MS:=AF (AL 3 (opM PD (Ab (opM ixA (m2L (Ae 0) (Ag (.int 1)))) Ah))) (retS (opM Ge (Ab (Bf (Dr (opM MB (m2L (Ae 3) (Ae 1)))) 0 Ei (opM (inA false) (m2L (Ae 0) (opM MB (m2L (Ae 4) (Ae 3)))))) Ah)))
noncomputable def Bd:Fn:=fnM 3 4 Ed
noncomputable def DI:MS:=AF (AL 2 (lstM Ah)) (AF (FD [3] true (Bw (opM Cb (Ab (Ae 1) Ah))) (AF (AL 4 (lstM (Ab (Ad (Ae 3)) Ah))) (AF (FD [5] true (L8 (opM C6 (m2L (Ae 3) (Ag (.int 1)))) (opM GX (m1L (Ag (.int 1)))) (opM GX (m1L (Ag (.int 1))))) (ifS (AR (opM Ge (Ab (Bf (Dr (Ae 4)) 0 Ei (Al Bd (Ab (Ae 1) (Ab (opM ixA (m2L (Ae 2) (Ae 6))) (Ab (opM ixA (m2L (Ae 2) (Ae 0))) Ah))))) Ah))) (AL 4 (opM A4 (m2L (lstM (Ab (Ad (Ae 5)) Ah)) (Ae 4)))) Bj)) (EZ 2 (Ae 4))))) (retS (Ae 2)))
noncomputable def C7:Fn:=fnM 2 6 DI
noncomputable def Bp:FnR:=fnR 1 1 (ifR (Dp (AR (Al BC (Ab (Ae 0) Ah)))) (G9 "NoHouse"))
noncomputable def DE:FnR:=fnR 2 3 (Bo Bp (Ab (Ae 0) Ah))
noncomputable def AS:FnR:=fnR 2 2 (HL (Bo DE (Ab (Ae 0) (Ab (Ae 1) Ah))) (ifR (Dp (AR (Al Cz (Ab (Ae 0) (Ab (Ae 1) Ah))))) (G9 "NoRow")))
noncomputable def Di:FnR:=fnR 4 4 (Bo AS (Ab (Ae 0) (Ab (Ae 1) Ah)))
noncomputable def DT:FnR:=fnR 3 3 (Bo AS (Ab (Ae 0) (Ab (Ae 1) Ah)))
noncomputable def GJ:FnR:=fnR 3 3 (Bo AS (Ab (Ae 0) (Ab (Ae 1) Ah)))
noncomputable def B6:FnR:=fnR 3 3 (Bo AS (Ab (Ae 0) (Ab (Ae 1) Ah)))
noncomputable def BF:FnR:=fnR 3 3 (HL (Bo B6 (Ab (Ae 0) (Ab (Ae 1) (Ab (Ae 2) Ah)))) (ifR (Dp (AR (Al C0 (Ab (Ae 0) (Ab (Ae 1) (Ab (Ae 2) Ah)))))) (G9 "NoPast")))
noncomputable def FA:FnR:=fnR 3 7 (Bo BF (Ab (Ae 0) (Ab (Ae 1) (Ab (Ae 2) Ah))))
noncomputable def DD:FnR:=fnR 3 5 (Bo BF (Ab (Ae 0) (Ab (Ae 1) (Ab (Ae 2) Ah))))
noncomputable def A2:FnR:=fnR 2 2 (Bo AS (Ab (Ae 0) (Ab (Ae 1) Ah)))
noncomputable def BI:FnR:=fnR 2 2 (Bo AS (Ab (Ae 0) (Ab (Ae 1) Ah)))
noncomputable def Ey:FnR:=fnR 2 5 (Bo A2 (Ab (Ae 0) (Ab (Ae 1) Ah)))
noncomputable def BE:FnR:=fnR 4 4 (FU (AR (opM eqA (m2L (Ae 0) (Ag (.int 0))))) (Bo Di (Ab (Ae 1) (Ab (Ae 2) (Ab (Ag (.int 0)) (Ab (Ag (.int 0)) Ah))))) (FU (AR (opM eqA (m2L (Ae 0) (Ag (.int 1))))) (Bo DT (Ab (Ae 1) (Ab (Ae 2) (Ab (Ag (.int 0)) Ah)))) (FU (AR (opM eqA (m2L (Ae 0) (Ag (.int 2))))) (Bo GJ (Ab (Ae 1) (Ab (Ae 2) (Ab (Ad (lstM (Ab (Ad (Ag (.int 0))) Ah))) Ah)))) (FU (AR (opM eqA (m2L (Ae 0) (Ag (.int 3))))) (Bo B6 (Ab (Ae 1) (Ab (Ae 2) (Ab (Ae 3) Ah)))) (FU (AR (opM eqA (m2L (Ae 0) (Ag (.int 4))))) (Bo FA (Ab (Ae 1) (Ab (Ae 2) (Ab (Ae 3) Ah)))) (FU (AR (opM eqA (m2L (Ae 0) (Ag (.int 5))))) (Bo DD (Ab (Ae 1) (Ab (Ae 2) (Ab (Ae 3) Ah)))) (FU (AR (opM eqA (m2L (Ae 0) (Ag (.int 6))))) (Bo A2 (Ab (Ae 1) (Ab (Ae 2) Ah))) (FU (AR (opM eqA (m2L (Ae 0) (Ag (.int 7))))) (Bo BI (Ab (Ae 1) (Ab (Ae 2) Ah))) (Bo Ey (Ab (Ae 1) (Ab (Ae 2) Ah)))))))))))
noncomputable def HR (C:Addr) (j:Nat):MS:=AF (AL 1 (lstM (Ab (Ad (opM (Bk C (0 == j)) (m1L (Ae 0)))) (Ab (Ad (opM (Bk C (1 == j)) (m1L (Ae 0)))) (Ab (Ad (opM (Bk C (2 == j)) (m1L (Ae 0)))) (Ab (Ad (opM (Bk C (3 == j)) (m1L (Ae 0)))) Ah)))))) (AF (AL 1 (opM A4 (m2L (Ae 1) (lstM (Ab (Ad (opM (Bk C (4 == j)) (m1L (Ae 0)))) (Ab (Ad (opM (Bk C (5 == j)) (m1L (Ae 0)))) (Ab (Ad (opM (Bk C (6 == j)) (m1L (Ae 0)))) (Ab (Ad (opM (Bk C (7 == j)) (m1L (Ae 0)))) Ah)))))))) (AF (AL 1 (opM A4 (m2L (Ae 1) (lstM (Ab (Ad (opM (Bk C (8 == j)) (m1L (Ae 0)))) (Ab (Ad (opM (Bk C (9 == j)) (m1L (Ae 0)))) (Ab (Ad (opM (Bk C (10 == j)) (m1L (Ae 0)))) (Ab (Ad (opM (Bk C (11 == j)) (m1L (Ae 0)))) Ah)))))))) (AF (AL 1 (opM A4 (m2L (Ae 1) (lstM (Ab (Ad (opM (Bk C (12 == j)) (m1L (Ae 0)))) (Ab (Ad (opM (Bk C (13 == j)) (m1L (Ae 0)))) (Ab (Ad (opM (Bk C (14 == j)) (m1L (Ae 0)))) Ah))))))) (AF (AL 2 (lstM (Ab (Ad (Ag (.str (Str.ofString "NoHouse")))) (Ab (Ad (Ag (.str (Str.ofString "NoRow")))) (Ab (Ad (Ag (.str (Str.ofString "NoMachine")))) (Ab (Ad (Ag (.str (Str.ofString "NoRoom")))) (Ab (Ad (Ag (.str (Str.ofString "NoHand")))) (Ab (Ad (Ag (.str (Str.ofString "Unlike")))) (Ab (Ad (Ag (.str (Str.ofString "NoPast")))) (Ab (Ad (Ag (.str (Str.ofString "TooMany")))) (Ab (Ad (Ag (.str (Str.ofString "Torn")))) (Ab (Ad (Ag (.str (Str.ofString "NoTable")))) Ah)))))))))))) (AF (AL 2 (opM A4 (m2L (Ae 2) (lstM (Ab (Ad (Ag (.str (Str.ofString "NoSet")))) (Ab (Ad (Ag (.str (Str.ofString "Falls")))) (Ab (Ad (Ag (.str (Str.ofString "Whole")))) (Ab (Ad (Ag (.str (Str.ofString "NoText")))) (Ab (Ad (Ag (.str (Str.ofString "NoWord")))) Ah))))))))) (AF (AL 3 (Bf (Bw (Ag (.int 15))) 0 (AR (opM ixA (m2L (Ae 2) (Ae 0)))) (opM ixA (m2L (Ae 3) (Ae 0))))) (AF (ifS (orT (AR (opM neA (m2L (opM Cb (Ab (Ae 3) Ah)) (Ag (.int 1))))) (Dp (AR (opM (Bk C true) (m1L (Ae 0)))))) (retS (Ag (.str (Str.ofString "else")))) Bj) (retS (opM ixA (m2L (Ae 3) (Ag (.int 0))))))))))))
noncomputable def D2 (C:Addr) (j:Nat):Fn:=fnM 1 4 (HR C j)
noncomputable def GL:MS:=AF (Fo) (retS (Ag (.str (Str.ofString "none"))))
noncomputable def Bn:MR:=Bo BE (Ab (Ae 0) (Ab (Ae 1) (Ab (Ae 2) (Ab (Ae 3) Ah))))
noncomputable def Bl:Fn:=Fq 4 5 GL Bn
noncomputable def Ci:MS:=AF (ifS (AR (opM ltA (m2L (Ae 1) (opM Cb (Ab (Ae 0) Ah))))) (retS (opM ixA (m2L (Ae 0) (Ae 1)))) Bj) (retS (Ag (.int 0)))
noncomputable def Dx:Fn:=fnM 2 2 Ci
noncomputable def Cr:MS:=AF (AL 1 (lstM (Ab (Ad (Ag .non)) (Ab (Ad (Ag (.int 0))) (Ab (Ad (Ag (.bl true))) (Ab (Ad (Ag (.str (Str.ofString "")))) (Ab (Ad (Ag (.str (Str.ofString "house")))) (Ab (Ad (A5 Ah)) (Ab (Ad (lstM Ah)) (Ab (Ad (A5 (Ab (Ad (Ag (.int 2))) Ah))) (Ab (Ad (A5 (Ab (Ad (Ag (.int 2))) (Ab (Ad (lstM Ah)) Ah)))) (Ab (Ad (A5 (Ab (Ad (Ag (.int 1))) (Ab (Ad (lstM (Ab (Ad (A5 (Ab (Ad (Ag (.str (Str.ofString "a")))) (Ab (Ad (lstM (Ab (Ad (Ag (.int 0))) Ah))) Ah)))) Ah))) Ah)))) (Ab (Ad (A5 (Ab (Ad (Ag (.int 5))) (Ab (Ad (lstM (Ab (Ad (A5 (Ab (Ad (Ag (.str (Str.ofString "a")))) (Ab (Ad (lstM (Ab (Ad (Ag (.int 0))) Ah))) Ah)))) Ah))) Ah)))) (Ab (Ad (A5 (Ab (Ad (Ag (.str (Str.ofString "2")))) (Ab (Ad (lstM Ah)) Ah)))) Ah)))))))))))))) (AF (AL 1 (opM A4 (m2L (Ae 1) (lstM (Ab (Ad (A5 (Ab (Ad (Ag (.bl true))) (Ab (Ad (lstM (Ab (Ad (A5 (Ab (Ad (Ag (.str (Str.ofString "a")))) (Ab (Ad (lstM (Ab (Ad (Ag (.int 0))) Ah))) Ah)))) Ah))) Ah)))) (Ab (Ad (lstM (Ab (Ad (Ag (.int 2))) (Ab (Ad (lstM (Ab (Ad (A5 (Ab (Ad (Ag (.str (Str.ofString "a")))) (Ab (Ad (lstM (Ab (Ad (Ag (.int 0))) Ah))) Ah)))) Ah))) Ah)))) (Ab (Ad (A5 (Ab (Ad (Ag (.int 2))) (Ab (Ad (A5 (Ab (Ad (A5 (Ab (Ad (Ag (.str (Str.ofString "a")))) (Ab (Ad (lstM (Ab (Ad (Ag (.int 0))) Ah))) Ah)))) Ah))) Ah)))) (Ab (Ad (A5 (Ab (Ad (Ag (.int 2))) (Ab (Ad (lstM (Ab (Ad (lstM (Ab (Ad (Ag (.str (Str.ofString "a")))) (Ab (Ad (lstM (Ab (Ad (Ag (.int 0))) Ah))) Ah)))) Ah))) Ah)))) (Ab (Ad (A5 (Ab (Ad (Ag (.int 2))) (Ab (Ad (lstM (Ab (Ad (A5 (Ab (Ad (Ag (.str (Str.ofString "a")))) (Ab (Ad (lstM Ah)) Ah)))) Ah))) Ah)))) Ah))))))))) (AF (AL 1 (opM A4 (m2L (Ae 1) (lstM (Ab (Ad (A5 (Ab (Ad (Ag (.int 2))) (Ab (Ad (lstM (Ab (Ad (A5 (Ab (Ad (Ag (.str (Str.ofString "a")))) (Ab (Ad (lstM (Ab (Ad (Ag (.int 2))) Ah))) Ah)))) Ah))) Ah)))) (Ab (Ad (A5 (Ab (Ad (Ag (.int 2))) (Ab (Ad (lstM (Ab (Ad (A5 (Ab (Ad (Ag (.str (Str.ofString "a")))) (Ab (Ad (lstM (Ab (Ad (Ag (.int 1))) (Ab (Ad (Ag (.int 0))) Ah)))) Ah)))) Ah))) Ah)))) (Ab (Ad (A5 (Ab (Ad (Ag (.int 2))) (Ab (Ad (lstM (Ab (Ad (A5 (Ab (Ad (Ag (.str (Str.ofString "a")))) (Ab (Ad (lstM (Ab (Ad (Ag (.int 0))) (Ab (Ad (Ag (.int 0))) Ah)))) Ah)))) Ah))) Ah)))) (Ab (Ad (A5 (Ab (Ad (Ag (.int 2))) (Ab (Ad (lstM (Ab (Ad (A5 (Ab (Ad (Ag (.str (Str.ofString "a")))) (Ab (Ad (A5 (Ab (Ad (Ag (.int 0))) Ah))) Ah)))) Ah))) Ah)))) Ah)))))))) (AF (AL 1 (opM A4 (m2L (Ae 1) (lstM (Ab (Ad (A5 (Ab (Ad (Ag (.int 2))) (Ab (Ad (lstM (Ab (Ad (A5 (Ab (Ad (Ag (.str (Str.ofString "a")))) (Ab (Ad (lstM (Ab (Ad (Ag (.bl true))) Ah))) Ah)))) Ah))) Ah)))) (Ab (Ad (A5 (Ab (Ad (Ag (.int 2))) (Ab (Ad (lstM (Ab (Ad (A5 (Ab (Ad (Ag (.str (Str.ofString "A")))) (Ab (Ad (lstM (Ab (Ad (Ag (.int 0))) Ah))) Ah)))) Ah))) Ah)))) (Ab (Ad (A5 (Ab (Ad (Ag (.int 2))) (Ab (Ad (lstM (Ab (Ad (A5 (Ab (Ad (Ag (.str (Str.ofString "ab")))) (Ab (Ad (lstM (Ab (Ad (Ag (.int 0))) Ah))) Ah)))) Ah))) Ah)))) (Ab (Ad (A5 (Ab (Ad (Ag (.int 2))) (Ab (Ad (lstM (Ab (Ad (A5 (Ab (Ad (Ag (.str (Str.ofString "")))) (Ab (Ad (lstM (Ab (Ad (Ag (.int 0))) Ah))) Ah)))) Ah))) Ah)))) (Ab (Ad (A5 (Ab (Ad (Ag (.int 2))) (Ab (Ad (lstM (Ab (Ad (A5 (Ab (Ad (Ag (.str (Str.ofString "a")))) (Ab (Ad (lstM (Ab (Ad (opM GX (m1L (Ag (.int 1))))) Ah))) Ah)))) Ah))) Ah)))) Ah))))))))) (AF (AL 1 (opM A4 (m2L (Ae 1) (lstM (Ab (Ad (A5 (Ab (Ad (Ag (.int 2))) (Ab (Ad (lstM (Ab (Ad (A5 (Ab (Ad (Ag (.str (Str.ofString "b")))) (Ab (Ad (lstM (Ab (Ad (Ag (.int 0))) Ah))) Ah)))) (Ab (Ad (A5 (Ab (Ad (Ag (.str (Str.ofString "a")))) (Ab (Ad (lstM (Ab (Ad (Ag (.int 1))) Ah))) Ah)))) Ah)))) Ah)))) (Ab (Ad (A5 (Ab (Ad (Ag (.int 2))) (Ab (Ad (lstM (Ab (Ad (A5 (Ab (Ad (Ag (.str (Str.ofString "a")))) (Ab (Ad (lstM (Ab (Ad (Ag (.int 0))) Ah))) Ah)))) (Ab (Ad (A5 (Ab (Ad (Ag (.str (Str.ofString "a")))) (Ab (Ad (lstM (Ab (Ad (Ag (.int 1))) Ah))) Ah)))) Ah)))) Ah)))) (Ab (Ad (A5 (Ab (Ad (Ag (.int 2))) (Ab (Ad (lstM (Ab (Ad (A5 (Ab (Ad (Ag (.str (Str.ofString "a")))) (Ab (Ad (lstM (Ab (Ad (Ag (.int 0))) Ah))) Ah)))) Ah))) (Ab (Ad (Ag (.int 0))) Ah))))) Ah))))))) (AF (AL 1 (opM A4 (m2L (Ae 1) (lstM (Ab (Ad (A5 (Ab (Ad (Ag (.int 3))) (Ab (Ad (Bf (IE (Ag (.str (Str.ofString "abcdefg")))) 0 Ei (A5 (Ab (Ad (Ae 0)) (Ab (Ad (lstM (Ab (Ad (Ag (.int 0))) Ah))) Ah))))) Ah)))) Ah))))) (retS (opM ixA (m2L (Ae 1) (Al Aj (Ab (Ae 0) (Ab (opM Cb (Ab (Ae 1) Ah)) Ah)))))))))))
noncomputable def BY:Fn:=fnM 1 2 Cr
noncomputable def JO:MS:=AF (FD [1] true (Bw (opM Uq (Ab (Ag (.int 1)) (Ab (opM Ur (Ab (Ag (.int 12)) (Ab (opM Cb (Ab (Ae 0) Ah)) Ah))) Ah)))) (AF (K6 [2,3,4] (Al C8 (Ab (opM A4 (m2L (Al Dx (Ab (Ae 0) (Ab (Ae 1) Ah))) (Ae 1))) (Ab (Ag (.int 6)) Ah)))) (AF (AL 4 (opM Q8 (m2L (Ae 4) (Ag (.int 12))))) (AF (AL 5 (Al Aj (Ab (Ae 2) (Ab (Ag (.int 9)) Ah)))) (AF (AL 6 (Al B9 (Ab (Ae 2) (Ab (Ae 4) (Ab (Al C7 (Ab (Ae 3) (Ab (Ae 4) Ah))) Ah))))) (AF (AL 7 (Al Cn (Ab (Ae 2) (Ab (Ae 3) Ah)))) (AF (ifS (AR (opM neA (m2L (Al Bl (Ab (Ae 5) (Ab (Al BY (Ab (Ae 2) Ah)) (Ab (opM ixA (m2L (lstM (Ab (Ad (Ae 7)) (Ab (Ad (Ae 4)) Ah))) (Al Aj (Ab (Ae 2) (Ab (Ag (.int 2)) Ah))))) (Ab (Ae 6) Ah))))) (Ag (.str (Str.ofString "NoHouse")))))) (retS (Ag (.bl false))) Bj) (AF (ifS (AR (opM neA (m2L (Al Bl (Ab (Ae 5) (Ab (Ae 3) (Ab (Ae 7) (Ab (opM ixA (m2L (lstM (Ab (Ad (Ae 6)) (Ab (Ad (lstM Ah)) Ah))) (Al Aj (Ab (Ae 2) (Ab (Ag (.int 2)) Ah))))) Ah))))) (Ag (.str (Str.ofString "NoRow")))))) (retS (Ag (.bl false))) Bj) (AF (ifS (AR (opM TY (m2L (Al C0 (Ab (Ae 3) (Ab (Ae 4) (Ab (Ae 6) Ah)))) (Ag (.bl false))))) (retS (Ag (.bl false))) Bj) (ifS (AR (opM neA (m2L (Al Bl (Ab (opM A4 (m2L (Ag (.int 4)) (Al Aj (Ab (Ae 2) (Ab (Ag (.int 2)) Ah))))) (Ab (Ae 3) (Ab (Ae 4) (Ab (Ae 6) Ah))))) (Ag (.str (Str.ofString "NoPast")))))) (retS (Ag (.bl false))) Bj)))))))))) (retS (Ag (.bl true)))
noncomputable def GQ:Fn:=fnM 1 8 JO
local macro_rules | `(tactic| walk_at $s:str)=>do
 let n:=s.getString
 if n.startsWith "v" && n.length < 4 && n != "vis" then `(tactic| exact Qj $(Lean.quote (n.drop 1).toNat!) rfl (by walk_at "vis") dK dK) else Lean.Macro.throwUnsupported
local macro_rules | `(tactic| walk_at "vis")=>`(tactic| first | exact .inl rfl | exact .inr (.inl rfl) | exact .inr (.inr rfl))
local macro_rules | `(tactic| walk_at "loc")=>`(tactic| first | exact .inl rfl | exact .inr rfl)
structure Blt2 (mg:Str→Option Value):Prop where
 sorted:mg "sorted" = none
 set:mg "set" = none
 enumerate:mg "enumerate" = none
 zip:mg "zip" = none
section
variable {P:Program} {w:World} {K:Frag} {mg:Str→Option Value} {base:Heap} {XC:Str→Addr}
theorem M9 {f:Addr} {fd:FuncData} (F:Fun K "is_pair" "is_pair" (top 3) f fd) (B:Blt mg K) (B2:Blt2 mg) :
  FnOk P w K mg base CX0 1 f fd ["thing"] (spJ K Ct 1):=by
 refine Bs (N:=["thing"]) F ⟨rfl,rfl,rfl,dK,rfl,dK,dK⟩ fun cdv A outer s H E hr=>?_
 refine An ?_
 refine AH ?_
 refine Ee ?_ ?_
 refine Ua rfl rfl B rfl rfl ?_
 walk_at "v0"
 refine EL ?_
 refine Fb D6 (CN hr) (Bm _) ?_ ?_
 refine AE BP A1 B.len Boot.«len» dK dK rfl rfl rfl ?_
 refine Aa rfl ?_ ?_
 walk_at "v0"
 exact Af
 exact Ai
theorem LQ {f:Addr} {fd:FuncData} (F:Fun K "is_whole" "is_whole" (top 1) f fd) (B:Blt mg K) (B2:Blt2 mg) :
  FnOk P w K mg base CX0 1 f fd ["thing"] (spJ K B3 1):=by
 refine Bs (N:=["thing"]) F ⟨rfl,rfl,rfl,dK,rfl,dK,dK⟩ fun cdv A outer s H E hr=>?_
 refine An ?_
 refine AH ?_
 refine Ee ?_ ?_
 refine T9 rfl rfl B rfl rfl ?_
 walk_at "v0"
 refine EL ?_
 refine Uc ?_
 refine T8 rfl rfl B rfl rfl ?_
 walk_at "v0"
theorem Ff {f:Addr} {fd:FuncData} (F:Fun K "is_count_of_hands" "is_count_of_hands" (top 29) f fd) (B:Blt mg K) (B2:Blt2 mg) (CW:Def P w K mg base CX0 1 "is_whole" ["thing"] (spJ K B3 1)) (DO:GInt mg "FEWEST_HANDS" 2) (EJ:GInt mg "MOST_HANDS" 4) :
  FnOk P w K mg base CX0 2 f fd ["thing"] (spJ K Bg 1):=by
 refine Bs (N:=["thing"]) F ⟨rfl,rfl,rfl,dK,rfl,dK,dK⟩ fun cdv A outer s H E hr=>?_
 refine An ?_
 refine AH ?_
 refine Ee ?_ ?_
 refine Ap CW Ar rfl rfl rfl rfl rfl hr (by decide) AM dK rfl rfl rfl ?_
 refine Aa rfl ?_ ?_
 walk_at "v0"
 exact Af
 refine EL ?_
 refine MQ Ig Ig EN EN (by with_unfolding_all rfl) ?_ ?_ ?_
 exact J6 DO rfl dK
 walk_at "v0"
 exact J6 EJ rfl dK
theorem F8 {f:Addr} {fd:FuncData} (F:Fun K "is_number_below" "is_number_below" (top 2) f fd) (B:Blt mg K) (B2:Blt2 mg) (CW:Def P w K mg base CX0 1 "is_whole" ["thing"] (spJ K B3 1)) :
  FnOk P w K mg base CX0 2 f fd ["thing","bound"] (spJ K Bb 2):=by
 refine Bs (N:=["thing","bound"]) F ⟨rfl,rfl,rfl,dK,rfl,dK,dK⟩ fun cdv A outer s H E hr=>?_
 refine An ?_
 refine AH ?_
 refine Ee ?_ ?_
 refine Ap CW Ar rfl rfl rfl rfl rfl hr (by decide) AM dK rfl rfl rfl ?_
 refine Aa rfl ?_ ?_
 walk_at "v0"
 exact Af
 refine EL ?_
 refine MQ Ig N7 EN HD (by with_unfolding_all rfl) ?_ ?_ ?_
 exact Ai
 walk_at "v0"
 walk_at "v1"
theorem Fd {f:Addr} {fd:FuncData} (F:Fun K "are_numbers_below" "are_numbers_below" (top 5) f fd) (B:Blt mg K) (B2:Blt2 mg) (CF:Def P w K mg base CX0 2 "is_number_below" ["thing","bound"] (spJ K Bb 2)) :
  FnOk P w K mg base CX0 3 f fd ["things","bound"] (spJ K BB 2):=by
 refine Bs (N:=["things","bound"]) F ⟨rfl,rfl,rfl,dK,rfl,dK,dK⟩ fun cdv A outer s H E hr=>?_
 have nd2:List.Nodup (["things","bound"]:List Str):=by decide +kernel
 refine An ?_
 refine AH ?_
 refine AE Ib (E4 rfl) B.all Boot.«all» dK dK rfl rfl rfl ?_
 refine Aa rfl ?_ ?_
 refine Dm (by rfl) rfl nd2 (by rfl) (fun _=>rfl) ?_ ?_ ?_
 refine FY ?_
 walk_at "v0"
 exact CM
 intro _ _ _ _ _
 refine Ap CF Ar rfl rfl rfl rfl rfl hr (by decide) AM dK rfl rfl rfl ?_
 refine Aa rfl ?_ ?_
 walk_at "v0"
 refine Aa rfl ?_ ?_
 walk_at "v2"
 exact Af
 exact Af
theorem Dz {f:Addr} {fd:FuncData} (F:Fun K "is_list_of_numbers_below" "is_list_of_numbers_below" (top 4) f fd) (B:Blt mg K) (B2:Blt2 mg) (Cd:Def P w K mg base CX0 3 "are_numbers_below" ["things","bound"] (spJ K BB 2)) :
  FnOk P w K mg base CX0 4 f fd ["thing","bound"] (spJ K AU 2):=by
 refine Bs (N:=["thing","bound"]) F ⟨rfl,rfl,rfl,dK,rfl,dK,dK⟩ fun cdv A outer s H E hr=>?_
 refine An ?_
 refine AH ?_
 refine Ee ?_ ?_
 refine Qg rfl rfl B rfl rfl ?_
 walk_at "v0"
 refine EL ?_
 refine Ap Cd Ar rfl rfl rfl rfl rfl hr (by decide) AM dK rfl rfl rfl ?_
 refine Aa rfl ?_ ?_
 walk_at "v0"
 refine Aa rfl ?_ ?_
 walk_at "v1"
 exact Af
theorem Ew {f:Addr} {fd:FuncData} (F:Fun K "is_rising_list_below" "is_rising_list_below" (top 6) f fd) (B:Blt mg K) (B2:Blt2 mg) (Bq:Def P w K mg base CX0 4 "is_list_of_numbers_below" ["thing","bound"] (spJ K AU 2)) :
  FnOk P w K mg base CX0 5 f fd ["thing","bound"] (spJ K AG 2):=by
 refine Bs (N:=["thing","bound"]) F ⟨rfl,rfl,rfl,dK,rfl,dK,dK⟩ fun cdv A outer s H E hr=>?_
 have nd2:List.Nodup (["thing","bound"]:List Str):=by decide +kernel
 refine Ak ?_ ?_
 refine B4 ?_ ?_ ?_
 refine CL ?_
 refine Cg (fun _=>rfl) ?_
 refine Ap Bq Ar rfl rfl rfl rfl rfl hr (by decide) AM dK rfl rfl rfl ?_
 refine Aa rfl ?_ ?_
 walk_at "v0"
 refine Aa rfl ?_ ?_
 walk_at "v1"
 exact Af
 refine An ?_
 refine AH ?_
 exact CB
 exact Ba
 refine An ?_
 refine AH ?_
 refine AE Ib (E4 rfl) B.all Boot.«all» dK dK rfl rfl rfl ?_
 refine Aa rfl ?_ ?_
 refine Dm (by rfl) rfl nd2 (by rfl) (fun _=>rfl) ?_ ?_ ?_
 refine D3 rfl B.range rfl ?_
 refine AA G1 G3 ?_ ?_
 refine AE BP A1 B.len Boot.«len» dK dK rfl rfl rfl ?_
 refine Aa rfl ?_ ?_
 walk_at "v0"
 exact Af
 exact Ai
 exact CM
 intro _ _ _ _ _
 refine Fb N7 HD (Bm _) ?_ ?_
 refine AX AY AD (fun _ _=>rfl) ?_ ?_
 walk_at "v1"
 walk_at "v0"
 refine AX AY AD (fun _ _=>rfl) ?_ ?_
 walk_at "v1"
 refine AA A6 AW ?_ ?_
 walk_at "v0"
 exact Ai
 exact Af
theorem F9 {f:Addr} {fd:FuncData} (F:Fun K "is_small_letter" "is_small_letter" (top 32) f fd) (B:Blt mg K) (B2:Blt2 mg) :
  FnOk P w K mg base CX0 1 f fd ["thing"] (spJ K Br 1):=by
 refine Bs (N:=["thing"]) F ⟨rfl,rfl,rfl,dK,rfl,dK,dK⟩ fun cdv A outer s H E hr=>?_
 refine An ?_
 refine AH ?_
 refine Ee ?_ ?_
 refine Qh rfl rfl B rfl rfl ?_
 walk_at "v0"
 refine Ee ?_ ?_
 refine Fb D6 (CN hr) (Bm _) ?_ ?_
 refine AE BP A1 B.len Boot.«len» dK dK rfl rfl rfl ?_
 refine Aa rfl ?_ ?_
 walk_at "v0"
 exact Af
 exact Ai
 refine EL ?_
 refine MQ Ig Ig EN EN (by with_unfolding_all rfl) ?_ ?_ ?_
 exact Av dK
 walk_at "v0"
 exact Av dK
theorem LO {f:Addr} {fd:FuncData} (F:Fun K "is_entry" "is_entry" (top 31) f fd) (B:Blt mg K) (B2:Blt2 mg) (AZ:Def P w K mg base CX0 5 "is_rising_list_below" ["thing","bound"] (spJ K AG 2)) (DA:Def P w K mg base CX0 1 "is_pair" ["thing"] (spJ K Ct 1)) (CG:Def P w K mg base CX0 1 "is_small_letter" ["thing"] (spJ K Br 1)) :
  FnOk P w K mg base CX0 6 f fd ["hands","thing"] (spJ K Cy 2):=by
 refine Bs (N:=["hands","thing"]) F ⟨rfl,rfl,rfl,dK,rfl,dK,dK⟩ fun cdv A outer s H E hr=>?_
 refine Ak ?_ ?_
 refine B4 ?_ ?_ ?_
 refine Ka ?_
 refine Qp ?_ ?_
 refine CL ?_
 refine Cg (fun _=>rfl) ?_
 refine Ap DA Ar rfl rfl rfl rfl rfl hr (by decide) AM dK rfl rfl rfl ?_
 refine Aa rfl ?_ ?_
 walk_at "v1"
 exact Af
 refine MX ?_
 refine CL ?_
 refine Cg (fun _=>rfl) ?_
 refine Ap CG Ar rfl rfl rfl rfl rfl hr (by decide) AM dK rfl rfl rfl ?_
 refine Aa rfl ?_ ?_
 refine AX AY AD (fun _ _=>rfl) ?_ ?_
 walk_at "v1"
 exact Ai
 exact Af
 refine An ?_
 refine AH ?_
 exact CB
 exact Ba
 refine An ?_
 refine AH ?_
 refine Ee ?_ ?_
 refine Ap AZ Ar rfl rfl rfl rfl rfl hr (by decide) AM dK rfl rfl rfl ?_
 refine Aa rfl ?_ ?_
 refine AX AY AD (fun _ _=>rfl) ?_ ?_
 walk_at "v1"
 exact Ai
 refine Aa rfl ?_ ?_
 walk_at "v0"
 exact Af
 refine EL ?_
 refine Fb Tf Tg (Bm _) ?_ ?_
 refine AE BP A1 B.len Boot.«len» dK dK rfl rfl rfl ?_
 refine Aa rfl ?_ ?_
 refine AX AY AD (fun _ _=>rfl) ?_ ?_
 walk_at "v1"
 exact Ai
 exact Af
 exact Ai
theorem Ic {f:Addr} {fd:FuncData} (F:Fun K "are_entries" "are_entries" (top 30) f fd) (B:Blt mg K) (B2:Blt2 mg) (FO:Def P w K mg base CX0 6 "is_entry" ["hands","thing"] (spJ K Cy 2)) (DP:GInt mg "MOST_LETTERS" 6) :
  FnOk P w K mg base CX0 7 f fd ["hands","thing"] (spJ K CJ 2):=by
 refine Bs (N:=["hands","thing"]) F ⟨rfl,rfl,rfl,dK,rfl,dK,dK⟩ fun cdv A outer s H E hr=>?_
 have nd2:List.Nodup (["hands","thing"]:List Str):=by decide +kernel
 refine Ak ?_ ?_
 refine B4 ?_ ?_ ?_
 refine Ka ?_
 refine Qp ?_ ?_
 refine CL ?_
 refine Cg (fun _=>rfl) ?_
 refine Qg rfl rfl B rfl rfl ?_
 walk_at "v1"
 refine MX ?_
 refine CL ?_
 refine Ui Ig Ig EN EN (by with_unfolding_all rfl) ?_ ?_ ?_
 exact Ai
 refine AE BP A1 B.len Boot.«len» dK dK rfl rfl rfl ?_
 refine Aa rfl ?_ ?_
 walk_at "v1"
 exact Af
 exact J6 DP rfl dK
 refine An ?_
 refine AH ?_
 exact CB
 exact Ba
 refine Ak ?_ ?_
 refine B4 ?_ ?_ ?_
 refine CL ?_
 refine Cg (fun _=>rfl) ?_
 refine AE Ib (E4 rfl) B.all Boot.«all» dK dK rfl rfl rfl ?_
 refine Aa rfl ?_ ?_
 refine Dm (by rfl) rfl nd2 (by rfl) (fun _=>rfl) ?_ ?_ ?_
 refine FY ?_
 walk_at "v1"
 exact CM
 intro _ _ _ _ _
 refine Ap FO Ar rfl rfl rfl rfl rfl hr (by decide) AM dK rfl rfl rfl ?_
 refine Aa rfl ?_ ?_
 walk_at "v1"
 refine Aa rfl ?_ ?_
 walk_at "v0"
 exact Af
 exact Af
 refine An ?_
 refine AH ?_
 exact CB
 exact Ba
 refine An ?_
 refine AH ?_
 refine AE Ib (E4 rfl) B.all Boot.«all» dK dK rfl rfl rfl ?_
 refine Aa rfl ?_ ?_
 refine Dm (by rfl) rfl nd2 (by rfl) (fun _=>rfl) ?_ ?_ ?_
 refine D3 rfl B.range rfl ?_
 refine AA G1 G3 ?_ ?_
 refine AE BP A1 B.len Boot.«len» dK dK rfl rfl rfl ?_
 refine Aa rfl ?_ ?_
 walk_at "v1"
 exact Af
 exact Ai
 exact CM
 intro _ _ _ _ _
 refine Fb N7 HD (Bm _) ?_ ?_
 refine AX AY AD (fun _ _=>rfl) ?_ ?_
 refine AX AY AD (fun _ _=>rfl) ?_ ?_
 walk_at "v2"
 walk_at "v0"
 exact Ai
 refine AX AY AD (fun _ _=>rfl) ?_ ?_
 refine AX AY AD (fun _ _=>rfl) ?_ ?_
 walk_at "v2"
 refine AA A6 AW ?_ ?_
 walk_at "v0"
 exact Ai
 exact Ai
 exact Af
theorem LP {f:Addr} {fd:FuncData} (F:Fun K "is_house" "is_house" (top 28) f fd) (B:Blt mg K) (B2:Blt2 mg) (DA:Def P w K mg base CX0 1 "is_pair" ["thing"] (spJ K Ct 1)) (Ce:Def P w K mg base CX0 2 "is_count_of_hands" ["thing"] (spJ K Bg 1)) (Ea:Def P w K mg base CX0 7 "are_entries" ["hands","thing"] (spJ K CJ 2)) :
  FnOk P w K mg base CX0 8 f fd ["thing"] (spJ K BC 1):=by
 refine Bs (N:=["thing"]) F ⟨rfl,rfl,rfl,dK,rfl,dK,dK⟩ fun cdv A outer s H E hr=>?_
 refine Ak ?_ ?_
 refine B4 ?_ ?_ ?_
 refine CL ?_
 refine Cg (fun _=>rfl) ?_
 refine Ap DA Ar rfl rfl rfl rfl rfl hr (by decide) AM dK rfl rfl rfl ?_
 refine Aa rfl ?_ ?_
 walk_at "v0"
 exact Af
 refine An ?_
 refine AH ?_
 exact CB
 exact Ba
 refine An ?_
 refine AH ?_
 refine Ee ?_ ?_
 refine Ap Ce Ar rfl rfl rfl rfl rfl hr (by decide) AM dK rfl rfl rfl ?_
 refine Aa rfl ?_ ?_
 refine AX AY AD (fun _ _=>rfl) ?_ ?_
 walk_at "v0"
 exact Ai
 exact Af
 refine EL ?_
 refine Ap Ea Ar rfl rfl rfl rfl rfl hr (by decide) AM dK rfl rfl rfl ?_
 refine Aa rfl ?_ ?_
 refine AX AY AD (fun _ _=>rfl) ?_ ?_
 walk_at "v0"
 exact Ai
 refine Aa rfl ?_ ?_
 refine AX AY AD (fun _ _=>rfl) ?_ ?_
 walk_at "v0"
 exact Ai
 exact Af
theorem Jb {f:Addr} {fd:FuncData} (F:Fun K "need_house" "need_house" (top 33) f fd) (B:Blt mg K) (B2:Blt2 mg) (CV:Def P w K mg base CX0 8 "is_house" ["thing"] (spJ K BC 1)) :
  FnOk P w K mg base CX0 9 f fd ["house"] (spJ K Cm 1):=by
 refine Bs (N:=["house"]) F ⟨rfl,rfl,rfl,dK,rfl,dK,dK⟩ fun cdv A outer s H E hr=>?_
 refine An ?_
 refine B4 ?_ ?_ ?_
 refine CL ?_
 refine Cg (fun _=>rfl) ?_
 refine Ap CV Ar rfl rfl rfl rfl rfl hr (by decide) AM dK rfl rfl rfl ?_
 refine Aa rfl ?_ ?_
 walk_at "v0"
 exact Af
 refine An ?_
 exact Lx
 exact Ba
theorem Ja {f:Addr} {fd:FuncData} (F:Fun K "letters_of" "letters_of" (top 34) f fd) (B:Blt mg K) (B2:Blt2 mg) :
  FnOk P w K mg base CX0 1 f fd ["house"] (spJ K BV 1):=by
 refine Bs (N:=["house"]) F ⟨rfl,rfl,rfl,dK,rfl,dK,dK⟩ fun cdv A outer s H E hr=>?_
 have nd1:List.Nodup (["house"]:List Str):=by decide +kernel
 refine An ?_
 refine AH ?_
 refine RP rfl rfl B rfl ?_ ?_
 exact Av dK
 refine Dm (by rfl) rfl nd1 (by rfl) (fun _=>rfl) ?_ ?_ ?_
 refine FY ?_
 refine AX AY AD (fun _ _=>rfl) ?_ ?_
 walk_at "v0"
 exact Ai
 exact CM
 intro _ _ _ _ _
 refine AX AY AD (fun _ _=>rfl) ?_ ?_
 walk_at "v0"
 exact Ai
theorem OX {f:Addr} {fd:FuncData} (F:Fun K "is_row" "is_row" (top 37) f fd) (B:Blt mg K) (B2:Blt2 mg) (EG:Def P w K mg base CX0 9 "need_house" ["house"] (spJ K Cm 1)) (B8:Def P w K mg base CX0 1 "letters_of" ["house"] (spJ K BV 1)) :
  FnOk P w K mg base CX0 10 f fd ["house","thing"] (spJ K Cz 2):=by
 refine Bs (N:=["house","thing","letters"]) F ⟨rfl,rfl,rfl,dK,rfl,dK,dK⟩ fun cdv A outer s H E hr=>?_
 have nd3:List.Nodup (["house","thing","letters"]:List Str):=by decide +kernel
 refine Ak ?_ ?_
 refine Qo rfl ?_
 refine Ap EG Ar rfl rfl rfl rfl rfl hr (by decide) AM dK rfl rfl rfl ?_
 refine Aa rfl ?_ ?_
 walk_at "v0"
 exact Af
 refine Ak ?_ ?_
 refine B4 ?_ ?_ ?_
 refine CL ?_
 refine Cg (fun _=>rfl) ?_
 refine Qh rfl rfl B rfl rfl ?_
 walk_at "v1"
 refine An ?_
 refine AH ?_
 exact CB
 exact Ba
 refine Ak ?_ ?_
 refine AK 2 nd3 rfl (by walk_at "loc") rfl rfl ?_
 refine Ap B8 Ar rfl rfl rfl rfl rfl hr (by decide) AM dK rfl rfl rfl ?_
 refine Aa rfl ?_ ?_
 walk_at "v0"
 exact Af
 refine An ?_
 refine AH ?_
 refine AE Ib (E4 rfl) B.all Boot.«all» dK dK rfl rfl rfl ?_
 refine Aa rfl ?_ ?_
 refine Dm (by rfl) rfl nd3 (by rfl) (fun _=>rfl) ?_ ?_ ?_
 refine MU ?_
 walk_at "v1"
 exact CM
 intro _ _ _ _ _
 refine Fb (LM false) Nf (by with_unfolding_all rfl) ?_ ?_
 walk_at "v0"
 walk_at "v3"
 exact Af
theorem LR {f:Addr} {fd:FuncData} (F:Fun K "need_row" "need_row" (top 38) f fd) (B:Blt mg K) (B2:Blt2 mg) (Ej:Def P w K mg base CX0 10 "is_row" ["house","thing"] (spJ K Cz 2)) :
  FnOk P w K mg base CX0 11 f fd ["house","row"] (spJ K Dh 2):=by
 refine Bs (N:=["house","row"]) F ⟨rfl,rfl,rfl,dK,rfl,dK,dK⟩ fun cdv A outer s H E hr=>?_
 refine An ?_
 refine B4 ?_ ?_ ?_
 refine CL ?_
 refine Cg (fun _=>rfl) ?_
 refine Ap Ej Ar rfl rfl rfl rfl rfl hr (by decide) AM dK rfl rfl rfl ?_
 refine Aa rfl ?_ ?_
 walk_at "v0"
 refine Aa rfl ?_ ?_
 walk_at "v1"
 exact Af
 refine An ?_
 exact Lx
 exact Ba
theorem LL {f:Addr} {fd:FuncData} (F:Fun K "hands_of" "hands_of" (top 35) f fd) (B:Blt mg K) (B2:Blt2 mg) (B8:Def P w K mg base CX0 1 "letters_of" ["house"] (spJ K BV 1)) :
  FnOk P w K mg base CX0 2 f fd ["house","letter"] (spJ K D1 2):=by
 refine Bs (N:=["house","letter"]) F ⟨rfl,rfl,rfl,dK,rfl,dK,dK⟩ fun cdv A outer s H E hr=>?_
 refine An ?_
 refine AH ?_
 refine AX AY AD (fun _ _=>rfl) ?_ ?_
 refine AX AY AD (fun _ _=>rfl) ?_ ?_
 refine AX AY AD (fun _ _=>rfl) ?_ ?_
 walk_at "v0"
 exact Ai
 refine Qf rfl rfl B rfl rfl ?_ ?_
 refine Ap B8 Ar rfl rfl rfl rfl rfl hr (by decide) AM dK rfl rfl rfl ?_
 refine Aa rfl ?_ ?_
 walk_at "v0"
 exact Af
 walk_at "v1"
 exact Ai
theorem F7 {f:Addr} {fd:FuncData} (F:Fun K "is_hand_in_both" "is_hand_in_both" (top 36) f fd) (B:Blt mg K) (B2:Blt2 mg) :
  FnOk P w K mg base CX0 1 f fd ["hands","others"] (spJ K BN 2):=by
 refine Bs (N:=["hands","others"]) F ⟨rfl,rfl,rfl,dK,rfl,dK,dK⟩ fun cdv A outer s H E hr=>?_
 have nd2:List.Nodup (["hands","others"]:List Str):=by decide +kernel
 refine An ?_
 refine AH ?_
 refine AE M8 (HP rfl) B.any Boot.«any» dK dK rfl rfl rfl ?_
 refine Aa rfl ?_ ?_
 refine Dm (by rfl) rfl nd2 (by rfl) (fun _=>rfl) ?_ ?_ ?_
 refine FY ?_
 walk_at "v0"
 exact CM
 intro _ _ _ _ _
 refine Fb (LM false) Nf (by with_unfolding_all rfl) ?_ ?_
 walk_at "v0"
 walk_at "v2"
 exact Af
theorem IZ {f:Addr} {fd:FuncData} (F:Fun K "are_closed" "are_closed" (top 46) f fd) (B:Blt mg K) (B2:Blt2 mg) (FN:Def P w K mg base CX0 2 "hands_of" ["house","letter"] (spJ K D1 2)) (CD:Def P w K mg base CX0 1 "is_hand_in_both" ["hands","others"] (spJ K BN 2)) :
  FnOk P w K mg base CX0 3 f fd ["house","row","places"] (spJ K Dc 3):=by
 refine Bs (N:=["house","row","places","beyond","place","letter","doers"]) F ⟨rfl,rfl,rfl,dK,rfl,dK,dK⟩ fun cdv A outer s H E hr=>?_
 have nd7:List.Nodup (["house","row","places","beyond","place","letter","doers"]:List Str):=by decide +kernel
 refine Ak ?_ ?_
 refine AK 3 nd7 rfl (by walk_at "loc") rfl rfl ?_
 refine Am ?_
 exact Af
 refine Ak ?_ ?_
 refine FZ PassesOwn.never rfl ?_ ?_ ?_ (fun _=>rfl)
 refine RS rfl B2.enumerate rfl ?_
 walk_at "v1"
 refine Od rfl ?_ rfl rfl
 refine Fg 4 nd7 rfl (by walk_at "loc") rfl ?_ rfl
 refine Fg 5 nd7 rfl (by walk_at "loc") rfl ?_ rfl
 exact Of
 refine Ak ?_ ?_
 refine AK 6 nd7 rfl (by walk_at "loc") rfl rfl ?_
 refine Ap FN Ar rfl rfl rfl rfl rfl hr (by decide) AM dK rfl rfl rfl ?_
 refine Aa rfl ?_ ?_
 walk_at "v0"
 refine Aa rfl ?_ ?_
 walk_at "v5"
 exact Af
 refine An ?_
 refine B4 ?_ ?_ ?_
 refine BA (LM true) Ju (by with_unfolding_all rfl) ?_ ?_
 walk_at "v4"
 walk_at "v2"
 refine An ?_
 refine Ue 3 rfl (by walk_at "vis") dK dK rfl rfl rfl rfl ?_
 walk_at "v6"
 refine An ?_
 refine B4 ?_ ?_ ?_
 refine Cg (fun _=>rfl) ?_
 refine Ap CD Ar rfl rfl rfl rfl rfl hr (by decide) AM dK rfl rfl rfl ?_
 refine Aa rfl ?_ ?_
 walk_at "v6"
 refine Aa rfl ?_ ?_
 walk_at "v3"
 exact Af
 refine An ?_
 refine AH ?_
 exact CB
 exact Ba
 refine An ?_
 refine AH ?_
 exact CB
theorem Na {f:Addr} {fd:FuncData} (F:Fun K "is_past" "is_past" (top 45) f fd) (B:Blt mg K) (B2:Blt2 mg) (FP:Def P w K mg base CX0 11 "need_row" ["house","row"] (spJ K Dh 2)) (AZ:Def P w K mg base CX0 5 "is_rising_list_below" ["thing","bound"] (spJ K AG 2)) (EF:Def P w K mg base CX0 3 "are_closed" ["house","row","places"] (spJ K Dc 3)) :
  FnOk P w K mg base CX0 12 f fd ["house","row","thing"] (spJ K C0 3):=by
 refine Bs (N:=["house","row","thing"]) F ⟨rfl,rfl,rfl,dK,rfl,dK,dK⟩ fun cdv A outer s H E hr=>?_
 refine Ak ?_ ?_
 refine Qo rfl ?_
 refine Ap FP Ar rfl rfl rfl rfl rfl hr (by decide) AM dK rfl rfl rfl ?_
 refine Aa rfl ?_ ?_
 walk_at "v0"
 refine Aa rfl ?_ ?_
 walk_at "v1"
 exact Af
 refine An ?_
 refine AH ?_
 refine Ee ?_ ?_
 refine Ap AZ Ar rfl rfl rfl rfl rfl hr (by decide) AM dK rfl rfl rfl ?_
 refine Aa rfl ?_ ?_
 walk_at "v2"
 refine Aa rfl ?_ ?_
 refine AE BP A1 B.len Boot.«len» dK dK rfl rfl rfl ?_
 refine Aa rfl ?_ ?_
 walk_at "v1"
 exact Af
 exact Af
 refine EL ?_
 refine Ap EF Ar rfl rfl rfl rfl rfl hr (by decide) AM dK rfl rfl rfl ?_
 refine Aa rfl ?_ ?_
 walk_at "v0"
 refine Aa rfl ?_ ?_
 walk_at "v1"
 refine Aa rfl ?_ ?_
 walk_at "v2"
 exact Af
theorem LJ {f:Addr} {fd:FuncData} (F:Fun K "_law_bag" "_law_bag" (top 65) f fd) (B:Blt mg K) (B2:Blt2 mg) :
  FnOk P w K mg base CX0 1 f fd ["_law_cell_here"] (spJ K DZ 1):=by
 refine Bs (N:=["_law_cell_here"]) F ⟨rfl,rfl,rfl,dK,rfl,dK,dK⟩ fun cdv A outer s H E hr=>?_
 refine Ak ?_ ?_
 refine B4 ?_ ?_ ?_
 refine BA V6 V7 (Bm _) ?_ ?_
 refine AE QC Lf B.abs Boot.«abs» dK dK rfl rfl rfl ?_
 refine Aa rfl ?_ ?_
 walk_at "v0"
 exact Af
 refine AA UE UL ?_ ?_
 exact Ai
 exact Ai
 refine An ?_
 refine AH ?_
 refine Am ?_
 refine Aa rfl ?_ ?_
 refine Ac ?_
 refine AE QC Lf B.abs Boot.«abs» dK dK rfl rfl rfl ?_
 refine Aa rfl ?_ ?_
 walk_at "v0"
 exact Af
 refine Aa rfl ?_ ?_
 refine Ac ?_
 exact Ai
 exact Af
 exact Ba
 refine An ?_
 refine AH ?_
 refine Am ?_
 refine Aa rfl ?_ ?_
 refine Ac ?_
 refine AA Ih Ij ?_ ?_
 walk_at "v0"
 exact Ai
 refine Aa rfl ?_ ?_
 refine Ac ?_
 exact Ai
 exact Af
theorem Ko {f:Addr} {fd:FuncData} (F:Fun K "_law_take" "_law_take" (top 66) f fd) (B:Blt mg K) (B2:Blt2 mg) :
  FnOk P w K mg base CX0 1 f fd ["_law_bag_here","_law_many"] (spJ K Aj 2):=by
 refine Bs (N:=["_law_bag_here","_law_many","_law_digit"]) F ⟨rfl,rfl,rfl,dK,rfl,dK,dK⟩ fun cdv A outer s H E hr=>?_
 have nd3:List.Nodup (["_law_bag_here","_law_many","_law_digit"]:List Str):=by decide +kernel
 refine Ak ?_ ?_
 refine B4 ?_ ?_ ?_
 refine BA D6 (CN hr) (Bm _) ?_ ?_
 refine AX AY AD (fun _ _=>rfl) ?_ ?_
 walk_at "v0"
 exact Ai
 exact Ai
 refine Ak ?_ ?_
 refine AK 2 nd3 rfl (by walk_at "loc") rfl rfl ?_
 refine AA Ih Ij ?_ ?_
 refine AX AY AD (fun _ _=>rfl) ?_ ?_
 walk_at "v0"
 exact Ai
 walk_at "v1"
 refine Ak ?_ ?_
 refine MW 0 rfl (by walk_at "vis") dK dK (fun _=>rfl) rfl rfl rfl ?_ ?_
 exact Ai
 refine AA N6 N9 ?_ ?_
 refine AX AY AD (fun _ _=>rfl) ?_ ?_
 walk_at "v0"
 exact Ai
 walk_at "v1"
 refine An ?_
 refine AH ?_
 walk_at "v2"
 exact Ba
 refine Ak ?_ ?_
 refine MW 0 rfl (by walk_at "vis") dK dK (fun _=>rfl) rfl rfl rfl ?_ ?_
 exact Ai
 refine AA Ih Ij ?_ ?_
 refine AA A6 AW ?_ ?_
 refine AA A6 AW ?_ ?_
 refine AA Kp Kt ?_ ?_
 refine AX AY AD (fun _ _=>rfl) ?_ ?_
 walk_at "v0"
 exact Ai
 exact Ai
 refine AA Kp Kt ?_ ?_
 refine AA Kp Kt ?_ ?_
 exact Ai
 refine AX AY AD (fun _ _=>rfl) ?_ ?_
 walk_at "v0"
 exact Ai
 refine AX AY AD (fun _ _=>rfl) ?_ ?_
 walk_at "v0"
 exact Ai
 exact Ai
 exact Ai
 refine Ak ?_ ?_
 refine MW 0 rfl (by walk_at "vis") dK dK (fun _=>rfl) rfl rfl rfl ?_ ?_
 exact Ai
 refine AA A6 AW ?_ ?_
 refine AX AY AD (fun _ _=>rfl) ?_ ?_
 walk_at "v0"
 exact Ai
 exact Ai
 refine An ?_
 refine AH ?_
 refine AA Ih Ij ?_ ?_
 refine AA N6 N9 ?_ ?_
 refine AA Ih Ij ?_ ?_
 refine AA Kp Kt ?_ ?_
 refine AX AY AD (fun _ _=>rfl) ?_ ?_
 walk_at "v0"
 exact Ai
 exact Ai
 exact Ai
 exact Ai
 walk_at "v1"
theorem IY {f:Addr} {fd:FuncData} (F:Fun K "_law_house" "_law_house" (top 67) f fd) (B:Blt mg K) (B2:Blt2 mg) (Aq:Def P w K mg base CX0 1 "_law_take" ["_law_bag_here","_law_many"] (spJ K Aj 2)) :
  FnOk P w K mg base CX0 2 f fd ["_law_bag_here"] (spJ K C9 1):=by
 refine Bs (N:=["_law_bag_here","_law_hands","_law_many","_law_few","_law_letters","_law_at","_law_k","_law_bits"]) F ⟨rfl,rfl,rfl,dK,rfl,dK,dK⟩ fun cdv A outer s H E hr=>?_
 have nd8:List.Nodup (["_law_bag_here","_law_hands","_law_many","_law_few","_law_letters","_law_at","_law_k","_law_bits"]:List Str):=by decide +kernel
 refine Ak ?_ ?_
 refine AK 1 nd8 rfl (by walk_at "loc") rfl rfl ?_
 refine AA A6 AW ?_ ?_
 exact Ai
 refine Ap Aq Ar rfl rfl rfl rfl rfl hr (by decide) AM dK rfl rfl rfl ?_
 refine Aa rfl ?_ ?_
 walk_at "v0"
 refine Aa rfl ?_ ?_
 exact Ai
 exact Af
 refine Ak ?_ ?_
 refine AK 2 nd8 rfl (by walk_at "loc") rfl rfl ?_
 refine AA A6 AW ?_ ?_
 exact Ai
 refine Ap Aq Ar rfl rfl rfl rfl rfl hr (by decide) AM dK rfl rfl rfl ?_
 refine Aa rfl ?_ ?_
 walk_at "v0"
 refine Aa rfl ?_ ?_
 exact Ai
 exact Af
 refine Ak ?_ ?_
 refine AK 3 nd8 rfl (by walk_at "loc") rfl rfl ?_
 refine Ap Aq Ar rfl rfl rfl rfl rfl hr (by decide) AM dK rfl rfl rfl ?_
 refine Aa rfl ?_ ?_
 walk_at "v0"
 refine Aa rfl ?_ ?_
 exact Ai
 exact Af
 refine Ak ?_ ?_
 refine AK 4 nd8 rfl (by walk_at "loc") rfl rfl ?_
 refine Am ?_
 exact Af
 refine Ak ?_ ?_
 refine AK 5 nd8 rfl (by walk_at "loc") rfl rfl ?_
 exact Ai
 refine Ak ?_ ?_
 refine FZ PassesOwn.never rfl ?_ ?_ ?_ (fun _=>rfl)
 refine D3 rfl B.range rfl ?_
 walk_at "v2"
 exact G6 6 nd8 rfl (by walk_at "loc") rfl
 refine Ak ?_ ?_
 refine AK 5 nd8 rfl (by walk_at "loc") rfl rfl ?_
 refine AA A6 AW ?_ ?_
 walk_at "v5"
 refine Ap Aq Ar rfl rfl rfl rfl rfl hr (by decide) AM dK rfl rfl rfl ?_
 refine Aa rfl ?_ ?_
 walk_at "v0"
 refine Aa rfl ?_ ?_
 refine AA G1 G3 ?_ ?_
 refine AA A6 AW ?_ ?_
 refine AA G1 G3 ?_ ?_
 exact Ai
 walk_at "v2"
 walk_at "v6"
 walk_at "v5"
 exact Af
 refine Ak ?_ ?_
 refine AK 7 nd8 rfl (by walk_at "loc") rfl rfl ?_
 refine AA A6 AW ?_ ?_
 exact Ai
 refine Ap Aq Ar rfl rfl rfl rfl rfl hr (by decide) AM dK rfl rfl rfl ?_
 refine Aa rfl ?_ ?_
 walk_at "v0"
 refine Aa rfl ?_ ?_
 refine AA G1 G3 ?_ ?_
 refine AA Nb Nh ?_ ?_
 exact Ai
 walk_at "v1"
 exact Ai
 exact Af
 refine Ak ?_ ?_
 refine B4 ?_ ?_ ?_
 refine BA D6 (CN hr) (Bm _) ?_ ?_
 walk_at "v3"
 exact Ai
 refine An ?_
 refine AK 7 nd8 rfl (by walk_at "loc") rfl rfl ?_
 refine AA Uw Wa ?_ ?_
 refine AA Nb Nh ?_ ?_
 exact Ai
 refine Ap Aq Ar rfl rfl rfl rfl rfl hr (by decide) AM dK rfl rfl rfl ?_
 refine Aa rfl ?_ ?_
 walk_at "v0"
 refine Aa rfl ?_ ?_
 walk_at "v1"
 exact Af
 refine AA Nb Nh ?_ ?_
 exact Ai
 refine Ap Aq Ar rfl rfl rfl rfl rfl hr (by decide) AM dK rfl rfl rfl ?_
 refine Aa rfl ?_ ?_
 walk_at "v0"
 refine Aa rfl ?_ ?_
 walk_at "v1"
 exact Af
 exact Ba
 refine Ak ?_ ?_
 refine J9 4 rfl (by walk_at "vis") dK dK rfl rfl rfl rfl ?_
 refine Au ?_
 refine Aa rfl ?_ ?_
 refine Ac ?_
 refine AX AY AD (fun _ _=>rfl) ?_ ?_
 exact Av dK
 walk_at "v5"
 refine Aa rfl ?_ ?_
 refine Ac ?_
 refine Dm (by rfl) rfl nd8 (by rfl) (fun _=>rfl) ?_ ?_ ?_
 refine D3 rfl B.range rfl ?_
 walk_at "v1"
 refine Kb fun _ _ _ _ _=>?_
 refine BA D6 (CN hr) (Bm _) ?_ ?_
 refine AA R1 UI ?_ ?_
 refine AA UG UM ?_ ?_
 walk_at "v8"
 walk_at "v0"
 exact Ai
 exact Ai
 intro _ _ _ _ _
 walk_at "v0"
 exact Af
 refine An ?_
 refine AK 5 nd8 rfl (by walk_at "loc") rfl rfl ?_
 refine AA A6 AW ?_ ?_
 walk_at "v5"
 exact Ai
 refine An ?_
 refine AH ?_
 refine Au ?_
 refine Aa rfl ?_ ?_
 refine Ac ?_
 walk_at "v1"
 refine Aa rfl ?_ ?_
 refine Ac ?_
 walk_at "v4"
 exact Af
theorem LK {f:Addr} {fd:FuncData} (F:Fun K "_law_row" "_law_row" (top 68) f fd) (B:Blt mg K) (B2:Blt2 mg) (Aq:Def P w K mg base CX0 1 "_law_take" ["_law_bag_here","_law_many"] (spJ K Aj 2)) :
  FnOk P w K mg base CX0 2 f fd ["_law_bag_here","_law_house_here","_law_most"] (spJ K D0 3):=by
 refine Bs (N:=["_law_bag_here","_law_house_here","_law_most","_law_size","_law_row_here","_law_k"]) F ⟨rfl,rfl,rfl,dK,rfl,dK,dK⟩ fun cdv A outer s H E hr=>?_
 have nd6:List.Nodup (["_law_bag_here","_law_house_here","_law_most","_law_size","_law_row_here","_law_k"]:List Str):=by decide +kernel
 refine Ak ?_ ?_
 refine AK 3 nd6 rfl (by walk_at "loc") rfl rfl ?_
 refine Ap Aq Ar rfl rfl rfl rfl rfl hr (by decide) AM dK rfl rfl rfl ?_
 refine Aa rfl ?_ ?_
 walk_at "v0"
 refine Aa rfl ?_ ?_
 refine AA A6 AW ?_ ?_
 walk_at "v2"
 exact Ai
 exact Af
 refine Ak ?_ ?_
 refine B4 ?_ ?_ ?_
 refine BA D6 (CN hr) (Bm _) ?_ ?_
 refine Ap Aq Ar rfl rfl rfl rfl rfl hr (by decide) AM dK rfl rfl rfl ?_
 refine Aa rfl ?_ ?_
 walk_at "v0"
 refine Aa rfl ?_ ?_
 exact Ai
 exact Af
 exact Ai
 refine An ?_
 refine AK 3 nd6 rfl (by walk_at "loc") rfl rfl ?_
 refine Ap Aq Ar rfl rfl rfl rfl rfl hr (by decide) AM dK rfl rfl rfl ?_
 refine Aa rfl ?_ ?_
 walk_at "v0"
 refine Aa rfl ?_ ?_
 exact Ai
 exact Af
 exact Ba
 refine Ak ?_ ?_
 refine AK 4 nd6 rfl (by walk_at "loc") rfl rfl ?_
 exact Av dK
 refine Ak ?_ ?_
 refine FZ PassesOwn.never rfl ?_ ?_ ?_ (fun _=>rfl)
 refine D3 rfl B.range rfl ?_
 walk_at "v3"
 exact G6 5 nd6 rfl (by walk_at "loc") rfl
 refine An ?_
 refine AK 4 nd6 rfl (by walk_at "loc") rfl rfl ?_
 refine AA A6 AW ?_ ?_
 walk_at "v4"
 refine AX AY AD (fun _ _=>rfl) ?_ ?_
 refine AX AY AD (fun _ _=>rfl) ?_ ?_
 refine AX AY AD (fun _ _=>rfl) ?_ ?_
 walk_at "v1"
 exact Ai
 refine Ap Aq Ar rfl rfl rfl rfl rfl hr (by decide) AM dK rfl rfl rfl ?_
 refine Aa rfl ?_ ?_
 walk_at "v0"
 refine Aa rfl ?_ ?_
 refine AE BP A1 B.len Boot.«len» dK dK rfl rfl rfl ?_
 refine Aa rfl ?_ ?_
 refine AX AY AD (fun _ _=>rfl) ?_ ?_
 walk_at "v1"
 exact Ai
 exact Af
 exact Af
 exact Ai
 refine An ?_
 refine AH ?_
 walk_at "v4"
theorem IX {f:Addr} {fd:FuncData} (F:Fun K "_law_drawn" "_law_drawn" (top 69) f fd) (B:Blt mg K) (B2:Blt2 mg) (FK:Def P w K mg base CX0 1 "_law_bag" ["_law_cell_here"] (spJ K DZ 1)) (EE:Def P w K mg base CX0 2 "_law_house" ["_law_bag_here"] (spJ K C9 1)) (FL:Def P w K mg base CX0 2 "_law_row" ["_law_bag_here","_law_house_here","_law_most"] (spJ K D0 3)) :
  FnOk P w K mg base CX0 3 f fd ["_law_cell_here","_law_most"] (spJ K C8 2):=by
 refine Bs (N:=["_law_cell_here","_law_most","_law_bag_here","_law_house_here"]) F ⟨rfl,rfl,rfl,dK,rfl,dK,dK⟩ fun cdv A outer s H E hr=>?_
 have nd4:List.Nodup (["_law_cell_here","_law_most","_law_bag_here","_law_house_here"]:List Str):=by decide +kernel
 refine Ak ?_ ?_
 refine AK 2 nd4 rfl (by walk_at "loc") rfl rfl ?_
 refine Ap FK Ar rfl rfl rfl rfl rfl hr (by decide) AM dK rfl rfl rfl ?_
 refine Aa rfl ?_ ?_
 walk_at "v0"
 exact Af
 refine Ak ?_ ?_
 refine AK 3 nd4 rfl (by walk_at "loc") rfl rfl ?_
 refine Ap EE Ar rfl rfl rfl rfl rfl hr (by decide) AM dK rfl rfl rfl ?_
 refine Aa rfl ?_ ?_
 walk_at "v2"
 exact Af
 refine An ?_
 refine AH ?_
 refine Au ?_
 refine Aa rfl ?_ ?_
 walk_at "v2"
 refine Aa rfl ?_ ?_
 refine Ac ?_
 walk_at "v3"
 refine Aa rfl ?_ ?_
 refine Ac ?_
 refine Ap FL Ar rfl rfl rfl rfl rfl hr (by decide) AM dK rfl rfl rfl ?_
 refine Aa rfl ?_ ?_
 walk_at "v2"
 refine Aa rfl ?_ ?_
 walk_at "v3"
 refine Aa rfl ?_ ?_
 walk_at "v1"
 exact Af
 exact Af
theorem G0 {f:Addr} {fd:FuncData} (F:Fun K "_law_odd_past" "_law_odd_past" (top 71) f fd) (B:Blt mg K) (B2:Blt2 mg) (Aq:Def P w K mg base CX0 1 "_law_take" ["_law_bag_here","_law_many"] (spJ K Aj 2)) :
  FnOk P w K mg base CX0 2 f fd ["_law_bag_here","_law_row_here","_law_below_here"] (spJ K B9 3):=by
 refine Bs (N:=["_law_bag_here","_law_row_here","_law_below_here","_law_some","_law_k"]) F ⟨rfl,rfl,rfl,dK,rfl,dK,dK⟩ fun cdv A outer s H E hr=>?_
 have nd5:List.Nodup (["_law_bag_here","_law_row_here","_law_below_here","_law_some","_law_k"]:List Str):=by decide +kernel
 refine (fun h1 h2=>Ak h1 h2:_→_→_) ?_ ?_
 refine (fun h1=>AK 3 nd5 rfl (by walk_at "loc") rfl rfl h1:_→_) ?_
 refine (fun h1=>Am h1:_→_) ?_
 refine (fun h1 h2=>Aa rfl h1 h2:_→_→_) ?_ ?_
 refine (fun h1=>Ac h1:_→_) ?_
 exact J7
 refine (fun h1 h2=>Aa rfl h1 h2:_→_→_) ?_ ?_
 refine (fun h1=>Ac h1:_→_) ?_
 exact Ai
 refine (fun h1 h2=>Aa rfl h1 h2:_→_→_) ?_ ?_
 refine (fun h1=>Ac h1:_→_) ?_
 exact CB
 refine (fun h1 h2=>Aa rfl h1 h2:_→_→_) ?_ ?_
 refine (fun h1=>Ac h1:_→_) ?_
 exact Av dK
 refine (fun h1 h2=>Aa rfl h1 h2:_→_→_) ?_ ?_
 refine (fun h1=>Ac h1:_→_) ?_
 exact Av dK
 refine (fun h1 h2=>Aa rfl h1 h2:_→_→_) ?_ ?_
 refine (fun h1=>Ac h1:_→_) ?_
 refine (fun h1=>Au h1:_→_) ?_
 exact Af
 refine (fun h1 h2=>Aa rfl h1 h2:_→_→_) ?_ ?_
 refine (fun h1=>Ac h1:_→_) ?_
 refine (fun h1=>Au h1:_→_) ?_
 refine (fun h1 h2=>Aa rfl h1 h2:_→_→_) ?_ ?_
 refine (fun h1=>Ac h1:_→_) ?_
 exact Ai
 exact Af
 refine (fun h1 h2=>Aa rfl h1 h2:_→_→_) ?_ ?_
 refine (fun h1=>Ac h1:_→_) ?_
 refine (fun h1=>Am h1:_→_) ?_
 refine (fun h1 h2=>Aa rfl h1 h2:_→_→_) ?_ ?_
 refine (fun h1=>Ac h1:_→_) ?_
 refine AE BP A1 B.len Boot.«len» dK dK rfl rfl rfl ?_
 refine (fun h1 h2=>Aa rfl h1 h2:_→_→_) ?_ ?_
 walk_at "v1"
 exact Af
 exact Af
 refine (fun h1 h2=>Aa rfl h1 h2:_→_→_) ?_ ?_
 refine (fun h1=>Ac h1:_→_) ?_
 refine (fun h1=>Am h1:_→_) ?_
 refine (fun h1 h2=>Aa rfl h1 h2:_→_→_) ?_ ?_
 refine (fun h1=>Ac h1:_→_) ?_
 refine (fun h1=>N3 Kq K5 h1:_→_) ?_
 exact Ai
 exact Af
 refine (fun h1 h2=>Aa rfl h1 h2:_→_→_) ?_ ?_
 refine (fun h1=>Ac h1:_→_) ?_
 refine (fun h1=>Am h1:_→_) ?_
 refine (fun h1 h2=>Aa rfl h1 h2:_→_→_) ?_ ?_
 refine (fun h1=>Ac h1:_→_) ?_
 exact Ai
 refine (fun h1 h2=>Aa rfl h1 h2:_→_→_) ?_ ?_
 refine (fun h1=>Ac h1:_→_) ?_
 exact Ai
 exact Af
 refine (fun h1 h2=>Aa rfl h1 h2:_→_→_) ?_ ?_
 refine (fun h1=>Ac h1:_→_) ?_
 refine (fun h1=>Am h1:_→_) ?_
 refine (fun h1 h2=>Aa rfl h1 h2:_→_→_) ?_ ?_
 refine (fun h1=>Ac h1:_→_) ?_
 exact Ai
 refine (fun h1 h2=>Aa rfl h1 h2:_→_→_) ?_ ?_
 refine (fun h1=>Ac h1:_→_) ?_
 exact Ai
 exact Af
 refine (fun h1 h2=>Aa rfl h1 h2:_→_→_) ?_ ?_
 refine (fun h1=>Ac h1:_→_) ?_
 refine (fun h1=>Am h1:_→_) ?_
 refine (fun h1 h2=>Aa rfl h1 h2:_→_→_) ?_ ?_
 refine (fun h1=>Ac h1:_→_) ?_
 exact CB
 exact Af
 refine (fun h1 h2=>Aa rfl h1 h2:_→_→_) ?_ ?_
 refine (fun h1=>Ac h1:_→_) ?_
 refine (fun h1=>Am h1:_→_) ?_
 refine (fun h1 h2=>Aa rfl h1 h2:_→_→_) ?_ ?_
 refine (fun h1=>Ac h1:_→_) ?_
 exact Av dK
 exact Af
 refine (fun h1 h2=>Aa rfl h1 h2:_→_→_) ?_ ?_
 refine (fun h1=>Ac h1:_→_) ?_
 refine (fun h1=>Am h1:_→_) ?_
 refine (fun h1 h2=>Aa rfl h1 h2:_→_→_) ?_ ?_
 refine (fun h1=>Ac h1:_→_) ?_
 refine (fun h1=>Am h1:_→_) ?_
 refine (fun h1 h2=>Aa rfl h1 h2:_→_→_) ?_ ?_
 refine (fun h1=>Ac h1:_→_) ?_
 exact Ai
 exact Af
 exact Af
 refine (fun h1 h2=>Aa rfl h1 h2:_→_→_) ?_ ?_
 refine (fun h1=>Ac h1:_→_) ?_
 refine (fun h1=>Am h1:_→_) ?_
 refine (fun h1 h2=>Aa rfl h1 h2:_→_→_) ?_ ?_
 refine (fun h1=>Ac h1:_→_) ?_
 exact J7
 exact Af
 exact Af
 refine (fun h1 h2=>Ak h1 h2:_→_→_) ?_ ?_
 refine (fun h1 h2 h3=>FZ PassesOwn.never rfl h1 h2 h3 (fun _=>rfl):_→_→_→_) ?_ ?_ ?_
 refine D3 rfl B.range rfl ?_
 refine AE BP A1 B.len Boot.«len» dK dK rfl rfl rfl ?_
 refine (fun h1 h2=>Aa rfl h1 h2:_→_→_) ?_ ?_
 walk_at "v1"
 exact Af
 exact G6 4 nd5 rfl (by walk_at "loc") rfl
 refine (fun h1=>An h1:_→_) ?_
 refine (fun h1 h2 h3=>B4 h1 h2 h3:_→_→_→_) ?_ ?_ ?_
 refine (fun h1 h2=>BA Tf Tg (Bm _) h1 h2:_→_→_) ?_ ?_
 refine AE BP A1 B.len Boot.«len» dK dK rfl rfl rfl ?_
 refine (fun h1 h2=>Aa rfl h1 h2:_→_→_) ?_ ?_
 refine (fun h1 h2=>AX AY AD (fun _ _=>rfl) h1 h2:_→_→_) ?_ ?_
 walk_at "v2"
 walk_at "v4"
 exact Af
 exact Ai
 refine (fun h1=>An h1:_→_) ?_
 refine (fun h1=>J9 3 rfl (by walk_at "vis") dK dK rfl rfl rfl rfl h1:_→_) ?_
 refine (fun h1=>Ac h1:_→_) ?_
 refine (fun h1=>Am h1:_→_) ?_
 refine (fun h1 h2=>Aa rfl h1 h2:_→_→_) ?_ ?_
 refine (fun h1=>Ac h1:_→_) ?_
 walk_at "v4"
 exact Af
 exact Ba
 refine (fun h1=>An h1:_→_) ?_
 refine (fun h1=>AH h1:_→_) ?_
 refine (fun h1 h2=>AX AY AD (fun _ _=>rfl) h1 h2:_→_→_) ?_ ?_
 walk_at "v3"
 refine Ap Aq Ar rfl rfl rfl rfl rfl hr (by decide) AM dK rfl rfl rfl ?_
 refine (fun h1 h2=>Aa rfl h1 h2:_→_→_) ?_ ?_
 walk_at "v0"
 refine (fun h1 h2=>Aa rfl h1 h2:_→_→_) ?_ ?_
 refine AE BP A1 B.len Boot.«len» dK dK rfl rfl rfl ?_
 refine (fun h1 h2=>Aa rfl h1 h2:_→_→_) ?_ ?_
 walk_at "v3"
 exact Af
 exact Af
theorem Hq {f:Addr} {fd:FuncData} (F:Fun K "_law_odd_row" "_law_odd_row" (top 74) f fd) (B:Blt mg K) (B2:Blt2 mg) (Aq:Def P w K mg base CX0 1 "_law_take" ["_law_bag_here","_law_many"] (spJ K Aj 2)) :
  FnOk P w K mg base CX0 2 f fd ["_law_bag_here","_law_house_here"] (spJ K Cn 2):=by
 refine Bs (N:=["_law_bag_here","_law_house_here","_law_every","_law_other","_law_spare","_law_first","_law_some"]) F ⟨rfl,rfl,rfl,dK,rfl,dK,dK⟩ fun cdv A outer s H E hr=>?_
 have nd7:List.Nodup (["_law_bag_here","_law_house_here","_law_every","_law_other","_law_spare","_law_first","_law_some"]:List Str):=by decide +kernel
 refine (fun h1 h2=>Ak h1 h2:_→_→_) ?_ ?_
 refine (fun h1=>AK 2 nd7 rfl (by walk_at "loc") rfl rfl h1:_→_) ?_
 refine (fun h1 h2 h3=>Dm (by rfl) rfl nd7 (by rfl) (fun _=>rfl) h1 h2 h3:_→_→_→_) ?_ ?_ ?_
 refine (fun h1=>FY h1:_→_) ?_
 refine (fun h1 h2=>AX AY AD (fun _ _=>rfl) h1 h2:_→_→_) ?_ ?_
 walk_at "v1"
 exact Ai
 exact CM
 intro _ _ _ _ _
 refine (fun h1 h2=>AX AY AD (fun _ _=>rfl) h1 h2:_→_→_) ?_ ?_
 walk_at "v0"
 exact Ai
 refine (fun h1 h2=>Ak h1 h2:_→_→_) ?_ ?_
 refine (fun h1 h2 h3=>Qn 3 nd7 rfl rfl (by rfl) rfl (by rfl) (fun _=>rfl) rfl h1 h2 h3:_→_→_→_) ?_ ?_ ?_
 refine (fun h1=>MU h1:_→_) ?_
 exact Av dK
 refine Kb fun _ _ _ _ _=>?_
 refine (fun h1 h2=>BA (LM true) Ju (by with_unfolding_all rfl) h1 h2:_→_→_) ?_ ?_
 walk_at "v0"
 walk_at "v3"
 intro _ _ _ _ _
 walk_at "v0"
 refine (fun h1 h2=>Ak h1 h2:_→_→_) ?_ ?_
 refine (fun h1=>AK 4 nd7 rfl (by walk_at "loc") rfl rfl h1:_→_) ?_
 refine (fun h1 h2=>AX AY AD (fun _ _=>rfl) h1 h2:_→_→_) ?_ ?_
 walk_at "v3"
 refine Ap Aq Ar rfl rfl rfl rfl rfl hr (by decide) AM dK rfl rfl rfl ?_
 refine (fun h1 h2=>Aa rfl h1 h2:_→_→_) ?_ ?_
 walk_at "v0"
 refine (fun h1 h2=>Aa rfl h1 h2:_→_→_) ?_ ?_
 refine AE BP A1 B.len Boot.«len» dK dK rfl rfl rfl ?_
 refine (fun h1 h2=>Aa rfl h1 h2:_→_→_) ?_ ?_
 walk_at "v3"
 exact Af
 exact Af
 refine (fun h1 h2=>Ak h1 h2:_→_→_) ?_ ?_
 refine (fun h1=>AK 5 nd7 rfl (by walk_at "loc") rfl rfl h1:_→_) ?_
 refine (fun h1 h2=>AX AY AD (fun _ _=>rfl) h1 h2:_→_→_) ?_ ?_
 walk_at "v2"
 exact Ai
 refine (fun h1 h2=>Ak h1 h2:_→_→_) ?_ ?_
 refine (fun h1=>AK 6 nd7 rfl (by walk_at "loc") rfl rfl h1:_→_) ?_
 refine (fun h1=>Am h1:_→_) ?_
 refine (fun h1 h2=>Aa rfl h1 h2:_→_→_) ?_ ?_
 refine (fun h1=>Ac h1:_→_) ?_
 exact J7
 refine (fun h1 h2=>Aa rfl h1 h2:_→_→_) ?_ ?_
 refine (fun h1=>Ac h1:_→_) ?_
 exact Ai
 refine (fun h1 h2=>Aa rfl h1 h2:_→_→_) ?_ ?_
 refine (fun h1=>Ac h1:_→_) ?_
 exact CB
 refine (fun h1 h2=>Aa rfl h1 h2:_→_→_) ?_ ?_
 refine (fun h1=>Ac h1:_→_) ?_
 refine (fun h1=>Am h1:_→_) ?_
 exact Af
 refine (fun h1 h2=>Aa rfl h1 h2:_→_→_) ?_ ?_
 refine (fun h1=>Ac h1:_→_) ?_
 refine (fun h1=>Am h1:_→_) ?_
 refine (fun h1 h2=>Aa rfl h1 h2:_→_→_) ?_ ?_
 refine (fun h1=>Ac h1:_→_) ?_
 walk_at "v5"
 exact Af
 refine (fun h1 h2=>Aa rfl h1 h2:_→_→_) ?_ ?_
 refine (fun h1=>Ac h1:_→_) ?_
 refine (fun h1=>Au h1:_→_) ?_
 refine (fun h1 h2=>Aa rfl h1 h2:_→_→_) ?_ ?_
 refine (fun h1=>Ac h1:_→_) ?_
 walk_at "v5"
 exact Af
 refine (fun h1 h2=>Aa rfl h1 h2:_→_→_) ?_ ?_
 refine (fun h1=>Ac h1:_→_) ?_
 walk_at "v4"
 refine (fun h1 h2=>Aa rfl h1 h2:_→_→_) ?_ ?_
 refine (fun h1=>Ac h1:_→_) ?_
 refine (fun h1 h2=>AA A6 AW h1 h2:_→_→_) ?_ ?_
 walk_at "v5"
 walk_at "v4"
 refine (fun h1 h2=>Aa rfl h1 h2:_→_→_) ?_ ?_
 refine (fun h1=>Ac h1:_→_) ?_
 refine (fun h1 h2=>AA A6 AW h1 h2:_→_→_) ?_ ?_
 walk_at "v4"
 walk_at "v5"
 refine (fun h1 h2=>Aa rfl h1 h2:_→_→_) ?_ ?_
 refine (fun h1=>Ac h1:_→_) ?_
 refine (fun h1 h2=>AA A6 AW h1 h2:_→_→_) ?_ ?_
 walk_at "v5"
 exact Av dK
 refine (fun h1 h2=>Aa rfl h1 h2:_→_→_) ?_ ?_
 refine (fun h1=>Ac h1:_→_) ?_
 exact Av dK
 refine (fun h1 h2=>Aa rfl h1 h2:_→_→_) ?_ ?_
 refine (fun h1=>Ac h1:_→_) ?_
 exact Av dK
 exact Af
 refine (fun h1 h2=>Ak h1 h2:_→_→_) ?_ ?_
 refine (fun h1=>J9 6 rfl (by walk_at "vis") dK dK rfl rfl rfl rfl h1:_→_) ?_
 refine (fun h1=>Ac h1:_→_) ?_
 refine (fun h1 h2=>AA A6 AW h1 h2:_→_→_) ?_ ?_
 walk_at "v5"
 exact Av dK
 refine (fun h1=>An h1:_→_) ?_
 refine (fun h1=>AH h1:_→_) ?_
 refine (fun h1 h2=>AX AY AD (fun _ _=>rfl) h1 h2:_→_→_) ?_ ?_
 walk_at "v6"
 refine Ap Aq Ar rfl rfl rfl rfl rfl hr (by decide) AM dK rfl rfl rfl ?_
 refine (fun h1 h2=>Aa rfl h1 h2:_→_→_) ?_ ?_
 walk_at "v0"
 refine (fun h1 h2=>Aa rfl h1 h2:_→_→_) ?_ ?_
 refine AE BP A1 B.len Boot.«len» dK dK rfl rfl rfl ?_
 refine (fun h1 h2=>Aa rfl h1 h2:_→_→_) ?_ ?_
 walk_at "v6"
 exact Af
 exact Af
theorem Kn {f:Addr} {fd:FuncData} (F:Fun K "_law_hang" "_law_hang" (top 72) f fd) (B:Blt mg K) (B2:Blt2 mg) :
  FnOk P w K mg base CX0 1 f fd ["_law_house_here","_law_one","_law_other"] (spJ K Bd 3):=by
 refine Bs (N:=["_law_house_here","_law_one","_law_other","_law_owned"]) F ⟨rfl,rfl,rfl,dK,rfl,dK,dK⟩ fun cdv A outer s H E hr=>?_
 have nd4:List.Nodup (["_law_house_here","_law_one","_law_other","_law_owned"]:List Str):=by decide +kernel
 refine Ak ?_ ?_
 refine AK 3 nd4 rfl (by walk_at "loc") rfl rfl ?_
 refine Qd R3 (Mx rfl) B.dict Boot.«dict» dK dK rfl rfl rfl ?_
 refine Aa rfl ?_ ?_
 refine AX AY AD (fun _ _=>rfl) ?_ ?_
 walk_at "v0"
 exact Ai
 exact Af
 refine An ?_
 refine AH ?_
 refine AE M8 (HP rfl) B.any Boot.«any» dK dK rfl rfl rfl ?_
 refine Aa rfl ?_ ?_
 refine Dm (by rfl) rfl nd4 (by rfl) (fun _=>rfl) ?_ ?_ ?_
 refine FY ?_
 refine Qe hr (fun _ _=>rfl) ?_ ?_
 walk_at "v3"
 walk_at "v1"
 exact CM
 intro _ _ _ _ _
 refine Fb (LM false) Nf (by with_unfolding_all rfl) ?_ ?_
 walk_at "v0"
 refine Qe hr (fun _ _=>rfl) ?_ ?_
 walk_at "v4"
 walk_at "v3"
 exact Af
theorem IW {f:Addr} {fd:FuncData} (F:Fun K "_law_below" "_law_below" (top 73) f fd) (B:Blt mg K) (B2:Blt2 mg) (EY:Def P w K mg base CX0 1 "_law_hang" ["_law_house_here","_law_one","_law_other"] (spJ K Bd 3)) :
  FnOk P w K mg base CX0 2 f fd ["_law_house_here","_law_row_here"] (spJ K C7 2):=by
 refine Bs (N:=["_law_house_here","_law_row_here","_law_found","_law_j","_law_mine","_law_i"]) F ⟨rfl,rfl,rfl,dK,rfl,dK,dK⟩ fun cdv A outer s H E hr=>?_
 have nd6:List.Nodup (["_law_house_here","_law_row_here","_law_found","_law_j","_law_mine","_law_i"]:List Str):=by decide +kernel
 refine Ak ?_ ?_
 refine AK 2 nd6 rfl (by walk_at "loc") rfl rfl ?_
 refine Am ?_
 exact Af
 refine Ak ?_ ?_
 refine FZ PassesOwn.never rfl ?_ ?_ ?_ (fun _=>rfl)
 refine D3 rfl B.range rfl ?_
 refine AE BP A1 B.len Boot.«len» dK dK rfl rfl rfl ?_
 refine Aa rfl ?_ ?_
 walk_at "v1"
 exact Af
 exact G6 3 nd6 rfl (by walk_at "loc") rfl
 refine Ak ?_ ?_
 refine AK 4 nd6 rfl (by walk_at "loc") rfl rfl ?_
 refine Am ?_
 refine Aa rfl ?_ ?_
 refine Ac ?_
 walk_at "v3"
 exact Af
 refine Ak ?_ ?_
 refine FZ PassesOwn.never rfl ?_ ?_ ?_ (fun _=>rfl)
 refine RT rfl B.range rfl rfl rfl rfl ?_ ?_ ?_
 refine AA G1 G3 ?_ ?_
 walk_at "v3"
 exact Ai
 refine N3 Kq K5 ?_
 exact Ai
 refine N3 Kq K5 ?_
 exact Ai
 exact G6 5 nd6 rfl (by walk_at "loc") rfl
 refine An ?_
 refine B4 ?_ ?_ ?_
 refine Cg (fun _=>rfl) ?_
 refine AE M8 (HP rfl) B.any Boot.«any» dK dK rfl rfl rfl ?_
 refine Aa rfl ?_ ?_
 refine Dm (by rfl) rfl nd6 (by rfl) (fun _=>rfl) ?_ ?_ ?_
 refine FY ?_
 walk_at "v4"
 exact CM
 intro _ _ _ _ _
 refine Ap EY Ar rfl rfl rfl rfl rfl hr (by decide) AM dK rfl rfl rfl ?_
 refine Aa rfl ?_ ?_
 walk_at "v1"
 refine Aa rfl ?_ ?_
 refine AX AY AD (fun _ _=>rfl) ?_ ?_
 walk_at "v2"
 walk_at "v6"
 refine Aa rfl ?_ ?_
 refine AX AY AD (fun _ _=>rfl) ?_ ?_
 walk_at "v2"
 walk_at "v0"
 exact Af
 exact Af
 refine An ?_
 refine AK 4 nd6 rfl (by walk_at "loc") rfl rfl ?_
 refine AA A6 AW ?_ ?_
 refine Am ?_
 refine Aa rfl ?_ ?_
 refine Ac ?_
 walk_at "v5"
 exact Af
 walk_at "v4"
 exact Ba
 refine An ?_
 refine J9 2 rfl (by walk_at "vis") dK dK rfl rfl rfl rfl ?_
 walk_at "v4"
 refine An ?_
 refine AH ?_
 walk_at "v2"
theorem Ia {f:Addr} {fd:FuncData} (F:Fun K "need_house" "need_house" (top 33) f fd) (B:Blt mg K) (B2:Blt2 mg) (CV:Def P w K mg base CX0 8 "is_house" ["thing"] (spJ K BC 1)) (X_NoHouse:Exc K mg "NoHouse" (XC "NoHouse")) :
  FnOk P w K mg base (Fly P w) 9 f fd ["house"] (spR K XC Bp 1):=by
 refine CK (N:=["house"]) F ⟨rfl,rfl,rfl,dK,rfl,dK,dK⟩ fun cdv A outer s H E hr=>?_
 refine AJ ?_
 refine N4 ?_ ?_
 refine CL ?_
 refine Cg (fun _=>rfl) ?_
 refine Ap CV Ar rfl rfl rfl rfl rfl hr (by decide) AM dK rfl rfl rfl ?_
 refine Aa rfl ?_ ?_
 walk_at "v0"
 exact Af
 refine AJ ?_
 exact H0 X_NoHouse rfl hr rfl dK rfl rfl (Av dK)
theorem M6 {f:Addr} {fd:FuncData} (F:Fun K "is_row" "is_row" (top 37) f fd) (B:Blt mg K) (B2:Blt2 mg) (DR_need_house:Def P w K mg base (Fly P w) 9 "need_house" ["house"] (spR K XC Bp 1)) :
  FnOk P w K mg base (Fly P w) 10 f fd ["house","thing"] (spR K XC DE 2):=by
 refine CK (N:=["house","thing","letters"]) F ⟨rfl,rfl,rfl,dK,rfl,dK,dK⟩ fun cdv A outer s H E hr=>?_
 refine AJ ?_
 refine Dy DR_need_house A8 hr (by decide) rfl dK rfl rfl rfl ?_
 refine Aa rfl ?_ ?_
 walk_at "v0"
 exact Af
theorem Kl {f:Addr} {fd:FuncData} (F:Fun K "need_row" "need_row" (top 38) f fd) (B:Blt mg K) (B2:Blt2 mg) (Ej:Def P w K mg base CX0 10 "is_row" ["house","thing"] (spJ K Cz 2)) (DR_is_row:Def P w K mg base (Fly P w) 10 "is_row" ["house","thing"] (spR K XC DE 2)) (X_NoRow:Exc K mg "NoRow" (XC "NoRow")) :
  FnOk P w K mg base (Fly P w) 11 f fd ["house","row"] (spR K XC AS 2):=by
 refine CK (N:=["house","row"]) F ⟨rfl,rfl,rfl,dK,rfl,dK,dK⟩ fun cdv A outer s H E hr=>?_
 refine J8 ?_ ?_
 refine AJ ?_
 refine N5 DR_is_row A8 hr (by decide) dK rfl rfl rfl ?_
 refine Aa rfl ?_ ?_
 walk_at "v0"
 refine Aa rfl ?_ ?_
 walk_at "v1"
 exact Af
 refine AJ ?_
 refine N4 ?_ ?_
 refine CL ?_
 refine Cg (fun _=>rfl) ?_
 refine Ap Ej Ar rfl rfl rfl rfl rfl hr (by decide) AM dK rfl rfl rfl ?_
 refine Aa rfl ?_ ?_
 walk_at "v0"
 refine Aa rfl ?_ ?_
 walk_at "v1"
 exact Af
 refine AJ ?_
 exact H0 X_NoRow rfl hr rfl dK rfl rfl (Av dK)
theorem Kj {f:Addr} {fd:FuncData} (F:Fun K "is_below" "is_below" (top 40) f fd) (B:Blt mg K) (B2:Blt2 mg) (DR_need_row:Def P w K mg base (Fly P w) 11 "need_row" ["house","row"] (spR K XC AS 2)) :
  FnOk P w K mg base (Fly P w) 12 f fd ["house","row","i","j"] (spR K XC Di 4):=by
 refine CK (N:=["house","row","i","j"]) F ⟨rfl,rfl,rfl,dK,rfl,dK,dK⟩ fun cdv A outer s H E hr=>?_
 refine AJ ?_
 refine Dy DR_need_row A8 hr (by decide) rfl dK rfl rfl rfl ?_
 refine Aa rfl ?_ ?_
 walk_at "v0"
 refine Aa rfl ?_ ?_
 walk_at "v1"
 exact Af
theorem LI {f:Addr} {fd:FuncData} (F:Fun K "past_of" "past_of" (top 41) f fd) (B:Blt mg K) (B2:Blt2 mg) (DR_need_row:Def P w K mg base (Fly P w) 11 "need_row" ["house","row"] (spR K XC AS 2)) :
  FnOk P w K mg base (Fly P w) 12 f fd ["house","row","place"] (spR K XC DT 3):=by
 refine CK (N:=["house","row","place"]) F ⟨rfl,rfl,rfl,dK,rfl,dK,dK⟩ fun cdv A outer s H E hr=>?_
 refine AJ ?_
 refine Dy DR_need_row A8 hr (by decide) rfl dK rfl rfl rfl ?_
 refine Aa rfl ?_ ?_
 walk_at "v0"
 refine Aa rfl ?_ ?_
 walk_at "v1"
 exact Af
theorem Qz {f:Addr} {fd:FuncData} (F:Fun K "past" "past" (top 43) f fd) (B:Blt mg K) (B2:Blt2 mg) (DR_need_row:Def P w K mg base (Fly P w) 11 "need_row" ["house","row"] (spR K XC AS 2)) :
  FnOk P w K mg base (Fly P w) 12 f fd ["house","row","hands"] (spR K XC GJ 3):=by
 refine CK (N:=["house","row","hands"]) F ⟨rfl,rfl,rfl,dK,rfl,dK,dK⟩ fun cdv A outer s H E hr=>?_
 refine AJ ?_
 refine Dy DR_need_row A8 hr (by decide) rfl dK rfl rfl rfl ?_
 refine Aa rfl ?_ ?_
 walk_at "v0"
 refine Aa rfl ?_ ?_
 walk_at "v1"
 exact Af
theorem LH {f:Addr} {fd:FuncData} (F:Fun K "is_past" "is_past" (top 45) f fd) (B:Blt mg K) (B2:Blt2 mg) (DR_need_row:Def P w K mg base (Fly P w) 11 "need_row" ["house","row"] (spR K XC AS 2)) :
  FnOk P w K mg base (Fly P w) 12 f fd ["house","row","thing"] (spR K XC B6 3):=by
 refine CK (N:=["house","row","thing"]) F ⟨rfl,rfl,rfl,dK,rfl,dK,dK⟩ fun cdv A outer s H E hr=>?_
 refine AJ ?_
 refine Dy DR_need_row A8 hr (by decide) rfl dK rfl rfl rfl ?_
 refine Aa rfl ?_ ?_
 walk_at "v0"
 refine Aa rfl ?_ ?_
 walk_at "v1"
 exact Af
theorem IU {f:Addr} {fd:FuncData} (F:Fun K "need_past" "need_past" (top 47) f fd) (B:Blt mg K) (B2:Blt2 mg) (DB:Def P w K mg base CX0 12 "is_past" ["house","row","thing"] (spJ K C0 3)) (DR_is_past:Def P w K mg base (Fly P w) 12 "is_past" ["house","row","thing"] (spR K XC B6 3)) (X_NoPast:Exc K mg "NoPast" (XC "NoPast")) :
  FnOk P w K mg base (Fly P w) 13 f fd ["house","row","places"] (spR K XC BF 3):=by
 refine CK (N:=["house","row","places"]) F ⟨rfl,rfl,rfl,dK,rfl,dK,dK⟩ fun cdv A outer s H E hr=>?_
 refine J8 ?_ ?_
 refine AJ ?_
 refine N5 DR_is_past A8 hr (by decide) dK rfl rfl rfl ?_
 refine Aa rfl ?_ ?_
 walk_at "v0"
 refine Aa rfl ?_ ?_
 walk_at "v1"
 refine Aa rfl ?_ ?_
 walk_at "v2"
 exact Af
 refine AJ ?_
 refine N4 ?_ ?_
 refine CL ?_
 refine Cg (fun _=>rfl) ?_
 refine Ap DB Ar rfl rfl rfl rfl rfl hr (by decide) AM dK rfl rfl rfl ?_
 refine Aa rfl ?_ ?_
 walk_at "v0"
 refine Aa rfl ?_ ?_
 walk_at "v1"
 refine Aa rfl ?_ ?_
 walk_at "v2"
 exact Af
 refine AJ ?_
 exact H0 X_NoPast rfl hr rfl dK rfl rfl (Av dK)
theorem QB {f:Addr} {fd:FuncData} (F:Fun K "tops" "tops" (top 48) f fd) (B:Blt mg K) (B2:Blt2 mg) (DR_need_past:Def P w K mg base (Fly P w) 13 "need_past" ["house","row","places"] (spR K XC BF 3)) :
  FnOk P w K mg base (Fly P w) 14 f fd ["house","row","places"] (spR K XC FA 3):=by
 refine CK (N:=["house","row","places","told","later","i","doers"]) F ⟨rfl,rfl,rfl,dK,rfl,dK,dK⟩ fun cdv A outer s H E hr=>?_
 refine AJ ?_
 refine Dy DR_need_past A8 hr (by decide) rfl dK rfl rfl rfl ?_
 refine Aa rfl ?_ ?_
 walk_at "v0"
 refine Aa rfl ?_ ?_
 walk_at "v1"
 refine Aa rfl ?_ ?_
 walk_at "v2"
 exact Af
theorem M5 {f:Addr} {fd:FuncData} (F:Fun K "cut_by" "cut_by" (top 49) f fd) (B:Blt mg K) (B2:Blt2 mg) (DR_need_past:Def P w K mg base (Fly P w) 13 "need_past" ["house","row","places"] (spR K XC BF 3)) :
  FnOk P w K mg base (Fly P w) 14 f fd ["house","row","places"] (spR K XC DD 3):=by
 refine CK (N:=["house","row","places","within","beyond"]) F ⟨rfl,rfl,rfl,dK,rfl,dK,dK⟩ fun cdv A outer s H E hr=>?_
 refine AJ ?_
 refine Dy DR_need_past A8 hr (by decide) rfl dK rfl rfl rfl ?_
 refine Aa rfl ?_ ?_
 walk_at "v0"
 refine Aa rfl ?_ ?_
 walk_at "v1"
 refine Aa rfl ?_ ?_
 walk_at "v2"
 exact Af
theorem F6 {f:Addr} {fd:FuncData} (F:Fun K "orders_counted" "orders_counted" (top 55) f fd) (B:Blt mg K) (B2:Blt2 mg) (DR_need_row:Def P w K mg base (Fly P w) 11 "need_row" ["house","row"] (spR K XC AS 2)) :
  FnOk P w K mg base (Fly P w) 12 f fd ["house","row"] (spR K XC A2 2):=by
 refine CK (N:=["house","row"]) F ⟨rfl,rfl,rfl,dK,rfl,dK,dK⟩ fun cdv A outer s H E hr=>?_
 refine AJ ?_
 refine Dy DR_need_row A8 hr (by decide) rfl dK rfl rfl rfl ?_
 refine Aa rfl ?_ ?_
 walk_at "v0"
 refine Aa rfl ?_ ?_
 walk_at "v1"
 exact Af
theorem Gz {f:Addr} {fd:FuncData} (F:Fun K "pasts_counted" "pasts_counted" (top 56) f fd) (B:Blt mg K) (B2:Blt2 mg) (DR_need_row:Def P w K mg base (Fly P w) 11 "need_row" ["house","row"] (spR K XC AS 2)) :
  FnOk P w K mg base (Fly P w) 12 f fd ["house","row"] (spR K XC BI 2):=by
 refine CK (N:=["house","row"]) F ⟨rfl,rfl,rfl,dK,rfl,dK,dK⟩ fun cdv A outer s H E hr=>?_
 refine AJ ?_
 refine Dy DR_need_row A8 hr (by decide) rfl dK rfl rfl rfl ?_
 refine Aa rfl ?_ ?_
 walk_at "v0"
 refine Aa rfl ?_ ?_
 walk_at "v1"
 exact Af
theorem M7 {f:Addr} {fd:FuncData} (F:Fun K "orders" "orders" (top 61) f fd) (B:Blt mg K) (B2:Blt2 mg) (DR_orders_counted:Def P w K mg base (Fly P w) 12 "orders_counted" ["house","row"] (spR K XC A2 2)) :
  FnOk P w K mg base (Fly P w) 13 f fd ["house","row"] (spR K XC Ey 2):=by
 refine CK (N:=["house","row","views","begun","size"]) F ⟨rfl,rfl,rfl,dK,rfl,dK,dK⟩ fun cdv A outer s H E hr=>?_
 refine AJ ?_
 refine Ud DR_orders_counted A8 hr (by decide) rfl dK rfl rfl rfl ?_
 refine Aa rfl ?_ ?_
 walk_at "v0"
 refine Aa rfl ?_ ?_
 walk_at "v1"
 exact Af
theorem IT {f:Addr} {fd:FuncData} (F:Fun K "_law_call" "_law_call" (top 76) f fd) (B:Blt mg K) (B2:Blt2 mg) (DR_is_below:Def P w K mg base (Fly P w) 12 "is_below" ["house","row","i","j"] (spR K XC Di 4)) (DR_past_of:Def P w K mg base (Fly P w) 12 "past_of" ["house","row","place"] (spR K XC DT 3)) (DR_past:Def P w K mg base (Fly P w) 12 "past" ["house","row","hands"] (spR K XC GJ 3)) (DR_is_past:Def P w K mg base (Fly P w) 12 "is_past" ["house","row","thing"] (spR K XC B6 3)) (DR_tops:Def P w K mg base (Fly P w) 14 "tops" ["house","row","places"] (spR K XC FA 3)) (DR_cut_by:Def P w K mg base (Fly P w) 14 "cut_by" ["house","row","places"] (spR K XC DD 3)) (DR_orders_counted:Def P w K mg base (Fly P w) 12 "orders_counted" ["house","row"] (spR K XC A2 2)) (DR_pasts_counted:Def P w K mg base (Fly P w) 12 "pasts_counted" ["house","row"] (spR K XC BI 2)) (DR_orders:Def P w K mg base (Fly P w) 13 "orders" ["house","row"] (spR K XC Ey 2)) :
  FnOk P w K mg base (Fly P w) 15 f fd ["_law_which","_law_house_here","_law_row_here","_law_thing"] (spR K XC BE 4):=by
 refine CK (N:=["_law_which","_law_house_here","_law_row_here","_law_thing"]) F ⟨rfl,rfl,rfl,dK,rfl,dK,dK⟩ fun cdv A outer s H E hr=>?_
 refine D4 ?_ ?_ ?_
 refine BA D6 (CN hr) (Bm _) ?_ ?_
 walk_at "v0"
 exact Ai
 refine AJ ?_
 refine EM DR_is_below A8 hr (by decide) dK rfl rfl rfl ?_
 refine Aa rfl ?_ ?_
 walk_at "v1"
 refine Aa rfl ?_ ?_
 walk_at "v2"
 refine Aa rfl ?_ ?_
 exact Ai
 refine Aa rfl ?_ ?_
 exact Ai
 exact Af
 refine D4 ?_ ?_ ?_
 refine BA D6 (CN hr) (Bm _) ?_ ?_
 walk_at "v0"
 exact Ai
 refine AJ ?_
 refine EM DR_past_of A8 hr (by decide) dK rfl rfl rfl ?_
 refine Aa rfl ?_ ?_
 walk_at "v1"
 refine Aa rfl ?_ ?_
 walk_at "v2"
 refine Aa rfl ?_ ?_
 exact Ai
 exact Af
 refine D4 ?_ ?_ ?_
 refine BA D6 (CN hr) (Bm _) ?_ ?_
 walk_at "v0"
 exact Ai
 refine AJ ?_
 refine EM DR_past A8 hr (by decide) dK rfl rfl rfl ?_
 refine Aa rfl ?_ ?_
 walk_at "v1"
 refine Aa rfl ?_ ?_
 walk_at "v2"
 refine Aa rfl ?_ ?_
 refine Ac ?_
 refine Am ?_
 refine Aa rfl ?_ ?_
 refine Ac ?_
 exact Ai
 exact Af
 exact Af
 refine D4 ?_ ?_ ?_
 refine BA D6 (CN hr) (Bm _) ?_ ?_
 walk_at "v0"
 exact Ai
 refine AJ ?_
 refine EM DR_is_past A8 hr (by decide) dK rfl rfl rfl ?_
 refine Aa rfl ?_ ?_
 walk_at "v1"
 refine Aa rfl ?_ ?_
 walk_at "v2"
 refine Aa rfl ?_ ?_
 walk_at "v3"
 exact Af
 refine D4 ?_ ?_ ?_
 refine BA D6 (CN hr) (Bm _) ?_ ?_
 walk_at "v0"
 exact Ai
 refine AJ ?_
 refine EM DR_tops A8 hr (by decide) dK rfl rfl rfl ?_
 refine Aa rfl ?_ ?_
 walk_at "v1"
 refine Aa rfl ?_ ?_
 walk_at "v2"
 refine Aa rfl ?_ ?_
 walk_at "v3"
 exact Af
 refine D4 ?_ ?_ ?_
 refine BA D6 (CN hr) (Bm _) ?_ ?_
 walk_at "v0"
 exact Ai
 refine AJ ?_
 refine EM DR_cut_by A8 hr (by decide) dK rfl rfl rfl ?_
 refine Aa rfl ?_ ?_
 walk_at "v1"
 refine Aa rfl ?_ ?_
 walk_at "v2"
 refine Aa rfl ?_ ?_
 walk_at "v3"
 exact Af
 refine D4 ?_ ?_ ?_
 refine BA D6 (CN hr) (Bm _) ?_ ?_
 walk_at "v0"
 exact Ai
 refine AJ ?_
 refine EM DR_orders_counted A8 hr (by decide) dK rfl rfl rfl ?_
 refine Aa rfl ?_ ?_
 walk_at "v1"
 refine Aa rfl ?_ ?_
 walk_at "v2"
 exact Af
 refine D4 ?_ ?_ ?_
 refine BA D6 (CN hr) (Bm _) ?_ ?_
 walk_at "v0"
 exact Ai
 refine AJ ?_
 refine EM DR_pasts_counted A8 hr (by decide) dK rfl rfl rfl ?_
 refine Aa rfl ?_ ?_
 walk_at "v1"
 refine Aa rfl ?_ ?_
 walk_at "v2"
 exact Af
 refine AJ ?_
 refine EM DR_orders A8 hr (by decide) dK rfl rfl rfl ?_
 refine Aa rfl ?_ ?_
 walk_at "v1"
 refine Aa rfl ?_ ?_
 walk_at "v2"
 exact Af
theorem Kr {f C:Addr} {fd:FuncData} {wd:Str} {j:Nat} (F:Fun K "_law_word" "_law_word" (top 64) f fd) (B:Blt mg K) (W:XW K mg C wd) (hj:∀ i,i < 15→(K9.getD i "" == wd) = (i == j)) :
  FnOkM P w K mg base CX0 1 f fd ["_law_e"] (spJ K (D2 C j) 1):=by
 refine TM (N:=["_law_e","_law_named","_law_words","_law_some"]) F ⟨rfl,rfl,rfl,dK,rfl,dK,dK⟩ fun cdv A outer s H E hr hmk=>?_
 have nd4:List.Nodup (["_law_e","_law_named","_law_words","_law_some"]:List Str):=by decide +kernel
 refine Ak ?_ ?_
 refine AK 1 nd4 rfl (by walk_at "loc") rfl rfl ?_
 refine Am ?_
 refine Aa rfl ?_ ?_
 refine Ac ?_
 refine Cu _ W dK (hj 0 (by decide)) dK rfl rfl B rfl rfl ?_
 walk_at "v0"
 refine Aa rfl ?_ ?_
 refine Ac ?_
 refine Cu _ W dK (hj 1 (by decide)) dK rfl rfl B rfl rfl ?_
 walk_at "v0"
 refine Aa rfl ?_ ?_
 refine Ac ?_
 refine Cu _ W dK (hj 2 (by decide)) dK rfl rfl B rfl rfl ?_
 walk_at "v0"
 refine Aa rfl ?_ ?_
 refine Ac ?_
 refine Cu _ W dK (hj 3 (by decide)) dK rfl rfl B rfl rfl ?_
 walk_at "v0"
 exact Af
 refine Ak ?_ ?_
 refine AK 1 nd4 rfl (by walk_at "loc") rfl rfl ?_
 refine AA A6 AW ?_ ?_
 walk_at "v1"
 refine Am ?_
 refine Aa rfl ?_ ?_
 refine Ac ?_
 refine Cu _ W dK (hj 4 (by decide)) dK rfl rfl B rfl rfl ?_
 walk_at "v0"
 refine Aa rfl ?_ ?_
 refine Ac ?_
 refine Cu _ W dK (hj 5 (by decide)) dK rfl rfl B rfl rfl ?_
 walk_at "v0"
 refine Aa rfl ?_ ?_
 refine Ac ?_
 refine Cu _ W dK (hj 6 (by decide)) dK rfl rfl B rfl rfl ?_
 walk_at "v0"
 refine Aa rfl ?_ ?_
 refine Ac ?_
 refine Cu _ W dK (hj 7 (by decide)) dK rfl rfl B rfl rfl ?_
 walk_at "v0"
 exact Af
 refine Ak ?_ ?_
 refine AK 1 nd4 rfl (by walk_at "loc") rfl rfl ?_
 refine AA A6 AW ?_ ?_
 walk_at "v1"
 refine Am ?_
 refine Aa rfl ?_ ?_
 refine Ac ?_
 refine Cu _ W dK (hj 8 (by decide)) dK rfl rfl B rfl rfl ?_
 walk_at "v0"
 refine Aa rfl ?_ ?_
 refine Ac ?_
 refine Cu _ W dK (hj 9 (by decide)) dK rfl rfl B rfl rfl ?_
 walk_at "v0"
 refine Aa rfl ?_ ?_
 refine Ac ?_
 refine Cu _ W dK (hj 10 (by decide)) dK rfl rfl B rfl rfl ?_
 walk_at "v0"
 refine Aa rfl ?_ ?_
 refine Ac ?_
 refine Cu _ W dK (hj 11 (by decide)) dK rfl rfl B rfl rfl ?_
 walk_at "v0"
 exact Af
 refine Ak ?_ ?_
 refine AK 1 nd4 rfl (by walk_at "loc") rfl rfl ?_
 refine AA A6 AW ?_ ?_
 walk_at "v1"
 refine Am ?_
 refine Aa rfl ?_ ?_
 refine Ac ?_
 refine Cu _ W dK (hj 12 (by decide)) dK rfl rfl B rfl rfl ?_
 walk_at "v0"
 refine Aa rfl ?_ ?_
 refine Ac ?_
 refine Cu _ W dK (hj 13 (by decide)) dK rfl rfl B rfl rfl ?_
 walk_at "v0"
 refine Aa rfl ?_ ?_
 refine Ac ?_
 refine Cu _ W dK (hj 14 (by decide)) dK rfl rfl B rfl rfl ?_
 walk_at "v0"
 exact Af
 refine Ak ?_ ?_
 refine AK 2 nd4 rfl (by walk_at "loc") rfl rfl ?_
 refine Am ?_
 refine Aa rfl ?_ ?_
 refine Ac ?_
 exact Av dK
 refine Aa rfl ?_ ?_
 refine Ac ?_
 exact Av dK
 refine Aa rfl ?_ ?_
 refine Ac ?_
 exact Av dK
 refine Aa rfl ?_ ?_
 refine Ac ?_
 exact Av dK
 refine Aa rfl ?_ ?_
 refine Ac ?_
 exact Av dK
 refine Aa rfl ?_ ?_
 refine Ac ?_
 exact Av dK
 refine Aa rfl ?_ ?_
 refine Ac ?_
 exact Av dK
 refine Aa rfl ?_ ?_
 refine Ac ?_
 exact Av dK
 refine Aa rfl ?_ ?_
 refine Ac ?_
 exact Av dK
 refine Aa rfl ?_ ?_
 refine Ac ?_
 exact Av dK
 exact Af
 refine Ak ?_ ?_
 refine AK 2 nd4 rfl (by walk_at "loc") rfl rfl ?_
 refine AA A6 AW ?_ ?_
 walk_at "v2"
 refine Am ?_
 refine Aa rfl ?_ ?_
 refine Ac ?_
 exact Av dK
 refine Aa rfl ?_ ?_
 refine Ac ?_
 exact Av dK
 refine Aa rfl ?_ ?_
 refine Ac ?_
 exact Av dK
 refine Aa rfl ?_ ?_
 refine Ac ?_
 exact Av dK
 refine Aa rfl ?_ ?_
 refine Ac ?_
 exact Av dK
 exact Af
 refine Ak ?_ ?_
 refine OM 3 nd4 rfl rfl (by rfl) hmk (by rfl) (fun _=>rfl) rfl ?_ ?_ ?_
 refine Qk rfl B.range rfl ?_
 exact Ai
 refine Kb fun _ _ _ _ _=>?_
 refine Cg (fun _=>rfl) ?_
 refine AX AY AD (fun _ _=>rfl) ?_ ?_
 walk_at "v2"
 walk_at "v0"
 intro _ _ _ _ _
 refine AX AY AD (fun _ _=>rfl) ?_ ?_
 walk_at "v3"
 walk_at "v0"
 refine Ak ?_ ?_
 refine B4 ?_ ?_ ?_
 refine Ka ?_
 refine Qp ?_ ?_
 refine BA N8 (R9 hr) (Bm _) ?_ ?_
 refine AE BP A1 B.len Boot.«len» dK dK rfl rfl rfl ?_
 refine Aa rfl ?_ ?_
 walk_at "v3"
 exact Af
 exact Ai
 refine MX ?_
 refine CL ?_
 refine Cg (fun _=>rfl) ?_
 refine Ub W rfl rfl B rfl rfl ?_
 walk_at "v0"
 refine An ?_
 refine AH ?_
 exact Av dK
 exact Ba
 refine An ?_
 refine AH ?_
 refine AX AY AD (fun _ _=>rfl) ?_ ?_
 walk_at "v3"
 exact Ai
theorem Hr {f HE:Addr} {fd:FuncData} {words:List Str} {jw:Str→Nat} (F:Fun K "_law_refused" "_law_refused" (top 77) f fd) (B:Blt mg K) (B2:Blt2 mg) (DR__law_call:Def P w K mg base (Fly P w) 15 "_law_call" ["_law_which","_law_house_here","_law_row_here","_law_thing"] (spR K XC BE 4)) (hHE:mg "HandError" = some (.ref HE)) (W:∀ z∈words,DefM P w K mg base CX0 1 "_law_word" ["_law_e"] (spJ K (D2 (XC z) (jw z)) 1)) (hΨ:∀ ρ z,Bn ρ = some z→z∈words) (hz:∀ z∈words,Above base (XC z) HE∧z.length≤sizeLine∧∀ a o,o.cls = .ref (XC z)→D2 (XC z) (jw z) [(.lent,.opq a o)] = some (.fz (.str z),[.opq a o])) :
  FnOk P w K mg base CX0 16 f fd ["_law_which","_law_house_here","_law_row_here","_law_thing"] (spJ K Bl 4):=by
 refine QE (N:=["_law_which","_law_house_here","_law_row_here","_law_thing","_law_e"]) (i:=4) (kw:=1) (Φw:=fun z=>D2 (XC z) (jw z)) (b:=Fo) (r:=retS (Ag (.str (Str.ofString "none")))) (rr:=Bn) words F ⟨rfl,rfl,rfl,dK,rfl,dK,dK⟩ rfl rfl rfl rfl rfl dK dK hHE (fun cdv A outer s H E hr=>?_) (fun cdv A outer s H E hr=>?_) (fun cdv A outer s H E E2 xe hr hx=>?_) W (fun z=>Ar) hΨ hz (by decide)
 case refine_1 =>
  exact Js
 case refine_2 =>
  refine An ?_
  refine AH ?_
  exact Av dK
 case refine_3 =>
  refine AJ ?_
  refine Ql DR__law_call A8 hr (by decide) hx rfl dK rfl rfl rfl ?_
  refine Aa rfl ?_ ?_
  walk_at "v0"
  refine Aa rfl ?_ ?_
  walk_at "v1"
  refine Aa rfl ?_ ?_
  walk_at "v2"
  refine Aa rfl ?_ ?_
  walk_at "v3"
  exact Af
theorem Km {f:Addr} {fd:FuncData} (F:Fun K "_law_cell" "_law_cell" (top 70) f fd) (B:Blt mg K) (B2:Blt2 mg) :
  FnOk P w K mg base CX0 1 f fd ["_law_script","_law_k"] (spJ K Dx 2):=by
 refine Bs (N:=["_law_script","_law_k"]) F ⟨rfl,rfl,rfl,dK,rfl,dK,dK⟩ fun cdv A outer s H E hr=>?_
 refine Ak ?_ ?_
 refine B4 ?_ ?_ ?_
 refine BA N7 HD (Bm _) ?_ ?_
 walk_at "v1"
 refine AE BP A1 B.len Boot.«len» dK dK rfl rfl rfl ?_
 refine Aa rfl ?_ ?_
 walk_at "v0"
 exact Af
 refine An ?_
 refine AH ?_
 refine AX AY AD (fun _ _=>rfl) ?_ ?_
 walk_at "v0"
 walk_at "v1"
 exact Ba
 refine An ?_
 refine AH ?_
 exact Ai
theorem GA {f:Addr} {fd:FuncData} (F:Fun K "_law_odd_house" "_law_odd_house" (top 75) f fd) (B:Blt mg K) (B2:Blt2 mg) (Aq:Def P w K mg base CX0 1 "_law_take" ["_law_bag_here","_law_many"] (spJ K Aj 2)) :
  FnOk P w K mg base CX0 2 f fd ["_law_bag_here"] (spJ K BY 1):=by
 refine Bs (N:=["_law_bag_here","_law_some"]) F ⟨rfl,rfl,rfl,dK,rfl,dK,dK⟩ fun cdv A outer s H E hr=>?_
 have nd2:List.Nodup (["_law_bag_here","_law_some"]:List Str):=by decide +kernel
 refine (fun h1 h2=>Ak h1 h2:_→_→_) ?_ ?_
 refine (fun h1=>AK 1 nd2 rfl (by walk_at "loc") rfl rfl h1:_→_) ?_
 refine (fun h1=>Am h1:_→_) ?_
 refine (fun h1 h2=>Aa rfl h1 h2:_→_→_) ?_ ?_
 refine (fun h1=>Ac h1:_→_) ?_
 exact J7
 refine (fun h1 h2=>Aa rfl h1 h2:_→_→_) ?_ ?_
 refine (fun h1=>Ac h1:_→_) ?_
 exact Ai
 refine (fun h1 h2=>Aa rfl h1 h2:_→_→_) ?_ ?_
 refine (fun h1=>Ac h1:_→_) ?_
 exact CB
 refine (fun h1 h2=>Aa rfl h1 h2:_→_→_) ?_ ?_
 refine (fun h1=>Ac h1:_→_) ?_
 exact Av dK
 refine (fun h1 h2=>Aa rfl h1 h2:_→_→_) ?_ ?_
 refine (fun h1=>Ac h1:_→_) ?_
 exact Av dK
 refine (fun h1 h2=>Aa rfl h1 h2:_→_→_) ?_ ?_
 refine (fun h1=>Ac h1:_→_) ?_
 refine (fun h1=>Au h1:_→_) ?_
 exact Af
 refine (fun h1 h2=>Aa rfl h1 h2:_→_→_) ?_ ?_
 refine (fun h1=>Ac h1:_→_) ?_
 refine (fun h1=>Am h1:_→_) ?_
 exact Af
 refine (fun h1 h2=>Aa rfl h1 h2:_→_→_) ?_ ?_
 refine (fun h1=>Ac h1:_→_) ?_
 refine (fun h1=>Au h1:_→_) ?_
 refine (fun h1 h2=>Aa rfl h1 h2:_→_→_) ?_ ?_
 refine (fun h1=>Ac h1:_→_) ?_
 exact Ai
 exact Af
 refine (fun h1 h2=>Aa rfl h1 h2:_→_→_) ?_ ?_
 refine (fun h1=>Ac h1:_→_) ?_
 refine (fun h1=>Au h1:_→_) ?_
 refine (fun h1 h2=>Aa rfl h1 h2:_→_→_) ?_ ?_
 refine (fun h1=>Ac h1:_→_) ?_
 exact Ai
 refine (fun h1 h2=>Aa rfl h1 h2:_→_→_) ?_ ?_
 refine (fun h1=>Ac h1:_→_) ?_
 refine (fun h1=>Am h1:_→_) ?_
 exact Af
 exact Af
 refine (fun h1 h2=>Aa rfl h1 h2:_→_→_) ?_ ?_
 refine (fun h1=>Ac h1:_→_) ?_
 refine (fun h1=>Au h1:_→_) ?_
 refine (fun h1 h2=>Aa rfl h1 h2:_→_→_) ?_ ?_
 refine (fun h1=>Ac h1:_→_) ?_
 exact Ai
 refine (fun h1 h2=>Aa rfl h1 h2:_→_→_) ?_ ?_
 refine (fun h1=>Ac h1:_→_) ?_
 refine (fun h1=>Am h1:_→_) ?_
 refine (fun h1 h2=>Aa rfl h1 h2:_→_→_) ?_ ?_
 refine (fun h1=>Ac h1:_→_) ?_
 refine (fun h1=>Au h1:_→_) ?_
 refine (fun h1 h2=>Aa rfl h1 h2:_→_→_) ?_ ?_
 refine (fun h1=>Ac h1:_→_) ?_
 exact Av dK
 refine (fun h1 h2=>Aa rfl h1 h2:_→_→_) ?_ ?_
 refine (fun h1=>Ac h1:_→_) ?_
 refine (fun h1=>Am h1:_→_) ?_
 refine (fun h1 h2=>Aa rfl h1 h2:_→_→_) ?_ ?_
 refine (fun h1=>Ac h1:_→_) ?_
 exact Ai
 exact Af
 exact Af
 exact Af
 exact Af
 refine (fun h1 h2=>Aa rfl h1 h2:_→_→_) ?_ ?_
 refine (fun h1=>Ac h1:_→_) ?_
 refine (fun h1=>Au h1:_→_) ?_
 refine (fun h1 h2=>Aa rfl h1 h2:_→_→_) ?_ ?_
 refine (fun h1=>Ac h1:_→_) ?_
 exact Ai
 refine (fun h1 h2=>Aa rfl h1 h2:_→_→_) ?_ ?_
 refine (fun h1=>Ac h1:_→_) ?_
 refine (fun h1=>Am h1:_→_) ?_
 refine (fun h1 h2=>Aa rfl h1 h2:_→_→_) ?_ ?_
 refine (fun h1=>Ac h1:_→_) ?_
 refine (fun h1=>Au h1:_→_) ?_
 refine (fun h1 h2=>Aa rfl h1 h2:_→_→_) ?_ ?_
 refine (fun h1=>Ac h1:_→_) ?_
 exact Av dK
 refine (fun h1 h2=>Aa rfl h1 h2:_→_→_) ?_ ?_
 refine (fun h1=>Ac h1:_→_) ?_
 refine (fun h1=>Am h1:_→_) ?_
 refine (fun h1 h2=>Aa rfl h1 h2:_→_→_) ?_ ?_
 refine (fun h1=>Ac h1:_→_) ?_
 exact Ai
 exact Af
 exact Af
 exact Af
 exact Af
 refine (fun h1 h2=>Aa rfl h1 h2:_→_→_) ?_ ?_
 refine (fun h1=>Ac h1:_→_) ?_
 refine (fun h1=>Au h1:_→_) ?_
 refine (fun h1 h2=>Aa rfl h1 h2:_→_→_) ?_ ?_
 refine (fun h1=>Ac h1:_→_) ?_
 exact Av dK
 refine (fun h1 h2=>Aa rfl h1 h2:_→_→_) ?_ ?_
 refine (fun h1=>Ac h1:_→_) ?_
 refine (fun h1=>Am h1:_→_) ?_
 exact Af
 exact Af
 exact Af
 refine (fun h1 h2=>Ak h1 h2:_→_→_) ?_ ?_
 refine (fun h1=>AK 1 nd2 rfl (by walk_at "loc") rfl rfl h1:_→_) ?_
 refine (fun h1 h2=>AA A6 AW h1 h2:_→_→_) ?_ ?_
 walk_at "v1"
 refine (fun h1=>Am h1:_→_) ?_
 refine (fun h1 h2=>Aa rfl h1 h2:_→_→_) ?_ ?_
 refine (fun h1=>Ac h1:_→_) ?_
 refine (fun h1=>Au h1:_→_) ?_
 refine (fun h1 h2=>Aa rfl h1 h2:_→_→_) ?_ ?_
 refine (fun h1=>Ac h1:_→_) ?_
 exact CB
 refine (fun h1 h2=>Aa rfl h1 h2:_→_→_) ?_ ?_
 refine (fun h1=>Ac h1:_→_) ?_
 refine (fun h1=>Am h1:_→_) ?_
 refine (fun h1 h2=>Aa rfl h1 h2:_→_→_) ?_ ?_
 refine (fun h1=>Ac h1:_→_) ?_
 refine (fun h1=>Au h1:_→_) ?_
 refine (fun h1 h2=>Aa rfl h1 h2:_→_→_) ?_ ?_
 refine (fun h1=>Ac h1:_→_) ?_
 exact Av dK
 refine (fun h1 h2=>Aa rfl h1 h2:_→_→_) ?_ ?_
 refine (fun h1=>Ac h1:_→_) ?_
 refine (fun h1=>Am h1:_→_) ?_
 refine (fun h1 h2=>Aa rfl h1 h2:_→_→_) ?_ ?_
 refine (fun h1=>Ac h1:_→_) ?_
 exact Ai
 exact Af
 exact Af
 exact Af
 exact Af
 refine (fun h1 h2=>Aa rfl h1 h2:_→_→_) ?_ ?_
 refine (fun h1=>Ac h1:_→_) ?_
 refine (fun h1=>Am h1:_→_) ?_
 refine (fun h1 h2=>Aa rfl h1 h2:_→_→_) ?_ ?_
 refine (fun h1=>Ac h1:_→_) ?_
 exact Ai
 refine (fun h1 h2=>Aa rfl h1 h2:_→_→_) ?_ ?_
 refine (fun h1=>Ac h1:_→_) ?_
 refine (fun h1=>Am h1:_→_) ?_
 refine (fun h1 h2=>Aa rfl h1 h2:_→_→_) ?_ ?_
 refine (fun h1=>Ac h1:_→_) ?_
 refine (fun h1=>Au h1:_→_) ?_
 refine (fun h1 h2=>Aa rfl h1 h2:_→_→_) ?_ ?_
 refine (fun h1=>Ac h1:_→_) ?_
 exact Av dK
 refine (fun h1 h2=>Aa rfl h1 h2:_→_→_) ?_ ?_
 refine (fun h1=>Ac h1:_→_) ?_
 refine (fun h1=>Am h1:_→_) ?_
 refine (fun h1 h2=>Aa rfl h1 h2:_→_→_) ?_ ?_
 refine (fun h1=>Ac h1:_→_) ?_
 exact Ai
 exact Af
 exact Af
 exact Af
 exact Af
 refine (fun h1 h2=>Aa rfl h1 h2:_→_→_) ?_ ?_
 refine (fun h1=>Ac h1:_→_) ?_
 refine (fun h1=>Au h1:_→_) ?_
 refine (fun h1 h2=>Aa rfl h1 h2:_→_→_) ?_ ?_
 refine (fun h1=>Ac h1:_→_) ?_
 exact Ai
 refine (fun h1 h2=>Aa rfl h1 h2:_→_→_) ?_ ?_
 refine (fun h1=>Ac h1:_→_) ?_
 refine (fun h1=>Au h1:_→_) ?_
 refine (fun h1 h2=>Aa rfl h1 h2:_→_→_) ?_ ?_
 refine (fun h1=>Ac h1:_→_) ?_
 refine (fun h1=>Au h1:_→_) ?_
 refine (fun h1 h2=>Aa rfl h1 h2:_→_→_) ?_ ?_
 refine (fun h1=>Ac h1:_→_) ?_
 exact Av dK
 refine (fun h1 h2=>Aa rfl h1 h2:_→_→_) ?_ ?_
 refine (fun h1=>Ac h1:_→_) ?_
 refine (fun h1=>Am h1:_→_) ?_
 refine (fun h1 h2=>Aa rfl h1 h2:_→_→_) ?_ ?_
 refine (fun h1=>Ac h1:_→_) ?_
 exact Ai
 exact Af
 exact Af
 exact Af
 exact Af
 refine (fun h1 h2=>Aa rfl h1 h2:_→_→_) ?_ ?_
 refine (fun h1=>Ac h1:_→_) ?_
 refine (fun h1=>Au h1:_→_) ?_
 refine (fun h1 h2=>Aa rfl h1 h2:_→_→_) ?_ ?_
 refine (fun h1=>Ac h1:_→_) ?_
 exact Ai
 refine (fun h1 h2=>Aa rfl h1 h2:_→_→_) ?_ ?_
 refine (fun h1=>Ac h1:_→_) ?_
 refine (fun h1=>Am h1:_→_) ?_
 refine (fun h1 h2=>Aa rfl h1 h2:_→_→_) ?_ ?_
 refine (fun h1=>Ac h1:_→_) ?_
 refine (fun h1=>Am h1:_→_) ?_
 refine (fun h1 h2=>Aa rfl h1 h2:_→_→_) ?_ ?_
 refine (fun h1=>Ac h1:_→_) ?_
 exact Av dK
 refine (fun h1 h2=>Aa rfl h1 h2:_→_→_) ?_ ?_
 refine (fun h1=>Ac h1:_→_) ?_
 refine (fun h1=>Am h1:_→_) ?_
 refine (fun h1 h2=>Aa rfl h1 h2:_→_→_) ?_ ?_
 refine (fun h1=>Ac h1:_→_) ?_
 exact Ai
 exact Af
 exact Af
 exact Af
 exact Af
 refine (fun h1 h2=>Aa rfl h1 h2:_→_→_) ?_ ?_
 refine (fun h1=>Ac h1:_→_) ?_
 refine (fun h1=>Au h1:_→_) ?_
 refine (fun h1 h2=>Aa rfl h1 h2:_→_→_) ?_ ?_
 refine (fun h1=>Ac h1:_→_) ?_
 exact Ai
 refine (fun h1 h2=>Aa rfl h1 h2:_→_→_) ?_ ?_
 refine (fun h1=>Ac h1:_→_) ?_
 refine (fun h1=>Am h1:_→_) ?_
 refine (fun h1 h2=>Aa rfl h1 h2:_→_→_) ?_ ?_
 refine (fun h1=>Ac h1:_→_) ?_
 refine (fun h1=>Au h1:_→_) ?_
 refine (fun h1 h2=>Aa rfl h1 h2:_→_→_) ?_ ?_
 refine (fun h1=>Ac h1:_→_) ?_
 exact Av dK
 refine (fun h1 h2=>Aa rfl h1 h2:_→_→_) ?_ ?_
 refine (fun h1=>Ac h1:_→_) ?_
 refine (fun h1=>Am h1:_→_) ?_
 exact Af
 exact Af
 exact Af
 exact Af
 exact Af
 refine (fun h1 h2=>Ak h1 h2:_→_→_) ?_ ?_
 refine (fun h1=>AK 1 nd2 rfl (by walk_at "loc") rfl rfl h1:_→_) ?_
 refine (fun h1 h2=>AA A6 AW h1 h2:_→_→_) ?_ ?_
 walk_at "v1"
 refine (fun h1=>Am h1:_→_) ?_
 refine (fun h1 h2=>Aa rfl h1 h2:_→_→_) ?_ ?_
 refine (fun h1=>Ac h1:_→_) ?_
 refine (fun h1=>Au h1:_→_) ?_
 refine (fun h1 h2=>Aa rfl h1 h2:_→_→_) ?_ ?_
 refine (fun h1=>Ac h1:_→_) ?_
 exact Ai
 refine (fun h1 h2=>Aa rfl h1 h2:_→_→_) ?_ ?_
 refine (fun h1=>Ac h1:_→_) ?_
 refine (fun h1=>Am h1:_→_) ?_
 refine (fun h1 h2=>Aa rfl h1 h2:_→_→_) ?_ ?_
 refine (fun h1=>Ac h1:_→_) ?_
 refine (fun h1=>Au h1:_→_) ?_
 refine (fun h1 h2=>Aa rfl h1 h2:_→_→_) ?_ ?_
 refine (fun h1=>Ac h1:_→_) ?_
 exact Av dK
 refine (fun h1 h2=>Aa rfl h1 h2:_→_→_) ?_ ?_
 refine (fun h1=>Ac h1:_→_) ?_
 refine (fun h1=>Am h1:_→_) ?_
 refine (fun h1 h2=>Aa rfl h1 h2:_→_→_) ?_ ?_
 refine (fun h1=>Ac h1:_→_) ?_
 exact Ai
 exact Af
 exact Af
 exact Af
 exact Af
 refine (fun h1 h2=>Aa rfl h1 h2:_→_→_) ?_ ?_
 refine (fun h1=>Ac h1:_→_) ?_
 refine (fun h1=>Au h1:_→_) ?_
 refine (fun h1 h2=>Aa rfl h1 h2:_→_→_) ?_ ?_
 refine (fun h1=>Ac h1:_→_) ?_
 exact Ai
 refine (fun h1 h2=>Aa rfl h1 h2:_→_→_) ?_ ?_
 refine (fun h1=>Ac h1:_→_) ?_
 refine (fun h1=>Am h1:_→_) ?_
 refine (fun h1 h2=>Aa rfl h1 h2:_→_→_) ?_ ?_
 refine (fun h1=>Ac h1:_→_) ?_
 refine (fun h1=>Au h1:_→_) ?_
 refine (fun h1 h2=>Aa rfl h1 h2:_→_→_) ?_ ?_
 refine (fun h1=>Ac h1:_→_) ?_
 exact Av dK
 refine (fun h1 h2=>Aa rfl h1 h2:_→_→_) ?_ ?_
 refine (fun h1=>Ac h1:_→_) ?_
 refine (fun h1=>Am h1:_→_) ?_
 refine (fun h1 h2=>Aa rfl h1 h2:_→_→_) ?_ ?_
 refine (fun h1=>Ac h1:_→_) ?_
 exact Ai
 refine (fun h1 h2=>Aa rfl h1 h2:_→_→_) ?_ ?_
 refine (fun h1=>Ac h1:_→_) ?_
 exact Ai
 exact Af
 exact Af
 exact Af
 exact Af
 refine (fun h1 h2=>Aa rfl h1 h2:_→_→_) ?_ ?_
 refine (fun h1=>Ac h1:_→_) ?_
 refine (fun h1=>Au h1:_→_) ?_
 refine (fun h1 h2=>Aa rfl h1 h2:_→_→_) ?_ ?_
 refine (fun h1=>Ac h1:_→_) ?_
 exact Ai
 refine (fun h1 h2=>Aa rfl h1 h2:_→_→_) ?_ ?_
 refine (fun h1=>Ac h1:_→_) ?_
 refine (fun h1=>Am h1:_→_) ?_
 refine (fun h1 h2=>Aa rfl h1 h2:_→_→_) ?_ ?_
 refine (fun h1=>Ac h1:_→_) ?_
 refine (fun h1=>Au h1:_→_) ?_
 refine (fun h1 h2=>Aa rfl h1 h2:_→_→_) ?_ ?_
 refine (fun h1=>Ac h1:_→_) ?_
 exact Av dK
 refine (fun h1 h2=>Aa rfl h1 h2:_→_→_) ?_ ?_
 refine (fun h1=>Ac h1:_→_) ?_
 refine (fun h1=>Am h1:_→_) ?_
 refine (fun h1 h2=>Aa rfl h1 h2:_→_→_) ?_ ?_
 refine (fun h1=>Ac h1:_→_) ?_
 exact Ai
 refine (fun h1 h2=>Aa rfl h1 h2:_→_→_) ?_ ?_
 refine (fun h1=>Ac h1:_→_) ?_
 exact Ai
 exact Af
 exact Af
 exact Af
 exact Af
 refine (fun h1 h2=>Aa rfl h1 h2:_→_→_) ?_ ?_
 refine (fun h1=>Ac h1:_→_) ?_
 refine (fun h1=>Au h1:_→_) ?_
 refine (fun h1 h2=>Aa rfl h1 h2:_→_→_) ?_ ?_
 refine (fun h1=>Ac h1:_→_) ?_
 exact Ai
 refine (fun h1 h2=>Aa rfl h1 h2:_→_→_) ?_ ?_
 refine (fun h1=>Ac h1:_→_) ?_
 refine (fun h1=>Am h1:_→_) ?_
 refine (fun h1 h2=>Aa rfl h1 h2:_→_→_) ?_ ?_
 refine (fun h1=>Ac h1:_→_) ?_
 refine (fun h1=>Au h1:_→_) ?_
 refine (fun h1 h2=>Aa rfl h1 h2:_→_→_) ?_ ?_
 refine (fun h1=>Ac h1:_→_) ?_
 exact Av dK
 refine (fun h1 h2=>Aa rfl h1 h2:_→_→_) ?_ ?_
 refine (fun h1=>Ac h1:_→_) ?_
 refine (fun h1=>Au h1:_→_) ?_
 refine (fun h1 h2=>Aa rfl h1 h2:_→_→_) ?_ ?_
 refine (fun h1=>Ac h1:_→_) ?_
 exact Ai
 exact Af
 exact Af
 exact Af
 exact Af
 exact Af
 refine (fun h1 h2=>Ak h1 h2:_→_→_) ?_ ?_
 refine (fun h1=>AK 1 nd2 rfl (by walk_at "loc") rfl rfl h1:_→_) ?_
 refine (fun h1 h2=>AA A6 AW h1 h2:_→_→_) ?_ ?_
 walk_at "v1"
 refine (fun h1=>Am h1:_→_) ?_
 refine (fun h1 h2=>Aa rfl h1 h2:_→_→_) ?_ ?_
 refine (fun h1=>Ac h1:_→_) ?_
 refine (fun h1=>Au h1:_→_) ?_
 refine (fun h1 h2=>Aa rfl h1 h2:_→_→_) ?_ ?_
 refine (fun h1=>Ac h1:_→_) ?_
 exact Ai
 refine (fun h1 h2=>Aa rfl h1 h2:_→_→_) ?_ ?_
 refine (fun h1=>Ac h1:_→_) ?_
 refine (fun h1=>Am h1:_→_) ?_
 refine (fun h1 h2=>Aa rfl h1 h2:_→_→_) ?_ ?_
 refine (fun h1=>Ac h1:_→_) ?_
 refine (fun h1=>Au h1:_→_) ?_
 refine (fun h1 h2=>Aa rfl h1 h2:_→_→_) ?_ ?_
 refine (fun h1=>Ac h1:_→_) ?_
 exact Av dK
 refine (fun h1 h2=>Aa rfl h1 h2:_→_→_) ?_ ?_
 refine (fun h1=>Ac h1:_→_) ?_
 refine (fun h1=>Am h1:_→_) ?_
 refine (fun h1 h2=>Aa rfl h1 h2:_→_→_) ?_ ?_
 refine (fun h1=>Ac h1:_→_) ?_
 exact CB
 exact Af
 exact Af
 exact Af
 exact Af
 refine (fun h1 h2=>Aa rfl h1 h2:_→_→_) ?_ ?_
 refine (fun h1=>Ac h1:_→_) ?_
 refine (fun h1=>Au h1:_→_) ?_
 refine (fun h1 h2=>Aa rfl h1 h2:_→_→_) ?_ ?_
 refine (fun h1=>Ac h1:_→_) ?_
 exact Ai
 refine (fun h1 h2=>Aa rfl h1 h2:_→_→_) ?_ ?_
 refine (fun h1=>Ac h1:_→_) ?_
 refine (fun h1=>Am h1:_→_) ?_
 refine (fun h1 h2=>Aa rfl h1 h2:_→_→_) ?_ ?_
 refine (fun h1=>Ac h1:_→_) ?_
 refine (fun h1=>Au h1:_→_) ?_
 refine (fun h1 h2=>Aa rfl h1 h2:_→_→_) ?_ ?_
 refine (fun h1=>Ac h1:_→_) ?_
 exact Av dK
 refine (fun h1 h2=>Aa rfl h1 h2:_→_→_) ?_ ?_
 refine (fun h1=>Ac h1:_→_) ?_
 refine (fun h1=>Am h1:_→_) ?_
 refine (fun h1 h2=>Aa rfl h1 h2:_→_→_) ?_ ?_
 refine (fun h1=>Ac h1:_→_) ?_
 exact Ai
 exact Af
 exact Af
 exact Af
 exact Af
 refine (fun h1 h2=>Aa rfl h1 h2:_→_→_) ?_ ?_
 refine (fun h1=>Ac h1:_→_) ?_
 refine (fun h1=>Au h1:_→_) ?_
 refine (fun h1 h2=>Aa rfl h1 h2:_→_→_) ?_ ?_
 refine (fun h1=>Ac h1:_→_) ?_
 exact Ai
 refine (fun h1 h2=>Aa rfl h1 h2:_→_→_) ?_ ?_
 refine (fun h1=>Ac h1:_→_) ?_
 refine (fun h1=>Am h1:_→_) ?_
 refine (fun h1 h2=>Aa rfl h1 h2:_→_→_) ?_ ?_
 refine (fun h1=>Ac h1:_→_) ?_
 refine (fun h1=>Au h1:_→_) ?_
 refine (fun h1 h2=>Aa rfl h1 h2:_→_→_) ?_ ?_
 refine (fun h1=>Ac h1:_→_) ?_
 exact Av dK
 refine (fun h1 h2=>Aa rfl h1 h2:_→_→_) ?_ ?_
 refine (fun h1=>Ac h1:_→_) ?_
 refine (fun h1=>Am h1:_→_) ?_
 refine (fun h1 h2=>Aa rfl h1 h2:_→_→_) ?_ ?_
 refine (fun h1=>Ac h1:_→_) ?_
 exact Ai
 exact Af
 exact Af
 exact Af
 exact Af
 refine (fun h1 h2=>Aa rfl h1 h2:_→_→_) ?_ ?_
 refine (fun h1=>Ac h1:_→_) ?_
 refine (fun h1=>Au h1:_→_) ?_
 refine (fun h1 h2=>Aa rfl h1 h2:_→_→_) ?_ ?_
 refine (fun h1=>Ac h1:_→_) ?_
 exact Ai
 refine (fun h1 h2=>Aa rfl h1 h2:_→_→_) ?_ ?_
 refine (fun h1=>Ac h1:_→_) ?_
 refine (fun h1=>Am h1:_→_) ?_
 refine (fun h1 h2=>Aa rfl h1 h2:_→_→_) ?_ ?_
 refine (fun h1=>Ac h1:_→_) ?_
 refine (fun h1=>Au h1:_→_) ?_
 refine (fun h1 h2=>Aa rfl h1 h2:_→_→_) ?_ ?_
 refine (fun h1=>Ac h1:_→_) ?_
 exact Av dK
 refine (fun h1 h2=>Aa rfl h1 h2:_→_→_) ?_ ?_
 refine (fun h1=>Ac h1:_→_) ?_
 refine (fun h1=>Am h1:_→_) ?_
 refine (fun h1 h2=>Aa rfl h1 h2:_→_→_) ?_ ?_
 refine (fun h1=>Ac h1:_→_) ?_
 exact Ai
 exact Af
 exact Af
 exact Af
 exact Af
 refine (fun h1 h2=>Aa rfl h1 h2:_→_→_) ?_ ?_
 refine (fun h1=>Ac h1:_→_) ?_
 refine (fun h1=>Au h1:_→_) ?_
 refine (fun h1 h2=>Aa rfl h1 h2:_→_→_) ?_ ?_
 refine (fun h1=>Ac h1:_→_) ?_
 exact Ai
 refine (fun h1 h2=>Aa rfl h1 h2:_→_→_) ?_ ?_
 refine (fun h1=>Ac h1:_→_) ?_
 refine (fun h1=>Am h1:_→_) ?_
 refine (fun h1 h2=>Aa rfl h1 h2:_→_→_) ?_ ?_
 refine (fun h1=>Ac h1:_→_) ?_
 refine (fun h1=>Au h1:_→_) ?_
 refine (fun h1 h2=>Aa rfl h1 h2:_→_→_) ?_ ?_
 refine (fun h1=>Ac h1:_→_) ?_
 exact Av dK
 refine (fun h1 h2=>Aa rfl h1 h2:_→_→_) ?_ ?_
 refine (fun h1=>Ac h1:_→_) ?_
 refine (fun h1=>Am h1:_→_) ?_
 refine (fun h1 h2=>Aa rfl h1 h2:_→_→_) ?_ ?_
 refine (fun h1=>Ac h1:_→_) ?_
 refine (fun h1=>N3 Kq K5 h1:_→_) ?_
 exact Ai
 exact Af
 exact Af
 exact Af
 exact Af
 exact Af
 refine (fun h1 h2=>Ak h1 h2:_→_→_) ?_ ?_
 refine (fun h1=>AK 1 nd2 rfl (by walk_at "loc") rfl rfl h1:_→_) ?_
 refine (fun h1 h2=>AA A6 AW h1 h2:_→_→_) ?_ ?_
 walk_at "v1"
 refine (fun h1=>Am h1:_→_) ?_
 refine (fun h1 h2=>Aa rfl h1 h2:_→_→_) ?_ ?_
 refine (fun h1=>Ac h1:_→_) ?_
 refine (fun h1=>Au h1:_→_) ?_
 refine (fun h1 h2=>Aa rfl h1 h2:_→_→_) ?_ ?_
 refine (fun h1=>Ac h1:_→_) ?_
 exact Ai
 refine (fun h1 h2=>Aa rfl h1 h2:_→_→_) ?_ ?_
 refine (fun h1=>Ac h1:_→_) ?_
 refine (fun h1=>Am h1:_→_) ?_
 refine (fun h1 h2=>Aa rfl h1 h2:_→_→_) ?_ ?_
 refine (fun h1=>Ac h1:_→_) ?_
 refine (fun h1=>Au h1:_→_) ?_
 refine (fun h1 h2=>Aa rfl h1 h2:_→_→_) ?_ ?_
 refine (fun h1=>Ac h1:_→_) ?_
 exact Av dK
 refine (fun h1 h2=>Aa rfl h1 h2:_→_→_) ?_ ?_
 refine (fun h1=>Ac h1:_→_) ?_
 refine (fun h1=>Am h1:_→_) ?_
 refine (fun h1 h2=>Aa rfl h1 h2:_→_→_) ?_ ?_
 refine (fun h1=>Ac h1:_→_) ?_
 exact Ai
 exact Af
 exact Af
 refine (fun h1 h2=>Aa rfl h1 h2:_→_→_) ?_ ?_
 refine (fun h1=>Ac h1:_→_) ?_
 refine (fun h1=>Au h1:_→_) ?_
 refine (fun h1 h2=>Aa rfl h1 h2:_→_→_) ?_ ?_
 refine (fun h1=>Ac h1:_→_) ?_
 exact Av dK
 refine (fun h1 h2=>Aa rfl h1 h2:_→_→_) ?_ ?_
 refine (fun h1=>Ac h1:_→_) ?_
 refine (fun h1=>Am h1:_→_) ?_
 refine (fun h1 h2=>Aa rfl h1 h2:_→_→_) ?_ ?_
 refine (fun h1=>Ac h1:_→_) ?_
 exact Ai
 exact Af
 exact Af
 exact Af
 exact Af
 refine (fun h1 h2=>Aa rfl h1 h2:_→_→_) ?_ ?_
 refine (fun h1=>Ac h1:_→_) ?_
 refine (fun h1=>Au h1:_→_) ?_
 refine (fun h1 h2=>Aa rfl h1 h2:_→_→_) ?_ ?_
 refine (fun h1=>Ac h1:_→_) ?_
 exact Ai
 refine (fun h1 h2=>Aa rfl h1 h2:_→_→_) ?_ ?_
 refine (fun h1=>Ac h1:_→_) ?_
 refine (fun h1=>Am h1:_→_) ?_
 refine (fun h1 h2=>Aa rfl h1 h2:_→_→_) ?_ ?_
 refine (fun h1=>Ac h1:_→_) ?_
 refine (fun h1=>Au h1:_→_) ?_
 refine (fun h1 h2=>Aa rfl h1 h2:_→_→_) ?_ ?_
 refine (fun h1=>Ac h1:_→_) ?_
 exact Av dK
 refine (fun h1 h2=>Aa rfl h1 h2:_→_→_) ?_ ?_
 refine (fun h1=>Ac h1:_→_) ?_
 refine (fun h1=>Am h1:_→_) ?_
 refine (fun h1 h2=>Aa rfl h1 h2:_→_→_) ?_ ?_
 refine (fun h1=>Ac h1:_→_) ?_
 exact Ai
 exact Af
 exact Af
 refine (fun h1 h2=>Aa rfl h1 h2:_→_→_) ?_ ?_
 refine (fun h1=>Ac h1:_→_) ?_
 refine (fun h1=>Au h1:_→_) ?_
 refine (fun h1 h2=>Aa rfl h1 h2:_→_→_) ?_ ?_
 refine (fun h1=>Ac h1:_→_) ?_
 exact Av dK
 refine (fun h1 h2=>Aa rfl h1 h2:_→_→_) ?_ ?_
 refine (fun h1=>Ac h1:_→_) ?_
 refine (fun h1=>Am h1:_→_) ?_
 refine (fun h1 h2=>Aa rfl h1 h2:_→_→_) ?_ ?_
 refine (fun h1=>Ac h1:_→_) ?_
 exact Ai
 exact Af
 exact Af
 exact Af
 exact Af
 refine (fun h1 h2=>Aa rfl h1 h2:_→_→_) ?_ ?_
 refine (fun h1=>Ac h1:_→_) ?_
 refine (fun h1=>Au h1:_→_) ?_
 refine (fun h1 h2=>Aa rfl h1 h2:_→_→_) ?_ ?_
 refine (fun h1=>Ac h1:_→_) ?_
 exact Ai
 refine (fun h1 h2=>Aa rfl h1 h2:_→_→_) ?_ ?_
 refine (fun h1=>Ac h1:_→_) ?_
 refine (fun h1=>Am h1:_→_) ?_
 refine (fun h1 h2=>Aa rfl h1 h2:_→_→_) ?_ ?_
 refine (fun h1=>Ac h1:_→_) ?_
 refine (fun h1=>Au h1:_→_) ?_
 refine (fun h1 h2=>Aa rfl h1 h2:_→_→_) ?_ ?_
 refine (fun h1=>Ac h1:_→_) ?_
 exact Av dK
 refine (fun h1 h2=>Aa rfl h1 h2:_→_→_) ?_ ?_
 refine (fun h1=>Ac h1:_→_) ?_
 refine (fun h1=>Am h1:_→_) ?_
 refine (fun h1 h2=>Aa rfl h1 h2:_→_→_) ?_ ?_
 refine (fun h1=>Ac h1:_→_) ?_
 exact Ai
 exact Af
 exact Af
 exact Af
 refine (fun h1 h2=>Aa rfl h1 h2:_→_→_) ?_ ?_
 refine (fun h1=>Ac h1:_→_) ?_
 exact Ai
 exact Af
 exact Af
 refine (fun h1 h2=>Ak h1 h2:_→_→_) ?_ ?_
 refine (fun h1=>AK 1 nd2 rfl (by walk_at "loc") rfl rfl h1:_→_) ?_
 refine (fun h1 h2=>AA A6 AW h1 h2:_→_→_) ?_ ?_
 walk_at "v1"
 refine (fun h1=>Am h1:_→_) ?_
 refine (fun h1 h2=>Aa rfl h1 h2:_→_→_) ?_ ?_
 refine (fun h1=>Ac h1:_→_) ?_
 refine (fun h1=>Au h1:_→_) ?_
 refine (fun h1 h2=>Aa rfl h1 h2:_→_→_) ?_ ?_
 refine (fun h1=>Ac h1:_→_) ?_
 exact Ai
 refine (fun h1 h2=>Aa rfl h1 h2:_→_→_) ?_ ?_
 refine (fun h1=>Ac h1:_→_) ?_
 refine (fun h1 h2 h3=>Dm (by rfl) rfl nd2 (by rfl) (fun _=>rfl) h1 h2 h3:_→_→_→_) ?_ ?_ ?_
 refine (fun h1=>MU h1:_→_) ?_
 exact Av dK
 exact CM
 intro _ _ _ _ _
 refine (fun h1=>Au h1:_→_) ?_
 refine (fun h1 h2=>Aa rfl h1 h2:_→_→_) ?_ ?_
 refine (fun h1=>Ac h1:_→_) ?_
 walk_at "v0"
 refine (fun h1 h2=>Aa rfl h1 h2:_→_→_) ?_ ?_
 refine (fun h1=>Ac h1:_→_) ?_
 refine (fun h1=>Am h1:_→_) ?_
 refine (fun h1 h2=>Aa rfl h1 h2:_→_→_) ?_ ?_
 refine (fun h1=>Ac h1:_→_) ?_
 exact Ai
 exact Af
 exact Af
 exact Af
 exact Af
 refine (fun h1=>An h1:_→_) ?_
 refine (fun h1=>AH h1:_→_) ?_
 refine (fun h1 h2=>AX AY AD (fun _ _=>rfl) h1 h2:_→_→_) ?_ ?_
 walk_at "v1"
 refine Ap Aq Ar rfl rfl rfl rfl rfl hr (by decide) AM dK rfl rfl rfl ?_
 refine (fun h1 h2=>Aa rfl h1 h2:_→_→_) ?_ ?_
 walk_at "v0"
 refine (fun h1 h2=>Aa rfl h1 h2:_→_→_) ?_ ?_
 refine AE BP A1 B.len Boot.«len» dK dK rfl rfl rfl ?_
 refine (fun h1 h2=>Aa rfl h1 h2:_→_→_) ?_ ?_
 walk_at "v1"
 exact Af
 exact Af
theorem UB {f c b:Addr} {fd:FuncData} (F:Fun K "law" "law" (top 78) f fd) (hn:PySem.W.nsIn K mainGlobals Bi = some (some (.ref f))) (ht:PySem.W.tabIn K Bi = some (c,b)) (hh:PySem.W.codeHdIn K c b = true) (B:Blt mg K) (B2:Blt2 mg) (ED:Def P w K mg base CX0 3 "_law_drawn" ["_law_cell_here","_law_most"] (spJ K C8 2)) (Aq:Def P w K mg base CX0 1 "_law_take" ["_law_bag_here","_law_many"] (spJ K Aj 2)) (Dj:Def P w K mg base CX0 2 "_law_odd_past" ["_law_bag_here","_law_row_here","_law_below_here"] (spJ K B9 3)) (DG:Def P w K mg base CX0 2 "_law_odd_row" ["_law_bag_here","_law_house_here"] (spJ K Cn 2)) (EC:Def P w K mg base CX0 2 "_law_below" ["_law_house_here","_law_row_here"] (spJ K C7 2)) (B1:Def P w K mg base CX0 16 "_law_refused" ["_law_which","_law_house_here","_law_row_here","_law_thing"] (spJ K Bl 4)) (DB:Def P w K mg base CX0 12 "is_past" ["house","row","thing"] (spJ K C0 3)) (EX:Def P w K mg base CX0 1 "_law_cell" ["_law_script","_law_k"] (spJ K Dx 2)) (CU:Def P w K mg base CX0 2 "_law_odd_house" ["_law_bag_here"] (spJ K BY 1)) :
  FnOk P w K mg base CX0 17 f fd ["_law_script"] (spJ K GQ 1):=by
 refine TL (N:=["_law_script","_law_k","_law_bag_here","_law_house_here","_law_row_here","_law_which","_law_odd","_law_bad"]) F hn ht ⟨rfl,rfl,rfl,dK,rfl,dK,dK⟩ fun A outer s H E hr=>?_
 have nd8:List.Nodup (["_law_script","_law_k","_law_bag_here","_law_house_here","_law_row_here","_law_which","_law_odd","_law_bad"]:List Str):=by decide +kernel
 refine Ak ?_ ?_
 refine FZ PassesOwn.never rfl ?_ ?_ ?_ (fun _=>rfl)
 refine D3 rfl B.range rfl ?_
 refine AE UC (OF rfl) B.max Boot.«max» dK dK rfl rfl rfl ?_
 refine Aa rfl ?_ ?_
 exact Ai
 refine Aa rfl ?_ ?_
 refine AE UD (OG rfl) B.min Boot.«min» dK dK rfl rfl rfl ?_
 refine Aa rfl ?_ ?_
 exact Ai
 refine Aa rfl ?_ ?_
 refine AE BP A1 B.len Boot.«len» dK dK rfl rfl rfl ?_
 refine Aa rfl ?_ ?_
 walk_at "v0"
 exact Af
 exact Af
 exact Af
 exact G6 1 nd8 rfl (by walk_at "loc") rfl
 refine Ak ?_ ?_
 refine Uh ?_ rfl rfl rfl ?_
 refine Od rfl ?_ rfl rfl
 refine Fg 2 nd8 rfl (by walk_at "loc") rfl ?_ rfl
 refine Fg 3 nd8 rfl (by walk_at "loc") rfl ?_ rfl
 refine Fg 4 nd8 rfl (by walk_at "loc") rfl ?_ rfl
 exact Of
 refine Ap ED Ar rfl rfl rfl rfl rfl hr (by decide) AM dK rfl rfl rfl ?_
 refine Aa rfl ?_ ?_
 refine AA A6 AW ?_ ?_
 refine Ap EX Ar rfl rfl rfl rfl rfl hr (by decide) AM dK rfl rfl rfl ?_
 refine Aa rfl ?_ ?_
 walk_at "v0"
 refine Aa rfl ?_ ?_
 walk_at "v1"
 exact Af
 walk_at "v1"
 refine Aa rfl ?_ ?_
 exact Ai
 exact Af
 refine Ak ?_ ?_
 refine AK 4 nd8 rfl (by walk_at "loc") rfl rfl ?_
 refine RQ ?_ ?_
 walk_at "v4"
 exact Ai
 refine Ak ?_ ?_
 refine AK 5 nd8 rfl (by walk_at "loc") rfl rfl ?_
 refine Ap Aq Ar rfl rfl rfl rfl rfl hr (by decide) AM dK rfl rfl rfl ?_
 refine Aa rfl ?_ ?_
 walk_at "v2"
 refine Aa rfl ?_ ?_
 exact Ai
 exact Af
 refine Ak ?_ ?_
 refine AK 6 nd8 rfl (by walk_at "loc") rfl rfl ?_
 refine Ap Dj Ar rfl rfl rfl rfl rfl hr (by decide) AM dK rfl rfl rfl ?_
 refine Aa rfl ?_ ?_
 walk_at "v2"
 refine Aa rfl ?_ ?_
 walk_at "v4"
 refine Aa rfl ?_ ?_
 refine Ap EC Ar rfl rfl rfl rfl rfl hr (by decide) AM dK rfl rfl rfl ?_
 refine Aa rfl ?_ ?_
 walk_at "v3"
 refine Aa rfl ?_ ?_
 walk_at "v4"
 exact Af
 exact Af
 refine Ak ?_ ?_
 refine AK 7 nd8 rfl (by walk_at "loc") rfl rfl ?_
 refine Ap DG Ar rfl rfl rfl rfl rfl hr (by decide) AM dK rfl rfl rfl ?_
 refine Aa rfl ?_ ?_
 walk_at "v2"
 refine Aa rfl ?_ ?_
 walk_at "v3"
 exact Af
 refine Ak ?_ ?_
 refine B4 ?_ ?_ ?_
 refine BA N8 (Ng hr) (Bm _) ?_ ?_
 refine Ap B1 Gd rfl rfl rfl rfl rfl hr (by decide) AM dK rfl rfl rfl ?_
 refine Aa rfl ?_ ?_
 walk_at "v5"
 refine Aa rfl ?_ ?_
 refine Ap CU Ar rfl rfl rfl rfl rfl hr (by decide) AM dK rfl rfl rfl ?_
 refine Aa rfl ?_ ?_
 walk_at "v2"
 exact Af
 refine Aa rfl ?_ ?_
 refine AX AY AD (fun _ _=>rfl) ?_ ?_
 refine Am ?_
 refine Aa rfl ?_ ?_
 refine Ac ?_
 walk_at "v7"
 refine Aa rfl ?_ ?_
 refine Ac ?_
 walk_at "v4"
 exact Af
 refine Ap Aq Ar rfl rfl rfl rfl rfl hr (by decide) AM dK rfl rfl rfl ?_
 refine Aa rfl ?_ ?_
 walk_at "v2"
 refine Aa rfl ?_ ?_
 exact Ai
 exact Af
 refine Aa rfl ?_ ?_
 walk_at "v6"
 exact Af
 exact Av dK
 refine An ?_
 refine AH ?_
 exact CB
 exact Ba
 refine Ak ?_ ?_
 refine B4 ?_ ?_ ?_
 refine BA N8 (Ng hr) (Bm _) ?_ ?_
 refine Ap B1 Gd rfl rfl rfl rfl rfl hr (by decide) AM dK rfl rfl rfl ?_
 refine Aa rfl ?_ ?_
 walk_at "v5"
 refine Aa rfl ?_ ?_
 walk_at "v3"
 refine Aa rfl ?_ ?_
 walk_at "v7"
 refine Aa rfl ?_ ?_
 refine AX AY AD (fun _ _=>rfl) ?_ ?_
 refine Am ?_
 refine Aa rfl ?_ ?_
 refine Ac ?_
 walk_at "v6"
 refine Aa rfl ?_ ?_
 refine Ac ?_
 refine Am ?_
 exact Af
 exact Af
 refine Ap Aq Ar rfl rfl rfl rfl rfl hr (by decide) AM dK rfl rfl rfl ?_
 refine Aa rfl ?_ ?_
 walk_at "v2"
 refine Aa rfl ?_ ?_
 exact Ai
 exact Af
 exact Af
 exact Av dK
 refine An ?_
 refine AH ?_
 exact CB
 exact Ba
 refine Ak ?_ ?_
 refine B4 ?_ ?_ ?_
 refine BA Uz UK (Bm _) ?_ ?_
 refine Ap DB Ar rfl rfl rfl rfl rfl hr (by decide) AM dK rfl rfl rfl ?_
 refine Aa rfl ?_ ?_
 walk_at "v3"
 refine Aa rfl ?_ ?_
 walk_at "v4"
 refine Aa rfl ?_ ?_
 walk_at "v6"
 exact Af
 exact CB
 refine An ?_
 refine AH ?_
 exact CB
 exact Ba
 refine An ?_
 refine B4 ?_ ?_ ?_
 refine BA N8 (Ng hr) (Bm _) ?_ ?_
 refine Ap B1 Gd rfl rfl rfl rfl rfl hr (by decide) AM dK rfl rfl rfl ?_
 refine Aa rfl ?_ ?_
 refine AA A6 AW ?_ ?_
 exact Ai
 refine Ap Aq Ar rfl rfl rfl rfl rfl hr (by decide) AM dK rfl rfl rfl ?_
 refine Aa rfl ?_ ?_
 walk_at "v2"
 refine Aa rfl ?_ ?_
 exact Ai
 exact Af
 refine Aa rfl ?_ ?_
 walk_at "v3"
 refine Aa rfl ?_ ?_
 walk_at "v4"
 refine Aa rfl ?_ ?_
 walk_at "v6"
 exact Af
 exact Av dK
 refine An ?_
 refine AH ?_
 exact CB
 exact Ba
 refine An ?_
 refine AH ?_
 exact CB
end
end Gk26
end
section
namespace Gk26
open PySem L2 J St
local macro_rules | `(tactic| walk_at "ev")=>do
 let l ← ("on1 on2 on3 FR GZ BJ CP fzU EK Fj AF ifS AR opM m1L m2L Ab Ah Ae Ag peeks peek er ers DX J.andM J.notM Ry orT Dp IL Ad share move moves keep A5 mkT lstM vals fzs Ca Hx AL K6 BS Eh J2 retS Bj Fo free LX EZ Ln DQ Al Cq E1 refs back Ny GD FE isInt isBool Hi isTup isStr A4 C6 FT Kh LF Lo Sr Ez Hu Gg Mw GX Pu Cb ixA BJ CP fzU EK Fj Option.some_or Option.none_or Option.bind_none Bh DR atI ixN eqA neA ltA leA gtA geA Lu Dr nameOf lock unlock shB NA Hm Ge KJ Jr HZ Q8 WR slF own E7 Hh HV Gn FH DC Lv J4 MO inA Cw".splitOn " ").mapM fun s=>`(Lean.Parser.Tactic.simpLemma| $(Lean.mkIdent s.toName):ident)
 let l:=l.toArray
 `(tactic| simp [-List.map_map,$l,*, *])
structure Hs where
 n:Int
 ls:List (Nat × List Int)
noncomputable def chD (c:Nat):D:=.str ⟨#[c]⟩
noncomputable def ld (p:Nat × List Int):D:=.tup [chD p.1,.lst (iL p.2)]
noncomputable def Hs.d (h:Hs):D:=.tup [.int h.n,.lst (h.ls.map ld)]
structure Hs.Ok (h:Hs):Prop where
 n1:2≤h.n
 n2:h.n≤4
 l1:1≤h.ls.length
 l2:h.ls.length≤6
 ch:∀ p∈h.ls,97≤p.1∧p.1≤122
 ri:(h.ls.map (·.1)).Pairwise (· < ·)
 hs:∀ p∈h.ls,p.2≠[]∧p.2.Pairwise (· < ·)∧∀ x∈p.2,0≤x∧x < h.n
@[simp] theorem Nu (st:Own) (d:D):B3 [(st,.fz d)] = some (.fz (.bl (isInt d && !isBool d)),[.fz d]):=by
 simp only [B3,fnM,Gk]
 cases d <;> walk_at "ev"
@[simp] theorem Ol (s1 s2:Own) (i b:Int):Bb [(s1,.fz (.int i)),(s2,.fz (.int b))] = some (.fz (.bl (decide (0≤i) && decide (i < b))),[.fz (.int i),.fz (.int b)]):=by
 simp only [Bb,fnM,Dt]
 by_cases h0:0≤i <;> walk_at "ev" <;> simp [h0]
@[simp] theorem Jx (st:Own) (x y:D):Ct [(st,.fz (.tup [x,y]))] = some (.fz (.bl true),[.fz (.tup [x,y])]):=by
 simp only [Ct,fnM,Hf]
 walk_at "ev"
theorem Ms {α:Type} (xs:List α) (f:α → Bool):(xs.map f).all id = xs.all f:=by simp [List.all_map]
theorem Jf (s1 s2:Own) (xs:List Int) (b:Int) (hl:xs.length≤LIM):BB [(s1,.fz (.lst (iL xs))),(s2,.fz (.int b))] = some (.fz (.bl (xs.all fun i=>decide (0≤i) && decide (i < b))),[.fz (.lst (iL xs)),.fz (.int b)]):=by
 have hc:=CY (it:=Dr (Ae 0)) (e:=Al Bb (Ab (Ae 0) (Ab (Ae 2) Ah))) (ρ:=[some (s1,.fz (.lst (iL xs))),some (s2,.fz (.int b))]) (ρ1:=[some (s1,.fz (.lst (iL xs))),some (s2,.fz (.int b))]) (ds:=iL xs) (n:=none) (f:=fun d=>.bl (decide (0≤nD d) && decide (nD d < b))) (by walk_at "ev") (by simpa using hl) (fun d hd=>by
  obtain ⟨i,_,rfl⟩:=Kg.mp hd
  refine ⟨.val (.fz (.bl (decide (0≤i) && decide (i < b)))),?_,?_⟩ <;> walk_at "ev" <;> rfl)
 rw [Ke (fun i=>D.bl (decide (0≤i) && decide (i < b)))] at hc
 refine BO (ρ:=[some (s1,.fz (.lst (iL xs))),some (s2,.fz (.int b))]) rfl ?_
 show BW [some (s1,.fz (.lst (iL xs))),some (s2,.fz (.int b))] = _
 unfold BW
 refine DS ?_
 simp only [on1,on2,on3,FR,GZ,BJ,CP,fzU,EK,Fj,opM,Ab,Ah,hc,Option.bind_some,Option.map_some,peeks,peek,Hm,DR,Ca,DC,Ms]
@[simp] theorem KG (s1 s2:Own) (xs:List Int) (b:Int) (hl:xs.length≤LIM):AU [(s1,.fz (.lst (iL xs))),(s2,.fz (.int b))] = some (.fz (.bl (xs.all fun i=>decide (0≤i) && decide (i < b))),[.fz (.lst (iL xs)),.fz (.int b)]):=by
 have e1:=Jf .own .own xs b hl
 simp only [AU,fnM,BU]
 clear hl
 walk_at "ev"
theorem BK {α:Type} {xs:List α} {k:Nat} {i:Int} (hi:i = k) (h:k < xs.length):atI xs i = some xs[k]:=by
 subst hi
 simp [atI,ixN,h]
theorem Q5 {xs:List Int} (h:xs.Pairwise (· < ·)) {k:Nat} (hk:k + 1 < xs.length):xs[k]'(by lia) < xs[k + 1]:=List.pairwise_iff_getElem.mp h k (k + 1) (by lia) hk (by lia)
theorem WE {ds:List D} (h:∀ d∈ds,d = .bl true):∃ bs:List Bool,Dk ds = some bs∧bs.all id = true:=by
 induction ds with
 | nil=>exact ⟨[],rfl,rfl⟩
 | cons d ds ih =>
  obtain ⟨bs,h1,h2⟩:=ih fun x hx=>h x (List.mem_cons_of_mem _ hx)
  have:=h d List.mem_cons_self
  subst this
  exact ⟨true :: bs,by simp [Dk,h1],by simpa using h2⟩
theorem all_true {it:MI} {e:ME} {ρ ρ1:Ro} {ds:List D} {n:Option Nat} (hi:it ρ = some (ds,n,ρ1)) (hl:ds.length≤LIM) (he:∀ d∈ds,e (J.own d :: lock ρ1 n) = some (.val (.fz (.bl true)),J.own d :: lock ρ1 n)) :
  opM Hm (Ab (Bf it 0 Ei e) Ah) ρ = some (.val (.fz (.bl true)),ρ1):=by
 have hc:=CY (f:=fun _=>.bl true) hi hl fun d hd=>⟨_,he d hd,by simp [share,er]⟩
 obtain ⟨bs,h1,h2⟩:=WE (ds:=ds.map fun _=>D.bl true) (by simp)
 simp only [on1,on2,on3,FR,GZ,BJ,CP,fzU,EK,Fj,opM,Ab,Ah,hc,Option.bind_some,Option.map_some,peeks,peek,Hm,DR,Ca,h1,h2]
theorem Md (s1 s2:Own) (xs:List Int) (b:Int) (hl:xs.length≤1000) (hr:xs.Pairwise (· < ·)) (hb:∀ x∈xs,0≤x∧x < b):AG [(s1,.fz (.lst (iL xs))),(s2,.fz (.int b))] = some (.fz (.bl true),[.fz (.lst (iL xs)),.fz (.int b)]):=by
 have hL:xs.length≤LIM:=Nat.le_trans hl (by decide)
 simp only [AG,fnM,Ck]
 have h1:(xs.all fun i=>decide (0≤i) && decide (i < b)) = true:=by simpa [List.all_eq_true] using hb
 have hc:=all_true (it:=Bw (opM C6 (m2L (opM Cb (Ab (Ae 0) Ah)) (Ag (.int 1))))) (e:=opM ltA (m2L (opM ixA (m2L (Ae 1) (Ae 0))) (opM ixA (m2L (Ae 1) (opM A4 (m2L (Ae 0) (Ag (.int 1)))))))) (ρ:=[some (s1,.fz (.lst (iL xs))),some (s2,.fz (.int b))]) (ds:=DU 0 ((xs.length:Int) - 1).toNat) (n:=none) (ρ1:=[some (s1,.fz (.lst (iL xs))),some (s2,.fz (.int b))])
  (by
   have : -(2 ^ 62)≤(xs.length:Int) - 1∧(xs.length:Int) - 1 < 2 ^ 62:=by lia
   simp only [Bw]; walk_at "ev"; lia) (by rw [He]; lia) (fun d hd=>by
   obtain ⟨j,hj⟩:=List.mem_iff_getElem?.mp hd
   obtain ⟨rfl,hj⟩:=Hd hj
   have hk:j + 1 < xs.length:=by lia
   have e1:=BK (xs:=iL xs) (i:=0 + (j:Int)) (k:=j) (by lia) (by simpa using (by lia:j < xs.length))
   have e2:=BK (xs:=iL xs) (i:=0 + (j:Int) + 1) (k:=j + 1) (by lia) (by simpa using hk)
   have e3:=Q5 hr hk
   simp only [iL,List.getElem_map] at e1 e2
   simp only [on1,on2,on3,FR,GZ,BJ,CP,fzU,EK,Fj,OR,opM,m2L,Ab,Ah,Ae,Ag,J.own,peeks,peek,ixA,BJ,CP,fzU,EK,Fj,Option.some_or,Option.none_or,Option.bind_none,Bh,A4,ltA,List.getElem?_cons_zero,List.getElem?_cons_succ,Option.bind_some,Option.map_some,iL,e1,e2,e3,decide_true])
 simp only [AF,ifS,Dp,AR,retS,Al,Ab,Ah,Ae,List.map_cons,List.map_nil,List.getElem?_cons_zero,List.getElem?_cons_succ,Option.bind_some,Option.map_some,Cq,E1,refs,List.nodup_nil,if_true,KG _ _ xs b hL,h1,back,peek,DX,Bool.not_true,Bool.false_eq_true,if_false,Bj,List.append_nil,List.length_cons,List.length_nil,Nat.sub_self,List.replicate_zero]
 simp [hc,move,GD]
theorem call_of {Φ:Fn} {ms:MA} {ρ ρ1 ρ2:Ro} {rs:List R} {as:List (Own × A)} {a:A} {os:List A} (h1:ms ρ = some (rs,ρ1)) (h2:Cq ρ1 rs = some as) (hn:decide (refs rs).Nodup = true) (h3 : Φ as = some (a,os)) (hb:back rs os ρ1 = ρ2):Al Φ ms ρ = some (.val a,ρ2):=by
 subst hb
 simp only [Al,h1,h2,h3,Option.bind_some,Option.map_some,if_pos (of_decide_eq_true hn)]
theorem CT {f:List A→Option A} {ms:MA} {ρ ρ1:Ro} {rs:List R} {as:List A} {c:A} (h1:ms ρ = some (rs,ρ1)) (h2:peeks ρ1 rs = some as) (h3:f as = some c):opM f ms ρ = some (.val c,ρ1):=by
 simp only [opM,h1,h2,h3,Option.bind_some,Option.map_some]
theorem ixL {T:List D} {i:Int} {d:D} (h:atI T i = some d):ixA [.lst (T.map A.fz),.fz (.int i)] = some (.fz d):=by
 simp only [on1,on2,on3,FR,GZ,ixA,BJ,fzU,EK,Bh,CP,Fj,Ca,h,Option.bind_some,Option.map_some,Option.some_or,Option.none_or,Option.bind_none]
theorem ixS {z:Str} {i:Int} {c:Nat} (h:atI z.cps.toList i = some c):ixA [.fz (.str z),.fz (.int i)] = some (.fz (chD c)):=by
 simp only [on1,on2,on3,FR,GZ,ixA,BJ,fzU,EK,Bh,CP,Fj,h,chD,Option.bind_some,Option.map_some,Option.some_or,Option.none_or,Option.bind_none,Option.map_none]
theorem NB {i j:Int} (h:decide (0≤j∧j≤1000000∧i.natAbs < 2 ^ 64) = true):Ez [.fz (.int i),.fz (.int j)] = some (.fz (.int (i * 2 ^ j.toNat))):=by
 simp only [on1,on2,on3,FR,GZ,Ez,FT,BJ,fzU,EK,Option.bind_some,h,if_true]
theorem Vh {i j:Int} (h:decide (0≤j) = true):Hu [.fz (.int i),.fz (.int j)] = some (.fz (.int (i / 2 ^ j.toNat))):=by
 simp only [on1,on2,on3,FR,GZ,Hu,FT,BJ,fzU,EK,Option.bind_some,h,if_true]
theorem Et {m1 m2:ME} {ρ ρ1 ρ2:Ro} {r1 r2:R} (h1:m1 ρ = some (r1,ρ1)) (h2:m2 ρ1 = some (r2,ρ2)):m2L m1 m2 ρ = some ([r1,r2],ρ2):=by
 simp only [m2L,Ab,Ah,h1,h2,Option.bind_some,Option.map_some]
theorem L7 {m:ME} {ρ ρ1:Ro} {n:Int} (h:m ρ = some (.val (.fz (.int n)),ρ1)) (h0 : -1000≤n) (h1:n≤1000000):Bw m ρ = some (DU 0 n.toNat,none,ρ1):=by
 have e0:(-(2 ^ 62)≤n∧n < 2 ^ 62) = True:=by simp; lia
 simp only [Bw,h,Option.bind_some,e0,if_true]
noncomputable abbrev oI (i:Int):Slot:=some (.own,.fz (.int i))
noncomputable abbrev pN (x:Slot):Prop:=x = none∨∃ d,x = some (Own.own,A.fz d)
local macro_rules | `(tactic| walk_at "eo")=>do
 let l ← ("AF ifS K6 BS Eh L8 Uq Ur AR opM m1L m2L Ab Ah Ae Ag peeks peek er ers DX J.andM J.notM orT Dp IL Ad share move moves keep A5 mkT lstM vals fzs Ca Hx AL K6 BS Eh J2 retS Bj Fo free LX EZ Ln DQ Al Cq E1 refs back Ny GD FE isInt isBool Hi isTup isStr A4 C6 FT Kh LF Lo Sr Ez Hu Gg Mw GX Pu Cb ixA BJ CP fzU EK Fj Option.some_or Option.none_or Option.bind_none Bh DR eqA neA ltA leA gtA geA Lu Dr nameOf lock unlock HK shB NA Hm Ge KJ Jr HZ Q8 slF J.own E7 Hh HV Gn FH DC Lv J4 MO Fu inA Cw Bw IE MB PD Ly HS on1 on2 on3 FR GZ Tu List.getElem?_cons_zero List.getElem?_cons_succ List.getElem?_nil Option.bind_some Option.bind_none Option.map_some Option.map_none List.map_cons List.map_nil List.cons_append List.nil_append List.append_nil List.length_cons List.length_nil List.length_map List.replicate_zero List.replicate_succ List.nodup_nil List.set_cons_zero List.set_cons_succ List.take_succ_cons List.take_zero if_true if_false Bool.not_true Bool.not_false Bool.false_eq_true reduceIte reduceCtorEq Nat.reduceSub Nat.reduceAdd Nat.sub_self Bool.true_and Bool.and_true Bool.false_and Bool.and_false Bool.true_or Bool.or_true Bool.false_or Bool.or_false decide_true decide_false beq_self_eq_true and_self and_true true_and Nat.zero_add List.nodup_cons List.not_mem_nil not_false_eq_true".splitOn " ").mapM fun s=>`(Lean.Parser.Tactic.simpLemma| $(Lean.mkIdent s.toName):ident)
 let l:=l.toArray
 `(tactic| simp only [$l,*, *])
theorem VR:(Str.ofString "a").cps.toList = [97]:=by decide +kernel
theorem VS:(Str.ofString "z").cps.toList = [122]:=by decide +kernel
theorem MZ (a b:Nat):([a] < [b])↔a < b:=by
 rw [List.cons_lt_cons_iff]
 constructor
 ·rintro (h | ⟨_,h⟩)
  ·exact h
  ·exact absurd h (List.not_lt_nil _)
 ·intro h; exact .inl h
theorem at0 {α:Type} (a:α) (xs:List α):atI (a :: xs) 0 = some a:=by simp [atI,ixN]
theorem at1 {α:Type} (a b:α) (xs:List α):atI (a :: b :: xs) 1 = some b:=by
 have:(1:Int) < ((xs.length:Int) + 1 + 1):=by lia
 simp [atI,ixN,this]
theorem SN (st:Own) (c:Nat) (h:97≤c∧c≤122):Br [(st,.fz (chD c))] = some (.fz (.bl true),[.fz (chD c)]):=by
 have e1:decide ([c] < [97]) = false:=by rw [decide_eq_false_iff_not,MZ]; lia
 have e2:decide ([122] < [c]) = false:=by rw [decide_eq_false_iff_not,MZ]; lia
 have e3:((Str.length ⟨#[c]⟩:Nat):Int) = 1:=rfl
 have e4:=VR
 have e5:=VS
 simp only [Br,fnM,Du,chD]
 walk_at "eo"
theorem SK (s1 s2:Own) (n:Int) (p:Nat × List Int) (h:97≤p.1∧p.1≤122) (hl:p.2.length≤1000) (h0:p.2≠[]) (hr:p.2.Pairwise (· < ·)) (hb:∀ x∈p.2,0≤x∧x < n):Cy [(s1,.fz (.int n)),(s2,.fz (ld p))] = some (.fz (.bl true),[.fz (.int n),.fz (ld p)]):=by
 have hp:decide ((0:Int) < (p.2.length:Int)) = true:=by
  have:=List.length_pos_iff.mpr h0
  simpa using this
 have e1:=at0 (chD p.1) [.lst (iL p.2)]
 have e2:=at1 (chD p.1) (.lst (iL p.2)) []
 have e3:=SN .own p.1 h
 have e4:=Md .own .own p.2 n hl hr hb
 have e5:=Jx .own (chD p.1) (.lst (iL p.2))
 clear hb hr h0 h hl
 simp only [Cy,fnM,Gi,ld]
 walk_at "eo"
theorem SI (st:Own) (n:Int) (h1:2≤n) (h2:n≤4):Bg [(st,.fz (.int n))] = some (.fz (.bl true),[.fz (.int n)]):=by
 have e1:=Nu .own (.int n)
 simp only [Bg,fnM,CS]
 walk_at "eo"
theorem Q6 {n lo:Int}:∀ {xs:List Int},xs.Pairwise (· < ·)→(∀ x∈xs,lo≤x∧x < n)→(xs.length:Int)≤max 0 (n - lo):=by
 intro xs
 induction xs generalizing lo with
 | nil=>intro _ _; simp; lia
 | cons x xs ih =>
  intro hp hb
  have:=ih (lo:=x + 1) (List.pairwise_cons.mp hp).2 fun y hy=>⟨by have:=(List.pairwise_cons.mp hp).1 y hy; lia,(hb y (List.mem_cons_of_mem _ hy)).2⟩
  have:=hb x List.mem_cons_self
  simp only [List.length_cons]
  lia
theorem Hs.Ok.hl {h:Hs} (ok:h.Ok):∀ p∈h.ls,p.2.length≤4:=fun p hp=>by
 obtain ⟨_,r,b⟩:=ok.hs p hp
 have n2:=ok.n2
 have:=Q6 r b
 lia
theorem Pg (s1 s2:Own) (h:Hs) (ok:h.Ok):CJ [(s1,.fz (.int h.n)),(s2,.fz (.lst (h.ls.map ld)))] = some (.fz (.bl true),[.fz (.int h.n),.fz (.lst (h.ls.map ld))]):=by
 have l1:=ok.l1
 have l2:=ok.l2
 have hlim:1000≤LIM:=by decide
 have hc1:=all_true (it:=Dr (Ae 1)) (e:=Al Cy (Ab (Ae 1) (Ab (Ae 0) Ah))) (ρ:=[some (s1,.fz (.int h.n)),some (s2,.fz (.lst (h.ls.map ld)))]) (ds:=h.ls.map ld) (n:=none) (ρ1:=[some (s1,.fz (.int h.n)),some (s2,.fz (.lst (h.ls.map ld)))])
  (by walk_at "eo") (by simp; lia) (fun d hd=>by
   obtain ⟨p,hp,rfl⟩:=List.mem_map.mp hd
   obtain ⟨h0,hr,hb⟩:=ok.hs p hp
   have e1:=SK .own .own h.n p (ok.ch p hp) (by have:=ok.hl p hp; lia) h0 hr hb
   clear hb hr h0 hd hp
   walk_at "eo")
 have hc2:=all_true (it:=Bw (opM C6 (m2L (opM Cb (Ab (Ae 1) Ah)) (Ag (.int 1))))) (e:=opM ltA (m2L (opM ixA (m2L (opM ixA (m2L (Ae 2) (Ae 0))) (Ag (.int 0)))) (opM ixA (m2L (opM ixA (m2L (Ae 2) (opM A4 (m2L (Ae 0) (Ag (.int 1)))))) (Ag (.int 0)))))) (ρ:=[some (s1,.fz (.int h.n)),some (s2,.fz (.lst (h.ls.map ld)))]) (ds:=DU 0 ((h.ls.length:Int) - 1).toNat) (n:=none) (ρ1:=[some (s1,.fz (.int h.n)),some (s2,.fz (.lst (h.ls.map ld)))])
  (by
   have e0:(-(2 ^ 62)≤(h.ls.length:Int) - 1∧(h.ls.length:Int) - 1 < 2 ^ 62) = True:=by simp; lia
   clear hc1
   walk_at "eo") (by rw [He]; lia) (fun d hd=>by
   obtain ⟨j,hj⟩:=List.mem_iff_getElem?.mp hd
   obtain ⟨rfl,hj⟩:=Hd hj
   have hk:j + 1 < h.ls.length:=by lia
   have e1:=BK (xs:=h.ls.map ld) (i:=0 + (j:Int)) (k:=j) (by lia) (by simpa using (by lia:j < h.ls.length))
   have e2:=BK (xs:=h.ls.map ld) (i:=0 + (j:Int) + 1) (k:=j + 1) (by lia) (by simpa using hk)
   have e3:(h.ls[j]'(by lia)).1 < (h.ls[j + 1]).1:=by
    have:=List.pairwise_iff_getElem.mp ok.ri j (j + 1) (by simp; lia) (by simpa using hk) (by lia)
    simpa using this
   simp only [List.getElem_map,ld,chD] at e1 e2
   have e4:decide ([(h.ls[j]'(by lia)).1] < [(h.ls[j + 1]).1]) = true:=by rw [decide_eq_true_iff]; exact (MZ _ _).mpr e3
   have e5:=at0 (D.str ⟨#[(h.ls[j]'(by lia)).1]⟩) [.lst (iL (h.ls[j]'(by lia)).2)]
   have e6:=at0 (D.str ⟨#[(h.ls[j + 1]).1]⟩) [.lst (iL (h.ls[j + 1]).2)]
   clear hc1 hd e3 hj l1 l2 hlim
   walk_at "eo")
 have e5:decide ((1:Int)≤(h.ls.length:Int)) = true:=by simp; lia
 have e6:decide ((h.ls.length:Int)≤6) = true:=by simp; lia
 clear l1 l2 hlim
 refine BO (ρ:=[some (s1,.fz (.int h.n)),some (s2,.fz (.lst (h.ls.map ld)))]) rfl ?_
 show Dl [some (s1,.fz (.int h.n)),some (s2,.fz (.lst (h.ls.map ld)))] = _
 unfold Dl
 rw [Ay (ρ1:=[some (s1,.fz (.int h.n)),some (s2,.fz (.lst (h.ls.map ld)))]) (by clear hc1 hc2; walk_at "eo"),Ay (RJ (not_of (K0 hc1)))]
 exact DS hc2
theorem Iz (st:Own) (h:Hs) (ok:h.Ok):BC [(st,.fz h.d)] = some (.fz (.bl true),[.fz h.d]):=by
 have e1:=Pg .own .own h ok
 have e2:=SI .own h.n ok.n1 ok.n2
 have e3:=Jx .own (.int h.n) (.lst (h.ls.map ld))
 have e4:=at0 (D.int h.n) [.lst (h.ls.map ld)]
 have e5:=at1 (D.int h.n) (.lst (h.ls.map ld)) []
 simp only [BC,fnM,Gj,Hs.d]
 walk_at "eo"
theorem ES (st:Own) (h:Hs) (ok:h.Ok):Cm [(st,.fz h.d)] = some (.fz .non,[.fz h.d]):=by
 have e1:=Iz .own h ok
 simp only [Cm,fnM,E6]
 walk_at "eo"
noncomputable def Hs.text (h:Hs):Str:=⟨(h.ls.map (·.1)).toArray⟩
theorem Jz:∀ (xs:List (Nat × List Int)),Hl (xs.map fun p=>chD p.1) = some (xs.map fun p=>(⟨#[p.1]⟩:Str))
 | []=>rfl
 | x :: xs=>by
  have ih:=Jz xs
  simp only [chD] at ih
  simp [Hl,chD,ih]
theorem PY (xs:List (Nat × List Int)):glue (xs.map fun p=>(⟨#[p.1]⟩:Str)) = ⟨(xs.map (·.1)).toArray⟩:=by
 unfold glue
 congr 1
 congr 1
 induction xs with
 | nil=>rfl
 | cons x xs ih=>simp at ih ⊢; exact ih
theorem Q9 (xs:List (Nat × List Int)):((xs.map fun p=>(⟨#[p.1]⟩:Str)).map (·.length)).sum = xs.length:=by
 induction xs with
 | nil=>rfl
 | cons x xs ih =>
  have:Str.length ⟨#[x.1]⟩ = 1:=rfl
  simp only [List.map_cons,List.sum_cons,ih,this,List.length_cons]
  lia
theorem ER (st:Own) (h:Hs) (ok:h.Ok):BV [(st,.fz h.d)] = some (.fz (.str h.text),[.fz h.d]):=by
 have e5:=at1 (D.int h.n) (.lst (h.ls.map ld)) []
 have l2:=ok.l2
 have hlim:1000≤LIM:=by decide
 have hc:=CY (it:=Dr (opM ixA (m2L (Ae 0) (Ag (.int 1))))) (e:=opM ixA (m2L (Ae 0) (Ag (.int 0)))) (ρ:=[some (st,.fz h.d)]) (ρ1:=[some (st,.fz h.d)]) (ds:=h.ls.map ld) (n:=none) (f:=fun d=>match d with | .tup (x :: _)=>x | d=>d)
  (by simp only [Hs.d]; walk_at "eo") (by simp; lia) (fun d hd=>by
   obtain ⟨p,hp,rfl⟩:=List.mem_map.mp hd
   have e6:=at0 (chD p.1) [.lst (iL p.2)]
   simp only [ld]
   refine ⟨.val (.fz (chD p.1)),?_,?_⟩ <;> clear hd hp e5 <;> walk_at "eo")
 have e1:(h.ls.map ld).map (fun d=>match d with | .tup (x :: _)=>x | d=>d) = h.ls.map fun p=>chD p.1:=by simp [ld]
 rw [e1] at hc
 have e2:=Jz h.ls
 have e3:=PY h.ls
 have e4:(((h.ls.map fun p=>(⟨#[p.1]⟩:Str)).map (·.length)).sum≤16777216) = True:=by rw [Q9]; simp; lia
 have e7:((Str.ofString "").length = 0) = True:=by
  have:(Str.ofString "").length = 0:=by decide +kernel
  simp [this]
 refine BO (ρ:=[some (st,.fz h.d)]) rfl ?_
 show DM [some (st,.fz h.d)] = _
 unfold DM
 refine DS ?_
 simp only [on1,on2,on3,FR,GZ,BJ,CP,fzU,EK,Fj,KJ,Ag,Option.bind_some,m1L,Ab,Ah,hc,Option.map_some,peeks,peek,Jr,e7,if_true,DR,Ca,e2,e4,e3,Hs.text]
noncomputable def Row (h:Hs) (z:Str):Prop:=z.length≤1000∧∀ c∈z.cps.toList,c∈h.ls.map (·.1)
theorem in_text (h:Hs) (c:Nat) (hc:c∈h.ls.map (·.1)):(!(Builtin.Str.occurrences h.text ⟨#[c]⟩ 0 h.text.length 1).isEmpty) = true:=by
 rw [StrLaws.found_one,decide_eq_true_iff]
 exact hc
theorem Mb (s1 s2:Own) (h:Hs) (ok:h.Ok) (z:Str) (hz:Row h z):Cz [(s1,.fz h.d),(s2,.fz (.str z))] = some (.fz (.bl true),[.fz h.d,.fz (.str z)]):=by
 have e1:=ES .own h ok
 have e2:=ER .own h ok
 have hlim:1000≤LIM:=by decide
 have e3:(z.length≤LIM) = True:=by have:=hz.1; simp; lia
 have hc:=all_true (it:=IE (Ae 1)) (e:=opM (inA false) (m2L (Ae 0) (Ae 3))) (ρ:=[some (s1,.fz h.d),some (s2,.fz (.str z)),some (.own,.fz (.str h.text))]) (ρ1:=[some (s1,.fz h.d),some (s2,.fz (.str z)),some (.own,.fz (.str h.text))]) (ds:=B7 z) (n:=none)
  (by walk_at "eo") (by
   have:(B7 z).length = z.length:=by simp [B7]; rfl
   rw [this]; have:=hz.1; lia) (fun d hd=>by
   simp only [B7,List.mem_map] at hd
   obtain ⟨c,hc,rfl⟩:=hd
   have e4:=in_text h c (hz.2 c hc)
   clear e1 e2 e3
   walk_at "eo")
 refine BO (ρ:=[some (s1,.fz h.d),some (s2,.fz (.str z)),some (.own,.fz (.str h.text))]) rfl ?_
 show Cs [some (s1,.fz h.d),some (s2,.fz (.str z)),none] = _
 unfold Cs
 clear hz
 rw [Ay (ρ1:=[some (s1,.fz h.d),some (s2,.fz (.str z)),none]) (by clear hc; walk_at "eo"),Ay (ρ1:=[some (s1,.fz h.d),some (s2,.fz (.str z)),none]) (by clear hc; walk_at "eo"),Ay (ρ1:=[some (s1,.fz h.d),some (s2,.fz (.str z)),some (.own,.fz (.str h.text))]) (by clear hc; walk_at "eo")]
 exact DS hc
theorem IA (s1 s2:Own) (h:Hs) (ok:h.Ok) (z:Str) (hz:Row h z):Dh [(s1,.fz h.d),(s2,.fz (.str z))] = some (.fz .non,[.fz h.d,.fz (.str z)]):=by
 have e1:=Mb .own .own h ok z hz
 simp only [Dh,fnM,Gm]
 clear hz
 walk_at "eo"
noncomputable def Hs.hands (h:Hs) (c:Nat):List Int:=((h.ls.find? fun p=>p.1 == c).map (·.2)).getD []
theorem MJ {h:Hs} (ok:h.Ok) {c:Nat} (hc:c∈h.ls.map (·.1)):∃ (j:Nat) (hj:j < h.ls.length),(h.ls[j]).1 = c∧Txt.find h.text ⟨#[c]⟩ = (j:Int)∧h.hands c = (h.ls[j]).2:=by
 obtain ⟨p,hp,rfl⟩:=List.mem_map.mp hc
 obtain ⟨j,hj,rfl⟩:=List.mem_iff_getElem.mp hp
 have nd:∀ k (hk:k < j),(h.ls[k]'(by lia)).1≠(h.ls[j]).1:=fun k hk=>by
  have:=List.pairwise_iff_getElem.mp ok.ri k j (by simp; lia) (by simpa using hj) hk
  simp at this
  lia
 refine ⟨j,hj,rfl,PM (by simp [Hs.text,hj]) (fun k hk=>?_),?_⟩
 ·have hk':k < h.ls.length:=by lia
  simp only [Hs.text]
  rw [List.getElem?_eq_getElem (by simpa using hk')]
  simp
  exact nd k hk
 ·have:h.ls.find? (fun p=>p.1 == (h.ls[j]).1) = some h.ls[j]:=by
   rw [List.find?_eq_some_iff_getElem]
   refine ⟨by simp,j,hj,rfl,fun k hk=>?_⟩
   have:=nd k hk
   simpa using this
  simp [Hs.hands,this]
noncomputable def hL (xs:List Int):A:=.lst ((iL xs).map A.fz)
theorem TR (xs ys:List Int):A.lst ((iL xs).map A.fz ++ (iL ys).map A.fz) = hL (xs ++ ys):=by simp [hL,iL]
theorem anyB {xs:List Int} {f:Int→Bool}:Dk (xs.map fun x=>D.bl (f x)) = some (xs.map f):=DC xs f
theorem FQ {α:Type} (xs:List α) (f:α → Bool):(xs.map f).any id = xs.any f:=by simp [List.any_map]
noncomputable def Hs.at (h:Hs) (z:Str) (i:Nat):List Int:=h.hands (z.cps.toList.getD i 0)
theorem Row.c {h:Hs} {z:Str} (hz:Row h z) {i:Nat} (hi:i < z.cps.toList.length):z.cps.toList.getD i 0∈h.ls.map (·.1):=by
 have:z.cps.toList.getD i 0 = z.cps.toList[i]:=by simp [List.getD,List.getElem?_eq_getElem hi]
 rw [this]
 exact hz.2 _ (List.getElem_mem hi)
theorem Hs.hands_len {h:Hs} (ok:h.Ok) (c:Nat):(h.hands c).length≤4:=by
 unfold Hs.hands
 cases e:h.ls.find? (fun p=>p.1 == c) with
 | none=>simp
 | some p=>simpa using ok.hl p (List.mem_of_find?_eq_some e)
theorem Om {z:Str} {i:Nat} {j:Int} (hj:j = i) (hi:i < z.cps.toList.length):atI z.cps.toList j = some (z.cps.toList.getD i 0):=by
 rw [BK hj hi]
 simp [List.getD,List.getElem?_eq_getElem hi]
theorem Nt (s1 s2:Own) (h:Hs) (ok:h.Ok) (c:Nat) (hc:c∈h.ls.map (·.1)):D1 [(s1,.fz h.d),(s2,.fz (chD c))] = some (.fz (.lst (iL (h.hands c))),[.fz h.d,.fz (chD c)]):=by
 have e1:=ER .own h ok
 have e5:=at1 (D.int h.n) (.lst (h.ls.map ld)) []
 obtain ⟨j,hj,e2,e3,e4⟩:=MJ ok hc
 have e6:(0≤Txt.find h.text ⟨#[c]⟩) = True:=by rw [e3]; simp
 have e7:=BK (xs:=h.ls.map ld) (i:=(j:Int)) (k:=j) rfl (by simpa using hj)
 have e8:ld (h.ls[j]) = .tup [chD c,.lst (iL (h.hands c))]:=by rw [ld,e2,e4]
 simp only [List.getElem_map] at e7
 rw [e8] at e7
 have e9:=at1 (chD c) (.lst (iL (h.hands c))) []
 rw [← e3] at e7
 clear e2 e3 e4 e8 hc
 refine BO (ρ:=[some (s1,.fz h.d),some (s2,.fz (chD c))]) rfl ?_
 show EI [some (s1,.fz h.d),some (s2,.fz (chD c))] = _
 simp only [EI,Hs.d,chD] at e1 ⊢
 simp only [chD] at e7 e9
 walk_at "eo"
theorem Iy (s1 s2:Own) (xs ys:List Int) (hl:xs.length≤1000):BN [(s1,.fz (.lst (iL xs))),(s2,hL ys)] = some (.fz (.bl (xs.any fun x=>decide (x∈ys))),[.fz (.lst (iL xs)),hL ys]):=by
 have hlim:1000≤LIM:=by decide
 have hc:=CY (it:=Dr (Ae 0)) (e:=opM (inA false) (m2L (Ae 0) (Ae 2))) (ρ:=[some (s1,.fz (.lst (iL xs))),some (s2,hL ys)]) (ρ1:=[some (s1,.fz (.lst (iL xs))),some (s2,hL ys)]) (ds:=iL xs) (n:=none) (f:=fun d=>.bl (decide (nD d∈ys)))
  (by walk_at "eo") (by simp; lia) (fun d hd=>by
   obtain ⟨i,_,rfl⟩:=Kg.mp hd
   refine ⟨.val (.fz (.bl (decide (i∈ys)))),?_,?_⟩
   ·have e1:=J4 ys
    have e2:=MO i ys
    simp only [hL] at *
    clear hlim hd
    walk_at "eo"
   ·rfl)
 rw [Ke (fun i=>D.bl (decide (i∈ys)))] at hc
 refine BO (ρ:=[some (s1,.fz (.lst (iL xs))),some (s2,hL ys)]) rfl ?_
 show Cf [some (s1,.fz (.lst (iL xs))),some (s2,hL ys)] = _
 unfold Cf
 refine DS ?_
 simp only [on1,on2,on3,FR,GZ,BJ,CP,fzU,EK,Fj,opM,Ab,Ah,hc,Option.bind_some,Option.map_some,peeks,peek,Ge,DR,Ca,anyB,FQ]
noncomputable def Bag (n:Nat) (as:List A):Prop:=∃ x y:Int,as = [.fz (.int x),.fz (.int y)]∧0≤y∧y≤n
theorem Bag.mono {n m:Nat} {as:List A} (h:Bag n as) (hm:n≤m):Bag m as:=by
 obtain ⟨x,y,e,h1,h2⟩:=h
 exact ⟨x,y,e,h1,by lia⟩
theorem Wo (st:Own) (x:Int):∃ as a1,Bag 1 as∧DZ [(st,.fz (.int x))] = some (.lst as,[a1]):=by
 have p1:decide ((0:Int)≤18∧(18:Int)≤1000000∧Int.natAbs 10 < 2 ^ 64) = true:=by decide
 have l2:((2:Nat)≤LIM) = True:=by simp [LIM,sizeLine]
 have p2:decide ((0:Int) < 2147483647) = true:=by decide
 by_cases h:(10:Int) ^ (18:Int).toNat≤(if x < 0 then -x else x)
 ·refine ⟨_,_,⟨(if x < 0 then -x else x),0,rfl,by lia,by lia⟩,BO (ρ:=[some (st,.fz (.int x))]) rfl ?_⟩
  show CH [some (st,.fz (.int x))] = _
  unfold CH
  have h':=decide_eq_true h
  clear h
  walk_at "eo"
 ·refine ⟨_,_,⟨x % 2147483647,1,rfl,by lia,by lia⟩,BO (ρ:=[some (st,.fz (.int x))]) rfl ?_⟩
  show CH [some (st,.fz (.int x))] = _
  unfold CH
  have h':=decide_eq_false h
  clear h
  walk_at "eo"
theorem BR {n:Nat} {as:List A} (hb:Bag n as) (hn:n≤1000000) (m:Int) (hm:0 < m) (hm2:m < 1099511627776):∃ (d:Int) (as':List A),0≤d∧d < m∧Bag (n + 1) as'∧Aj [(.lent,.lst as),(.own,.fz (.int m))] = some (.fz (.int d),[.lst as',.fz (.int m)]):=by
 obtain ⟨x,y,rfl,h1,h2⟩:=hb
 have m1:decide (0 < m) = true:=decide_eq_true hm
 have m2:decide (0 < m∧m < 1099511627776) = true:=decide_eq_true ⟨hm,hm2⟩
 have i0:ixN 2 0 = some 0:=by rfl
 have i1:ixN 2 1 = some 1:=by rfl
 by_cases hy:y = 0
 ·subst hy
  refine ⟨x % m,[.fz (.int (x / m)),.fz (.int 0)],Int.emod_nonneg _ (by lia),Int.emod_lt_of_pos _ hm,⟨_,_,rfl,by lia,by lia⟩,BO (ρ:=[some (.lent,.lst [.fz (.int (x / m)),.fz (.int 0)]),some (.own,.fz (.int m)),some (.own,.fz (.int (x % m)))]) rfl ?_⟩
  show Cj [some (.lent,.lst [.fz (.int x),.fz (.int 0)]),some (.own,.fz (.int m)),none] = _
  unfold Cj
  have a0:=at0 (D.int x) [D.int 0]
  have a1:=at1 (D.int x) (D.int 0) []
  clear hm hm2 h1 h2 hn
  walk_at "eo"
 ·let x':=(x * 48271 + 7919 * y * y + 17) % 2147483647
  have e1:eqD (.int y) (.int 0) = false:=by simp [E7,Hh,HV,Gn,FH,hy]
  have c1:(-(2 ^ 64) < x∧x < 2 ^ 64 ∨ -(2 ^ 64) < (48271:Int)∧(48271:Int) < 2 ^ 64) = True:=by simp
  have c2:(-(2 ^ 64) < (7919:Int)∧(7919:Int) < 2 ^ 64 ∨ -(2 ^ 64) < y∧y < 2 ^ 64) = True:=by simp
  have c3:(-(2 ^ 64) < 7919 * y∧7919 * y < 2 ^ 64 ∨ -(2 ^ 64) < y∧y < 2 ^ 64) = True:=by simp; lia
  have c4:(-(2 ^ 64) < x'∧x' < 2 ^ 64 ∨ -(2 ^ 64) < (69621:Int)∧(69621:Int) < 2 ^ 64) = True:=by simp
  have d1:decide ((0:Int) < 2147483647) = true:=by decide
  have d2:decide ((0:Int) < 2147483629) = true:=by decide
  have d3:decide ((0:Int) < 5∧(5:Int) < 1099511627776) = true:=by decide
  have hx:(x * 48271 + 7919 * y * y + 17) % 2147483647 = x':=rfl
  refine ⟨x' * 69621 % 2147483629 / 5 % m,[.fz (.int x'),.fz (.int (y + 1))],Int.emod_nonneg _ (by lia),Int.emod_lt_of_pos _ hm,⟨_,_,rfl,by lia,by lia⟩,BO (ρ:=[some (.lent,.lst [.fz (.int x'),.fz (.int (y + 1))]),some (.own,.fz (.int m)),none]) rfl ?_⟩
  show Cj [some (.lent,.lst [.fz (.int x),.fz (.int y)]),some (.own,.fz (.int m)),none] = _
  unfold Cj
  have a0:=at0 (D.int x) [D.int y]
  have a1:=at1 (D.int x) (D.int y) []
  have a2:=at1 (D.int x') (D.int y) []
  have a3:=at0 (D.int x') [D.int (y + 1)]
  rw [Ay (ρ1:=[some (.lent,.lst [.fz (.int x),.fz (.int y)]),some (.own,.fz (.int m)),none]) (by
   simp only [E7,Hh,HV,Gn,FH] at e1
   clear hm hm2 h1 h2 hn c1 c2 c3 c4 hx hy
   walk_at "eo"),Ay (ρ1:=[some (.lent,.lst [.fz (.int x'),.fz (.int y)]),some (.own,.fz (.int m)),none]) (by
   clear hm hm2 h1 h2 hn c4 hy e1
   walk_at "eo"),Ay (ρ1:=[some (.lent,.lst [.fz (.int x'),.fz (.int (y + 1))]),some (.own,.fz (.int m)),none]) (by
   clear hm hm2 h1 h2 hn c4 hy e1 c1 c2 c3 hx
   walk_at "eo")]
  refine DS ?_
  clear hm hm2 h1 h2 hn hy e1 c1 c2 c3 hx
  walk_at "eo"
noncomputable def Jm (b:Int) (i:Nat):Bool:=eqD (.int (Builtin.bitAnd (b / 2 ^ i) 1)) (.int 1)
noncomputable def E3 (n:Nat) (b:Int):List Int:=((List.range n).filter (Jm b)).map fun (i:Nat)=>(i:Int)
theorem OE (n:Nat) (b:Int):(E3 n b).Pairwise (· < ·):=by
 unfold E3
 rw [List.pairwise_map]
 have:((List.range n).filter (Jm b)).Pairwise (· < ·):=List.Pairwise.filter _ List.pairwise_lt_range
 exact this.imp fun h=>by lia
theorem RB {n:Nat} {b:Int}:∀ x∈E3 n b,0≤x∧x < n:=by
 intro x hx
 simp only [E3,List.mem_map,List.mem_filter,List.mem_range] at hx
 obtain ⟨i,⟨hi,_⟩,rfl⟩:=hx
 lia
theorem Ld:∀ n∈[2,3,4],∀ b∈List.range 16,1≤b→b < 2 ^ n→E3 n (b:Int)≠[]:=by decide +kernel
theorem UN:∀ n∈[2,3,4],∀ a∈List.range n,∀ b∈List.range n,1≤Builtin.bitOr (1 * 2 ^ a) (1 * 2 ^ b)∧Builtin.bitOr (1 * 2 ^ a) (1 * 2 ^ b) < 2 ^ n:=by decide +kernel
theorem RC {n:Nat} {b:Int} (hn:n = 2∨n = 3∨n = 4) (h1:1≤b) (h2:b < 2 ^ n):E3 n b≠[]:=by
 obtain ⟨k,rfl⟩:∃ k:Nat,b = k:=⟨b.toNat,by lia⟩
 have h16:(2:Int) ^ n≤16:=by rcases hn with rfl | rfl | rfl <;> decide
 refine Ld n (by rcases hn with rfl | rfl | rfl <;> simp) k (by simp; lia) (by lia) ?_
 have:((k:Nat):Int) < ((2 ^ n:Nat):Int):=by simpa using h2
 lia
theorem cons_of {m:ME} {ms:MA} {ρ ρ1 ρ2:Ro} {r:R} {rs:List R} (h1:m ρ = some (r,ρ1)) (h2:ms ρ1 = some (rs,ρ2)):Ab m ms ρ = some (r :: rs,ρ2):=by simp [Ab,h1,h2]
theorem Fh {m:ME} {ρ ρ1 ρ2:Ro} {r:R} {d:D} (h1:m ρ = some (r,ρ1)) (h2:share ρ1 r = some (d,ρ2)):Ad m ρ = some (.val (.fz d),ρ2):=by simp [Ad,h1,h2]
theorem Oy {ms:MA} {ρ ρ1:Ro} {a b:D} (h:ms ρ = some ([.val (.fz a),.val (.fz b)],ρ1)):A5 ms ρ = some (.val (.fz (.tup [a,b])),ρ1):=by
 simp [A5,h,moves,move,mkT,fzs,LIM,sizeLine]
theorem Tv {m:ME} {i:Nat} {ρ:Ro} {st:Own} {as:List A} {a:A} (h0:DQ ρ i = some (st,as)) (h:m ρ = some (.val a,ρ)) (hl:as.length < LIM):EZ i m ρ = some (.next (ρ.set i (some (st,.lst (as ++ [a]))))):=by
 simp only [EZ,h0,Option.bind_some,h,keep,if_pos hl]
theorem Pk (ρ:Ro) (ds:List D):share ρ (.val (.lst (ds.map A.fz))) = some (.lst ds,ρ):=by
 simp [share,er,Hx]
theorem Rx:∀ k∈List.range 26,atI (Str.ofString "abcdefghijklmnopqrstuvwxyz").cps.toList (k:Int) = some (97 + k):=by decide +kernel
theorem RD (n:Nat) (b:Int):(((DU 0 n).filter fun d=>Jm b (nD d).toNat).map fun d=>d) = iL (E3 n b):=by
 have e1:(fun d=>Jm b (nD d).toNat) ∘ (fun (k:Nat)=>D.int (0 + (k:Int))) = Jm b:=by
  funext k
  simp
 have e2:D.int ∘ (fun (i:Nat)=>(i:Int)) = fun (k:Nat)=>D.int (0 + (k:Int)):=by
  funext k
  simp
 rw [List.map_id',DU,List.filter_map,e1,iL,E3,List.map_map,e2]
structure HI (n:Int) (M j:Nat) (ls:List (Nat × List Int)) (a:Int):Prop where
 len:ls.length = j
 a0:0≤a
 a1:a≤26 - M + j
 ch:∀ p∈ls,97≤p.1∧(p.1:Int) < 97 + a
 ri:(ls.map (·.1)).Pairwise (· < ·)
 hs:∀ p∈ls,p.2≠[]∧p.2.Pairwise (· < ·)∧∀ x∈p.2,0≤x∧x < n
theorem HI.step {n:Int} {M j:Nat} {ls:List (Nat × List Int)} {a d:Int} {hl:List Int} (h:HI n M j ls a) (d0:0≤d) (d1:d < 27 - M + (0 + (j:Int)) - a) (hl0:hl≠[]) (hl1:hl.Pairwise (· < ·)) (hl2:∀ x∈hl,0≤x∧x < n):HI n M (j + 1) (ls ++ [(97 + (a + d).toNat,hl)]) (a + d + 1):=by
 have a0:=h.a0
 refine ⟨by simp [h.len],by lia,by lia,?_,?_,?_⟩
 ·intro p hp
  rcases List.mem_append.mp hp with hp | hp
  ·have:=h.ch p hp; lia
  ·simp only [List.mem_singleton] at hp; subst hp; simp only; lia
 ·rw [List.map_append,List.pairwise_append]
  refine ⟨h.ri,by simp,?_⟩
  intro x hx y hy
  obtain ⟨p,hp,rfl⟩:=List.mem_map.mp hx
  simp only [List.map_cons,List.map_nil,List.mem_singleton] at hy
  subst hy
  have:=(h.ch p hp).2
  lia
 ·intro p hp
  rcases List.mem_append.mp hp with hp | hp
  ·exact h.hs p hp
  ·simp only [List.mem_singleton] at hp; subst hp; exact ⟨hl0,hl1,hl2⟩
noncomputable abbrev eK (as:List A) (n M S:Int) (ls:List (Nat × List Int)) (a:Int) (x6 x7:Slot):Ro:=[some (.lent,.lst as),oI n,oI M,oI S,some (.own,.lst (ls.map fun p=>A.fz (ld p))),oI a,x6,x7]
noncomputable def cH:MS:=(AF (AL 5 (opM A4 (m2L (Ae 5) (Al Aj (Ab (Ae 0) (Ab (opM C6 (m2L (opM A4 (m2L (opM C6 (m2L (Ag (.int 27)) (Ae 2))) (Ae 6))) (Ae 5))) Ah)))))) (AF (AL 7 (opM A4 (m2L (Ag (.int 1)) (Al Aj (Ab (Ae 0) (Ab (opM C6 (m2L (opM Ez (m2L (Ag (.int 1)) (Ae 1))) (Ag (.int 1)))) Ah)))))) (AF (ifS (AR (opM eqA (m2L (Ae 3) (Ag (.int 1))))) (AL 7 (opM Mw (m2L (opM Ez (m2L (Ag (.int 1)) (Al Aj (Ab (Ae 0) (Ab (Ae 1) Ah))))) (opM Ez (m2L (Ag (.int 1)) (Al Aj (Ab (Ae 0) (Ab (Ae 1) Ah)))))))) Bj) (AF (EZ 4 (A5 (Ab (Ad (opM ixA (m2L (Ag (.str (Str.ofString "abcdefghijklmnopqrstuvwxyz"))) (Ae 5)))) (Ab (Ad (Bf (Bw (Ae 1)) 0 (AR (opM eqA (m2L (opM Gg (m2L (opM Hu (m2L (Ae 8) (Ae 0))) (Ag (.int 1)))) (Ag (.int 1))))) (Ae 0))) Ah)))) (AL 5 (opM A4 (m2L (Ae 5) (Ag (.int 1)))))))))
theorem KC {n M S a:Int} {Mn j N:Nat} {as:List A} {ls:List (Nat × List Int)} {x7:Slot} (hM:M = Mn) (hM2:Mn≤6) (hj:j < Mn) (hn:n = 2∨n = 3∨n = 4) (hb:Bag N as) (hN:N≤100000) (hi:HI n Mn j ls a) (hx7:pN x7) :
  ∃ as' ls' a' b,cH (eK as n M S ls a (oI (0 + (j:Int))) x7) = some (.next (eK as' n M S ls' a' (oI (0 + (j:Int))) (oI b)))∧Bag (N + 4) as'∧HI n Mn (j + 1) ls' a':=by
 have a0:=hi.a0
 have a1:=hi.a1
 have hp:(1:Int) * 2 ^ n.toNat - 1≤15∧0 < (1:Int) * 2 ^ n.toNat - 1:=by rcases hn with rfl | rfl | rfl <;> decide
 have sh:decide (0≤n∧n≤1000000∧Int.natAbs 1 < 2 ^ 64) = true:=by rcases hn with rfl | rfl | rfl <;> decide
 obtain ⟨d1,as1,g1,g2,b1,t1⟩:=BR hb (by lia) (27 - M + (0 + (j:Int)) - a) (by lia) (by lia)
 obtain ⟨d2,as2,g3,g4,b2,t2⟩:=BR b1 (by lia) ((1:Int) * 2 ^ n.toNat - 1) (by lia) (by lia)
 have v1:(Al Aj (Ab (Ae 0) (Ab (opM C6 (m2L (opM A4 (m2L (opM C6 (m2L (Ag (.int 27)) (Ae 2))) (Ae 6))) (Ae 5))) Ah))) (eK as n M S ls a (oI (0 + (j:Int))) x7) = some (.val (.fz (.int d1)),(eK as1 n M S ls a (oI (0 + (j:Int))) x7)):=call_of rfl rfl rfl t1 rfl
 have v1':(opM A4 (m2L (Ae 5) (Al Aj (Ab (Ae 0) (Ab (opM C6 (m2L (opM A4 (m2L (opM C6 (m2L (Ag (.int 27)) (Ae 2))) (Ae 6))) (Ae 5))) Ah))))) (eK as n M S ls a (oI (0 + (j:Int))) x7) = some (.val (.fz (.int (a + d1))),(eK as1 n M S ls a (oI (0 + (j:Int))) x7)):=CT (Et (r1:=.val (.fz (.int a))) rfl v1) rfl rfl
 have st1:AL 5 (opM A4 (m2L (Ae 5) (Al Aj (Ab (Ae 0) (Ab (opM C6 (m2L (opM A4 (m2L (opM C6 (m2L (Ag (.int 27)) (Ae 2))) (Ae 6))) (Ae 5))) Ah))))) (eK as n M S ls a (oI (0 + (j:Int))) x7) = some (.next (eK as1 n M S ls (a + d1) (oI (0 + (j:Int))) x7)):=Ec v1' rfl
 have w2:(opM Ez (m2L (Ag (.int 1)) (Ae 1))) (eK as1 n M S ls (a + d1) (oI (0 + (j:Int))) x7) = some (.val (.fz (.int (1 * 2 ^ n.toNat))),(eK as1 n M S ls (a + d1) (oI (0 + (j:Int))) x7)):=CT rfl rfl (NB sh)
 have w2':(opM C6 (m2L (opM Ez (m2L (Ag (.int 1)) (Ae 1))) (Ag (.int 1)))) (eK as1 n M S ls (a + d1) (oI (0 + (j:Int))) x7) = some (.val (.fz (.int (1 * 2 ^ n.toNat - 1))),(eK as1 n M S ls (a + d1) (oI (0 + (j:Int))) x7)):=CT (Et (r2:=.val (.fz (.int 1))) w2 rfl) rfl rfl
 have v2:(Al Aj (Ab (Ae 0) (Ab (opM C6 (m2L (opM Ez (m2L (Ag (.int 1)) (Ae 1))) (Ag (.int 1)))) Ah))) (eK as1 n M S ls (a + d1) (oI (0 + (j:Int))) x7) = some (.val (.fz (.int d2)),(eK as2 n M S ls (a + d1) (oI (0 + (j:Int))) x7)):=call_of (cons_of (r:=.ref 0) rfl (cons_of w2' rfl)) rfl rfl t2 rfl
 have v2':(opM A4 (m2L (Ag (.int 1)) (Al Aj (Ab (Ae 0) (Ab (opM C6 (m2L (opM Ez (m2L (Ag (.int 1)) (Ae 1))) (Ag (.int 1)))) Ah))))) (eK as1 n M S ls (a + d1) (oI (0 + (j:Int))) x7) = some (.val (.fz (.int (1 + d2))),(eK as2 n M S ls (a + d1) (oI (0 + (j:Int))) x7)):=CT (Et (r1:=.val (.fz (.int 1))) rfl v2) rfl rfl
 have st2:AL 7 (opM A4 (m2L (Ag (.int 1)) (Al Aj (Ab (Ae 0) (Ab (opM C6 (m2L (opM Ez (m2L (Ag (.int 1)) (Ae 1))) (Ag (.int 1)))) Ah))))) (eK as1 n M S ls (a + d1) (oI (0 + (j:Int))) x7) = some (.next (eK as2 n M S ls (a + d1) (oI (0 + (j:Int))) (oI (1 + d2)))):=by
  rcases hx7 with rfl | ⟨d,rfl⟩ <;> exact Ec v2' rfl
 have ct:(AR (opM eqA (m2L (Ae 3) (Ag (.int 1))))) (eK as2 n M S ls (a + d1) (oI (0 + (j:Int))) (oI (1 + d2))) = some (eqD (.int S) (.int 1),(eK as2 n M S ls (a + d1) (oI (0 + (j:Int))) (oI (1 + d2)))):=rfl
 have st3:∃ as3 b,Bag (N + 4) as3∧1≤b∧b < 2 ^ n.toNat∧(ifS (AR (opM eqA (m2L (Ae 3) (Ag (.int 1))))) (AL 7 (opM Mw (m2L (opM Ez (m2L (Ag (.int 1)) (Al Aj (Ab (Ae 0) (Ab (Ae 1) Ah))))) (opM Ez (m2L (Ag (.int 1)) (Al Aj (Ab (Ae 0) (Ab (Ae 1) Ah)))))))) Bj) (eK as2 n M S ls (a + d1) (oI (0 + (j:Int))) (oI (1 + d2))) = some (.next (eK as3 n M S ls (a + d1) (oI (0 + (j:Int))) (oI b))):=by
  by_cases hS:S = 1
  ·obtain ⟨d3,as3,g5,g6,b3,t3⟩:=BR b2 (by lia) n (by lia) (by lia)
   obtain ⟨d4,as4,g7,g8,b4,t4⟩:=BR b3 (by lia) n (by lia) (by lia)
   have ho:=UN n.toNat (by rcases hn with rfl | rfl | rfl <;> simp) d3.toNat (by simp; lia) d4.toNat (by simp; lia)
   have sh3:decide (0≤d3∧d3≤1000000∧Int.natAbs 1 < 2 ^ 64) = true:=by simp; lia
   have sh4:decide (0≤d4∧d4≤1000000∧Int.natAbs 1 < 2 ^ 64) = true:=by simp; lia
   refine ⟨as4,_,b4.mono (by lia),ho.1,ho.2,?_⟩
   have e1:eqD (.int S) (.int 1) = true:=by rw [hS]; exact Ep _
   rw [e1] at ct
   have u1:(Al Aj (Ab (Ae 0) (Ab (Ae 1) Ah))) (eK as2 n M S ls (a + d1) (oI (0 + (j:Int))) (oI (1 + d2))) = some (.val (.fz (.int d3)),(eK as3 n M S ls (a + d1) (oI (0 + (j:Int))) (oI (1 + d2)))):=call_of rfl rfl rfl t3 rfl
   have u2:(Al Aj (Ab (Ae 0) (Ab (Ae 1) Ah))) (eK as3 n M S ls (a + d1) (oI (0 + (j:Int))) (oI (1 + d2))) = some (.val (.fz (.int d4)),(eK as4 n M S ls (a + d1) (oI (0 + (j:Int))) (oI (1 + d2)))):=call_of rfl rfl rfl t4 rfl
   have u3:(opM Mw (m2L (opM Ez (m2L (Ag (.int 1)) (Al Aj (Ab (Ae 0) (Ab (Ae 1) Ah))))) (opM Ez (m2L (Ag (.int 1)) (Al Aj (Ab (Ae 0) (Ab (Ae 1) Ah))))))) (eK as2 n M S ls (a + d1) (oI (0 + (j:Int))) (oI (1 + d2))) = some (.val (.fz (.int (Builtin.bitOr (1 * 2 ^ d3.toNat) (1 * 2 ^ d4.toNat)))),(eK as4 n M S ls (a + d1) (oI (0 + (j:Int))) (oI (1 + d2)))):=CT (Et (CT (Et (r1:=.val (.fz (.int 1))) rfl u1) rfl (NB sh3)) (CT (Et (r1:=.val (.fz (.int 1))) rfl u2) rfl (NB sh4))) rfl rfl
   exact (V2 ct).trans (Ec u3 rfl)
  ·refine ⟨as2,_,b2.mono (by lia),(by lia:1≤1 + d2),by lia,?_⟩
   have e1:eqD (.int S) (.int 1) = false:=by simp [E7,Hh,HV,Gn,FH,hS]
   rw [e1] at ct
   exact (RJ ct).trans rfl
 obtain ⟨as3,b,b3,c1,c2,st3⟩:=st3
 have hc:(Bf (Bw (Ae 1)) 0 (AR (opM eqA (m2L (opM Gg (m2L (opM Hu (m2L (Ae 8) (Ae 0))) (Ag (.int 1)))) (Ag (.int 1))))) (Ae 0)) (eK as3 n M S ls (a + d1) (oI (0 + (j:Int))) (oI b)) = some (.val (.lst ((iL (E3 n.toNat b)).map A.fz)),(eK as3 n M S ls (a + d1) (oI (0 + (j:Int))) (oI b))):=by
  have hlim:1000≤LIM:=by decide
  have rg:Bw (Ae 1) (eK as3 n M S ls (a + d1) (oI (0 + (j:Int))) (oI b)) = some (DU 0 n.toNat,none,(eK as3 n M S ls (a + d1) (oI (0 + (j:Int))) (oI b))):=L7 rfl (by lia) (by lia)
  have:=Lj (g:=fun d=>Jm b (nD d).toNat) (f:=fun d=>d) (c:=(AR (opM eqA (m2L (opM Gg (m2L (opM Hu (m2L (Ae 8) (Ae 0))) (Ag (.int 1)))) (Ag (.int 1)))))) (e:=Ae 0) rg (by rw [He]; lia) (fun d hd=>by
   obtain ⟨i,hi⟩:=List.mem_iff_getElem?.mp hd
   obtain ⟨rfl,hi⟩:=Hd hi
   have e0:decide (0≤(0:Int) + (i:Int)) = true:=by simp
   have r1:(opM Hu (m2L (Ae 8) (Ae 0))) (own (.int (0 + (i:Int))) :: (eK as3 n M S ls (a + d1) (oI (0 + (j:Int))) (oI b))) = some (.val (.fz (.int (b / 2 ^ (0 + (i:Int)).toNat))),own (.int (0 + (i:Int))) :: (eK as3 n M S ls (a + d1) (oI (0 + (j:Int))) (oI b))):=CT rfl rfl (Vh e0)
   have r2:(opM Gg (m2L (opM Hu (m2L (Ae 8) (Ae 0))) (Ag (.int 1)))) (own (.int (0 + (i:Int))) :: (eK as3 n M S ls (a + d1) (oI (0 + (j:Int))) (oI b))) = some (.val (.fz (.int (Builtin.bitAnd (b / 2 ^ (0 + (i:Int)).toNat) 1))),own (.int (0 + (i:Int))) :: (eK as3 n M S ls (a + d1) (oI (0 + (j:Int))) (oI b))):=CT (Et (r2:=.val (.fz (.int 1))) r1 rfl) rfl rfl
   exact K0 (CT (Et (r2:=.val (.fz (.int 1))) r2 rfl) rfl rfl)) (fun d hd _=>⟨.val (.fz d),rfl,rfl⟩)
  rw [this,RD]
 have ha:=Rx (a + d1).toNat (by simp; lia)
 have hcx:atI (Str.ofString "abcdefghijklmnopqrstuvwxyz").cps.toList (a + d1) = some (97 + (a + d1).toNat):=by
  have:(((a + d1).toNat:Nat):Int) = a + d1:=by lia
  rw [this] at ha; exact ha
 have hix:(opM ixA (m2L (Ag (.str (Str.ofString "abcdefghijklmnopqrstuvwxyz"))) (Ae 5))) (eK as3 n M S ls (a + d1) (oI (0 + (j:Int))) (oI b)) = some (.val (.fz (chD (97 + (a + d1).toNat))),(eK as3 n M S ls (a + d1) (oI (0 + (j:Int))) (oI b))):=CT rfl rfl (ixS hcx)
 have hlsl:(ls.map fun p=>A.fz (ld p)).length < LIM:=by
  have hlim:1000≤LIM:=by decide
  have:=hi.len
  simp only [List.length_map]; lia
 have st4:(EZ 4 (A5 (Ab (Ad (opM ixA (m2L (Ag (.str (Str.ofString "abcdefghijklmnopqrstuvwxyz"))) (Ae 5)))) (Ab (Ad (Bf (Bw (Ae 1)) 0 (AR (opM eqA (m2L (opM Gg (m2L (opM Hu (m2L (Ae 8) (Ae 0))) (Ag (.int 1)))) (Ag (.int 1))))) (Ae 0))) Ah)))) (eK as3 n M S ls (a + d1) (oI (0 + (j:Int))) (oI b)) = some (.next (eK as3 n M S (ls ++ [((97 + (a + d1).toNat),E3 n.toNat b)]) (a + d1) (oI (0 + (j:Int))) (oI b))):=by
  rw [Tv (st:=.own) (as:=ls.map fun p=>A.fz (ld p)) rfl (Oy (cons_of (Fh hix rfl) (cons_of (Fh hc (Pk _ _)) rfl))) hlsl]
  simp [ld,eK]
 have hbits:=RC (n:=n.toNat) (b:=b) (by lia) c1 c2
 refine ⟨as3,(ls ++ [((97 + (a + d1).toNat),E3 n.toNat b)]),a + d1 + 1,b,?_,b3,hi.step g1 (by lia) hbits (OE _ _) (fun x hx=>by have:=RB x hx; lia)⟩
 exact (Ay st1).trans ((Ay st2).trans ((Ay st3).trans ((Ay st4).trans rfl)))
theorem SM {N:Nat} {as:List A} (hb:Bag N as) (hN:N≤1000):∃ h:Hs,∃ as',h.Ok∧Bag (N + 30) as'∧C9 [(.lent,.lst as)] = some (.fz h.d,[.lst as']):=by
 obtain ⟨d1,as1,g1,g2,b1,t1⟩:=BR hb (by lia) 3 (by lia) (by lia)
 obtain ⟨d2,as2,g3,g4,b2,t2⟩:=BR b1 (by lia) 6 (by lia) (by lia)
 obtain ⟨d3,as3,g5,g6,b3,t3⟩:=BR b2 (by lia) 2 (by lia) (by lia)
 have rg:Bw (Ae 2) (eK as3 (2 + d1) (1 + d2) d3 [] 0 none none) = some (DU 0 (1 + d2).toNat,none,(eK as3 (2 + d1) (1 + d2) d3 [] 0 none none)):=L7 rfl (by lia) (by lia)
 obtain ⟨ρ',f1,f2⟩:=Gr (is:=[6]) (one:=true) (b:=cH)
  (fun j ρ=>∃ as' ls' a' x6 x7,pN x6∧pN x7∧Bag (N + 3 + 4 * j) as'∧HI (2 + d1) (1 + d2).toNat j ls' a' ∧ ρ = (eK as' (2 + d1) (1 + d2) d3 ls' a' x6 x7)) rg ⟨as3,[],0,none,none,.inl rfl,.inl rfl,b3,⟨rfl,by lia,by lia,by simp,by simp,by simp⟩,rfl⟩ (fun j d ρ hd hI=>by
   obtain ⟨as',ls',a',x6,x7,hx6,hx7,hb',hi,rfl⟩:=hI
   obtain ⟨rfl,hj⟩:=Hd hd
   obtain ⟨as'',ls'',a'',b,s1,s2,s3⟩:=KC (n:=2 + d1) (M:=1 + d2) (S:=d3) (Mn:=(1 + d2).toNat) (j:=j) (by lia) (by lia) hj (by lia) hb' (by lia) hi hx7
   refine ⟨_,_,?_,.inl s1,as'',ls'',a'',_,_,.inr ⟨_,rfl⟩,.inr ⟨_,rfl⟩,s2.mono (by lia),s3,rfl⟩
   rcases hx6 with rfl | ⟨d,rfl⟩ <;> rfl)
 rw [He] at f2
 obtain ⟨as',ls',a',x6,x7,_,_,hb',hi,rfl⟩:=f2
 have hn2:2 + d1≤4:=by lia
 have ha1:=hi.a1
 have hlen:=hi.len
 have ok:Hs.Ok ⟨2 + d1,ls'⟩:=⟨by simp only; lia,hn2,by simp only; lia,by simp only; lia,fun p hp=>by have:=hi.ch p hp; lia,hi.ri,hi.hs⟩
 refine ⟨⟨2 + d1,ls'⟩,as',ok,hb'.mono (by lia),BO (ρ:=[some (.lent,.lst as'),some (.own,.fz (.int (2 + d1))),some (.own,.fz (.int (1 + d2))),some (.own,.fz (.int d3)),some (.own,.fz (.lst (ls'.map ld))),some (.own,.fz (.int a')),x6,x7]) rfl ?_⟩
 show DK [some (.lent,.lst as),none,none,none,none,none,none,none] = _
 unfold DK
 have y1:(Al Aj (Ab (Ae 0) (Ab (Ag (.int 3)) Ah))) [some (.lent,.lst as),none,none,none,none,none,none,none] = some (.val (.fz (.int d1)),[some (.lent,.lst as1),none,none,none,none,none,none,none]):=call_of rfl rfl rfl t1 rfl
 have y2:(opM A4 (m2L (Ag (.int 2)) (Al Aj (Ab (Ae 0) (Ab (Ag (.int 3)) Ah))))) [some (.lent,.lst as),none,none,none,none,none,none,none] = some (.val (.fz (.int (2 + d1))),[some (.lent,.lst as1),none,none,none,none,none,none,none]):=CT (Et (r1:=.val (.fz (.int 2))) rfl y1) rfl rfl
 have z1:AL 1 (opM A4 (m2L (Ag (.int 2)) (Al Aj (Ab (Ae 0) (Ab (Ag (.int 3)) Ah))))) [some (.lent,.lst as),none,none,none,none,none,none,none] = some (.next [some (.lent,.lst as1),oI (2 + d1),none,none,none,none,none,none]):=Ec y2 rfl
 have y3:(Al Aj (Ab (Ae 0) (Ab (Ag (.int 6)) Ah))) [some (.lent,.lst as1),oI (2 + d1),none,none,none,none,none,none] = some (.val (.fz (.int d2)),[some (.lent,.lst as2),oI (2 + d1),none,none,none,none,none,none]):=call_of rfl rfl rfl t2 rfl
 have y4:(opM A4 (m2L (Ag (.int 1)) (Al Aj (Ab (Ae 0) (Ab (Ag (.int 6)) Ah))))) [some (.lent,.lst as1),oI (2 + d1),none,none,none,none,none,none] = some (.val (.fz (.int (1 + d2))),[some (.lent,.lst as2),oI (2 + d1),none,none,none,none,none,none]):=CT (Et (r1:=.val (.fz (.int 1))) rfl y3) rfl rfl
 have z2:AL 2 (opM A4 (m2L (Ag (.int 1)) (Al Aj (Ab (Ae 0) (Ab (Ag (.int 6)) Ah))))) [some (.lent,.lst as1),oI (2 + d1),none,none,none,none,none,none] = some (.next [some (.lent,.lst as2),oI (2 + d1),oI (1 + d2),none,none,none,none,none]):=Ec y4 rfl
 have y5:(Al Aj (Ab (Ae 0) (Ab (Ag (.int 2)) Ah))) [some (.lent,.lst as2),oI (2 + d1),oI (1 + d2),none,none,none,none,none] = some (.val (.fz (.int d3)),[some (.lent,.lst as3),oI (2 + d1),oI (1 + d2),none,none,none,none,none]):=call_of rfl rfl rfl t3 rfl
 have z3:AL 3 (Al Aj (Ab (Ae 0) (Ab (Ag (.int 2)) Ah))) [some (.lent,.lst as2),oI (2 + d1),oI (1 + d2),none,none,none,none,none] = some (.next [some (.lent,.lst as3),oI (2 + d1),oI (1 + d2),oI d3,none,none,none,none]):=Ec y5 rfl
 refine (Ay z1).trans ((Ay z2).trans ((Ay z3).trans ((Ay (ρ1:=[some (.lent,.lst as3),oI (2 + d1),oI (1 + d2),oI d3,some (.own,.lst []),none,none,none]) rfl).trans ((Ay (ρ1:=(eK as3 (2 + d1) (1 + d2) d3 [] 0 none none)) rfl).trans ((Ay f1).trans ?_)))))
 refine DS ?_
 refine Oy (cons_of (Fh rfl rfl) (cons_of (Fh (r:=.ref 4) rfl ?_) rfl))
 have:=Hx (ls'.map ld)
 rw [List.map_map] at this
 simp only [unlock,share,List.getElem?_cons_zero,List.getElem?_cons_succ,er]
 rw [show (ls'.map fun p=>A.fz (ld p)) = ls'.map (A.fz ∘ ld) from rfl,this]
 rfl
theorem app_list (z:Str) (c:Nat):(z ++ (⟨#[c]⟩:Str)).cps.toList = z.cps.toList ++ [c]:=by
 show (z.cps ++ #[c]).toList = _
 simp
theorem NT (z:Str) (c:Nat):(z ++ (⟨#[c]⟩:Str)).length = z.length + 1:=by
 show (z.cps ++ #[c]).size = z.cps.size + 1
 simp
theorem len_one (c:Nat):Str.length ⟨#[c]⟩ = 1:=rfl
theorem Nw {N j:Nat} {as:List A} {h:Hs} (ok:h.Ok) {z:Str} {most size:Int} (hb:Bag N as) (hN:N≤100000) (hz:Row h z) (hl:z.length≤100):∃ as' c,Bag (N + 1) as'∧c∈h.ls.map (·.1)∧(AL 4 (opM A4 (m2L (Ae 4) (opM ixA (m2L (opM ixA (m2L (opM ixA (m2L (Ae 1) (Ag (.int 1)))) (Al Aj (Ab (Ae 0) (Ab (opM Cb (Ab (opM ixA (m2L (Ae 1) (Ag (.int 1)))) Ah)) Ah))))) (Ag (.int 0))))))) [some (.lent,.lst as),some (.own,.fz h.d),some (.own,.fz (.int most)),some (.own,.fz (.int size)),some (.own,.fz (.str z)),some (.own,.fz (.int (0 + (j:Int))))] = some (.next [some (.lent,.lst as'),some (.own,.fz h.d),some (.own,.fz (.int most)),some (.own,.fz (.int size)),some (.own,.fz (.str (z ++ (⟨#[c]⟩:Str)))),some (.own,.fz (.int (0 + (j:Int))))]):=by
 have l1:=ok.l1
 have l2:=ok.l2
 obtain ⟨d,as',g1,g2,b1,t1⟩:=BR hb (by lia) (h.ls.length:Int) (by lia) (by lia)
 have e5:=at1 (D.int h.n) (.lst (h.ls.map ld)) []
 have hd:d.toNat < h.ls.length:=by lia
 have e7:=BK (xs:=h.ls.map ld) (i:=d) (k:=d.toNat) (by lia) (by simpa using hd)
 simp only [List.getElem_map] at e7
 have e8:ld (h.ls[d.toNat]) = .tup [.str ⟨#[(h.ls[d.toNat]).1]⟩,.lst (iL (h.ls[d.toNat]).2)]:=rfl
 rw [e8] at e7
 have e9:=at0 (D.str ⟨#[(h.ls[d.toNat]).1]⟩) [.lst (iL (h.ls[d.toNat]).2)]
 have hlim:1000≤LIM:=by decide
 have e10:(z.length + 1≤LIM) = True:=by simp only [eq_iff_iff,iff_true]; lia
 have e11:=len_one (h.ls[d.toNat]).1
 refine ⟨as',(h.ls[d.toNat]).1,b1,List.mem_map.mpr ⟨_,List.getElem_mem hd,rfl⟩,?_⟩
 simp only [Hs.d]
 clear hlim e8 b1 g1 g2 l1 l2 hb hN hz hl ok
 walk_at "eo"
theorem s_row {N:Nat} {as:List A} {h:Hs} (ok:h.Ok) (hb:Bag N as) (hN:N≤1000) (most:Int) (hm:0≤most) (hm2:most≤40):∃ z as' a2 a3,Row h z∧z.length≤40∧Bag (N + 50) as'∧D0 [(.lent,.lst as),(.own,.fz h.d),(.own,.fz (.int most))] = some (.fz (.str z),[.lst as',a2,a3]):=by
 obtain ⟨d1,as1,g1,g2,b1,t1⟩:=BR hb (by lia) (most + 1) (by lia) (by lia)
 obtain ⟨d2,as2,g3,g4,b2,t2⟩:=BR b1 (by lia) 8 (by lia) (by lia)
 have st1:AL 3 (Al Aj (Ab (Ae 0) (Ab (opM A4 (m2L (Ae 2) (Ag (.int 1)))) Ah))) [some (.lent,.lst as),some (.own,.fz h.d),some (.own,.fz (.int most)),none,none,none] = some (.next [some (.lent,.lst as1),some (.own,.fz h.d),some (.own,.fz (.int most)),some (.own,.fz (.int d1)),none,none]):=by
  clear t2 b2 b1 g1 g2 g3 g4 hN hb hm hm2 ok
  walk_at "eo"
 have st2:∃ as3 size,Bag (N + 3) as3∧0≤size∧size≤40∧ifS (AR (opM eqA (m2L (Al Aj (Ab (Ae 0) (Ab (Ag (.int 8)) Ah))) (Ag (.int 1))))) (AL 3 (Al Aj (Ab (Ae 0) (Ab (Ag (.int 41)) Ah)))) Bj [some (.lent,.lst as1),some (.own,.fz h.d),some (.own,.fz (.int most)),some (.own,.fz (.int d1)),none,none] = some (.next [some (.lent,.lst as3),some (.own,.fz h.d),some (.own,.fz (.int most)),some (.own,.fz (.int size)),none,none]):=by
  obtain ⟨d3,as3,g5,g6,b3,t3⟩:=BR b2 (by lia) 41 (by lia) (by lia)
  by_cases h1:d2 = 1
  ·refine ⟨as3,d3,b3.mono (by lia),g5,by lia,?_⟩
   have e1:(d2 == 1) = true:=by simpa using h1
   clear b2 b1 g1 g2 g3 g4 hN hb hm hm2 ok b3 g5 g6 h1 st1 t1
   walk_at "eo"
  ·refine ⟨as2,d1,b2.mono (by lia),g1,by lia,?_⟩
   have e1:(d2 == 1) = false:=by simpa using h1
   clear b2 b1 g1 g2 g3 g4 hN hb hm hm2 ok b3 g5 g6 h1 st1 t1
   walk_at "eo"
 obtain ⟨as3,size,b3,z1,z2,st2⟩:=st2
 have rg:Bw (Ae 3) [some (.lent,.lst as3),some (.own,.fz h.d),some (.own,.fz (.int most)),some (.own,.fz (.int size)),some (.own,.fz (.str (Str.ofString ""))),none] = some (DU 0 size.toNat,none,[some (.lent,.lst as3),some (.own,.fz h.d),some (.own,.fz (.int most)),some (.own,.fz (.int size)),some (.own,.fz (.str (Str.ofString ""))),none]):=by
  have e0:(-(2 ^ 62)≤size∧size < 2 ^ 62) = True:=by simp; lia
  clear t1 t2 b1 b2 b3 g1 g2 g3 g4 hb hN st1 st2 z1 z2 hm hm2 ok
  walk_at "eo"
 have em:(Str.ofString "").cps.toList = []:=by decide +kernel
 have em2:(Str.ofString "").length = 0:=by decide +kernel
 obtain ⟨ρ',f1,f2⟩:=Gr (is:=[5]) (one:=true) (b:=(AL 4 (opM A4 (m2L (Ae 4) (opM ixA (m2L (opM ixA (m2L (opM ixA (m2L (Ae 1) (Ag (.int 1)))) (Al Aj (Ab (Ae 0) (Ab (opM Cb (Ab (opM ixA (m2L (Ae 1) (Ag (.int 1)))) Ah)) Ah))))) (Ag (.int 0))))))))
  (fun j ρ=>∃ as' z x5,(pN x5)∧Bag (N + 3 + j) as'∧Row h z∧z.length = j ∧ ρ = [some (.lent,.lst as'),some (.own,.fz h.d),some (.own,.fz (.int most)),some (.own,.fz (.int size)),some (.own,.fz (.str z)),x5]) rg ⟨as3,Str.ofString "",none,.inl rfl,b3,⟨by rw [em2]; lia,by rw [em]; simp⟩,em2,rfl⟩ (fun j d ρ hd hI=>by
   obtain ⟨as',z,x5,hx5,hb',hz,hzl,rfl⟩:=hI
   obtain ⟨rfl,hj⟩:=Hd hd
   obtain ⟨as'',c,s1,s2,s3⟩:=Nw (j:=j) (most:=most) (size:=size) ok hb' (by lia) hz (by lia)
   refine ⟨_,_,?_,.inl s3,as'',_,_,.inr ⟨_,rfl⟩,s1,⟨?_,?_⟩,?_,rfl⟩
   ·rcases hx5 with rfl | ⟨d,rfl⟩ <;> simp [Eo,free,J.own]
   ·rw [NT]; lia
   ·rw [app_list]
    intro x hx
    rcases List.mem_append.mp hx with hx | hx
    ·exact hz.2 x hx
    ·simp only [List.mem_singleton] at hx; subst hx; exact s2
   ·rw [NT,hzl])
 rw [He] at f2
 obtain ⟨as',z,x5,_,hb',hz,hzl,rfl⟩:=f2
 refine ⟨z,as',_,_,hz,by lia,hb'.mono (by lia),BO (ρ:=[some (.lent,.lst as'),some (.own,.fz h.d),some (.own,.fz (.int most)),some (.own,.fz (.int size)),some (.own,.fz (.str z)),x5]) rfl ?_⟩
 show EH [some (.lent,.lst as),some (.own,.fz h.d),some (.own,.fz (.int most)),none,none,none] = _
 unfold EH
 rw [Ay st1,Ay st2,Ay (ρ1:=[some (.lent,.lst as3),some (.own,.fz h.d),some (.own,.fz (.int most)),some (.own,.fz (.int size)),some (.own,.fz (.str (Str.ofString ""))),none]) (by rfl),Ay f1]
 exact DS rfl
theorem SJ (s1 s2:Own) (x:Int):∃ h z as' a1 a2,Hs.Ok h∧Row h z∧z.length≤40∧Bag 100 as'∧C8 [(s1,.fz (.int x)),(s2,.fz (.int 6))] = some (.tup [.lst as',.fz h.d,.fz (.str z)],[a1,a2]):=by
 obtain ⟨as0,a0,b0,t0⟩:=Wo .own x
 obtain ⟨h,as1,ok,b1,t1⟩:=SM b0 (by lia)
 obtain ⟨z,as2,c2,c3,hz,hl,b2,t2⟩:=s_row ok b1 (by lia) 6 (by lia) (by lia)
 refine ⟨h,z,as2,_,_,ok,hz,hl,b2.mono (by lia),BO (ρ:=[some (s1,.fz (.int x)),some (s2,.fz (.int 6)),none,some (.own,.fz h.d)]) rfl ?_⟩
 show DJ [some (s1,.fz (.int x)),some (s2,.fz (.int 6)),none,none] = _
 unfold DJ
 have l3:((3:Nat)≤LIM) = True:=by simp [LIM,sizeLine]
 clear b0 b1 b2 ok hz hl
 walk_at "eo"
theorem K7 {n j:Nat} {d:D} (h:(DU 0 n)[j]? = some d):d = .int j∧j < n:=by
 obtain ⟨h1,h2⟩:=Hd h
 rw [Int.zero_add] at h1
 exact ⟨h1,h2⟩
theorem SE {m:ME} {ρ ρ1:Ro} {n:Int} (h:m ρ = some (.val (.fz (.int n)),ρ1)) (h0:0≤n) (h1:n≤1000000):Bw m ρ = some (DU 0 n.toNat,none,ρ1):=by
 have e0:(-(2 ^ 62)≤n∧n < 2 ^ 62) = True:=by simp; lia
 simp only [Bw,h,Option.bind_some,e0,if_true]
theorem nil_of (ρ:Ro):Ah ρ = some ([],ρ):=rfl
theorem Vf (ns:List Int) (k:Nat):∃ c a2,Dx [(.ro,.scr ns),(.own,.fz (.int k))] = some (.fz (.int c),[.scr ns,a2]):=by
 by_cases h:k < ns.length
 ·obtain ⟨c,e2⟩:∃ c,atI (ns.map D.int) (k:Int) = some (.int c):=⟨ns[k],by
   have e2:=BK (xs:=ns.map D.int) (i:=(k:Int)) (k:=k) rfl (by simpa using h)
   simpa using e2⟩
  refine ⟨c,_,BO (ρ:=[some (.ro,.scr ns),some (.own,.fz (.int k))]) rfl ?_⟩
  show Ci [some (.ro,.scr ns),some (.own,.fz (.int k))] = _
  unfold Ci
  have e1:decide ((k:Int) < (ns.length:Int)) = true:=by simpa using h
  clear h
  walk_at "eo"
 ·refine ⟨0,_,BO (ρ:=[some (.ro,.scr ns),some (.own,.fz (.int k))]) rfl ?_⟩
  show Ci [some (.ro,.scr ns),some (.own,.fz (.int k))] = _
  unfold Ci
  have e1:decide ((k:Int) < (ns.length:Int)) = false:=by simpa using h
  clear h
  walk_at "eo"
theorem Lr (c:Nat) (cs:List Nat):inD (chD c) (cs.map chD) = decide (c∈cs):=by
 induction cs with
 | nil=>rfl
 | cons y ys ih =>
  have:inD (chD c) ((y :: ys).map chD) = (eqD (chD y) (chD c) || inD (chD c) (ys.map chD)):=rfl
  rw [this,ih]
  by_cases h:y = c
  ·subst h; simp [Ep]
  ·have h':¬ c = y:=fun z=>h z.symm
   simp [h,h',chD,E7,Hh,HV,Gn,FH]
theorem RI (cs:List Nat):(cs.map chD).all Cw = true:=by simp [chD,Cw,List.all_eq_true]
theorem Dn {ms:MA} {ρ ρ1:Ro} {rs:List R} {as:List A} (h1:ms ρ = some (rs,ρ1)) (h2:vals rs = some as) (h3:decide (as.length≤LIM) = true):lstM ms ρ = some (.val (.lst as),ρ1):=by
 simp only [lstM,h1,h2,Option.bind_some,if_pos (of_decide_eq_true h3)]
theorem JJ {xs ys:List D} (h:decide (xs.length + ys.length≤LIM) = true):A4 [.lst (xs.map A.fz),.lst (ys.map A.fz)] = some (.lst ((xs ++ ys).map A.fz)):=by
 have h:=of_decide_eq_true h
 simp only [A4,on2,BJ,EK,CP,Fj,fzU,DR,Ca,Option.bind_none,Option.none_or,Option.bind_some,if_pos h]
theorem P5 (h:Hs) (c:Nat):(!(Builtin.Str.occurrences h.text ⟨#[c]⟩ 0 h.text.length 1).isEmpty) = decide (c∈h.ls.map (·.1)):=by
 rw [StrLaws.found_one]
 exact decide_eq_decide.mpr Iff.rfl
theorem Wb {a b:MT} {ρ ρ1 ρ2:Ro} (h1:a ρ = some (false,ρ1)) (h2:b ρ1 = some (false,ρ2)):orT a b ρ = some (false,ρ2):=by simp [orT,h1,h2]
noncomputable def gC (cs:List Nat):D→Bool
 | .str z=>decide (z.cps.getD 0 0∈cs)
 | _=>false
theorem S7 (cs:List Nat) (c:Nat):gC cs (chD c) = decide (c∈cs):=rfl
theorem KD (s1 s2:Own) (h:Hs) (ok:h.Ok) (z:Str) (hl:z.length≤1000) (hz:∃ c∈z.cps.toList,c ∉ h.ls.map (·.1)):Cz [(s1,.fz h.d),(s2,.fz (.str z))] = some (.fz (.bl false),[.fz h.d,.fz (.str z)]):=by
 have e1:=ES .own h ok
 have e2:=ER .own h ok
 have hlim:1000≤LIM:=by decide
 have e3:(z.length≤LIM) = True:=by simp; lia
 have hc:=CY (it:=IE (Ae 1)) (e:=opM (inA false) (m2L (Ae 0) (Ae 3))) (ρ:=[some (s1,.fz h.d),some (s2,.fz (.str z)),some (.own,.fz (.str h.text))]) (ρ1:=[some (s1,.fz h.d),some (s2,.fz (.str z)),some (.own,.fz (.str h.text))]) (ds:=B7 z) (n:=none) (f:=fun d=>.bl (gC (h.ls.map (·.1)) d))
  (by clear e1 e2 hz; walk_at "eo") (by
   have:(B7 z).length = z.length:=by simp [B7]; rfl
   rw [this]; lia) (fun d hd=>by
   simp only [B7,List.mem_map] at hd
   obtain ⟨c,hc,rfl⟩:=hd
   have e4:=P5 h c
   have e5:=S7 (h.ls.map (·.1)) c
   simp only [chD] at e5
   refine ⟨.val (.fz (.bl (gC (h.ls.map (·.1)) (.str ⟨#[c]⟩)))),?_,rfl⟩
   rw [e5,← e4]
   clear e1 e2 e3 e5 hz e4
   walk_at "eo")
 have ha:((B7 z).map fun d=>gC (h.ls.map (·.1)) d).all id = false:=by
  obtain ⟨c,h1,h2⟩:=hz
  rw [List.all_eq_false]
  refine ⟨false,?_,by simp⟩
  rw [List.mem_map]
  refine ⟨chD c,?_,by rw [S7]; exact decide_eq_false h2⟩
  simp only [B7,List.mem_map]
  exact ⟨c,h1,rfl⟩
 refine BO (ρ:=[some (s1,.fz h.d),some (s2,.fz (.str z)),some (.own,.fz (.str h.text))]) rfl ?_
 show Cs [some (s1,.fz h.d),some (s2,.fz (.str z)),none] = _
 unfold Cs
 clear hz
 rw [Ay (ρ1:=[some (s1,.fz h.d),some (s2,.fz (.str z)),none]) (by clear hc ha; walk_at "eo"),Ay (ρ1:=[some (s1,.fz h.d),some (s2,.fz (.str z)),none]) (by clear hc ha; walk_at "eo"),Ay (ρ1:=[some (s1,.fz h.d),some (s2,.fz (.str z)),some (.own,.fz (.str h.text))]) (by clear hc ha; walk_at "eo")]
 refine DS (CT (cons_of hc (nil_of _)) rfl ?_)
 simp only [on1,on2,on3,BJ,CP,fzU,EK,Fj,Hm,DR,Ca,Option.bind_some,Option.map_some,DC,ha]
noncomputable def mn (f:Nat→List Int) (j:Nat):Nat→List Int
 | 0=>[(j:Int)]
 | t + 1=>if (mn f j t).any (fun k=>(f (j - 1 - t)).any fun x=>decide (x∈f k.toNat)) then ((j - 1 - t:Nat):Int) :: mn f j t else mn f j t
noncomputable def Com (f:Nat→List Int) (i k:Nat):Prop:=∃ x∈f i,x∈f k
theorem LV:∀ (ls:List (Nat × List Int)),Ga (ls.map ld) = some (ls.map fun p=>((Sum.inr (⟨#[p.1]⟩:Str):Key),D.lst (iL p.2)))
 | []=>rfl
 | p :: ls=>by
  have ih:=LV ls
  simp only [List.map_cons,ld,chD,Ga,Ly,Option.bind_some]
  rw [ih]
  rfl
theorem Rr {h:Hs} {c:Nat} (hc:c∈h.ls.map (·.1)):Pp (h.ls.map fun p=>((Sum.inr (⟨#[p.1]⟩:Str):Key),D.lst (iL p.2))) (Sum.inr (⟨#[c]⟩:Str)) = some (.lst (iL (h.hands c))):=by
 unfold Pp Hs.hands
 rw [List.find?_map]
 have e1:((fun (kv:Key × D)=>decide (kv.1 = Sum.inr (⟨#[c]⟩:Str))) ∘ fun (p:Nat × List Int)=>((Sum.inr (⟨#[p.1]⟩:Str):Key),D.lst (iL p.2))) = fun p=>p.1 == c:=by
  funext p
  rw [Bool.eq_iff_iff]
  simp
 rw [e1]
 cases hf:h.ls.find? (fun p=>p.1 == c) with
 | none =>
  obtain ⟨p,hp,rfl⟩:=List.mem_map.mp hc
  have:=List.find?_eq_none.mp hf p hp
  simp at this
 | some p=>rfl
theorem keys_nodup {h:Hs} (ok:h.Ok):((h.ls.map fun p=>((Sum.inr (⟨#[p.1]⟩:Str):Key),D.lst (iL p.2))).map (·.1)).Nodup:=by
 rw [List.map_map]
 have:=ok.ri
 rw [List.pairwise_map] at this
 unfold List.Nodup
 rw [List.pairwise_map]
 refine this.imp fun {a b} hab e=>?_
 simp at e
 lia
theorem Vg (s1 s2 s3:Own) (h:Hs) (ok:h.Ok) (c1 c2:Nat) (hc1:c1∈h.ls.map (·.1)) (hc2:c2∈h.ls.map (·.1)):Bd [(s1,.fz h.d),(s2,.fz (.str ⟨#[c1]⟩)),(s3,.fz (.str ⟨#[c2]⟩))] = some (.fz (.bl ((h.hands c1).any fun x=>decide (x∈h.hands c2))),[.fz h.d,.fz (.str ⟨#[c1]⟩),.fz (.str ⟨#[c2]⟩)]):=by
 have e1:=LV h.ls
 have e2:=Rr hc1
 have e3:=Rr hc2
 have e4:((h.ls.map fun p=>((Sum.inr (⟨#[p.1]⟩:Str):Key),D.lst (iL p.2))).map (·.1)).Nodup = True:=eq_true (keys_nodup ok)
 have e5:=at1 (D.int h.n) (.lst (h.ls.map ld)) []
 have hl:=h.hands_len ok c1
 have hlim:1000≤LIM:=by decide
 generalize (h.ls.map fun p=>((Sum.inr (⟨#[p.1]⟩:Str):Key),D.lst (iL p.2))) = kvs at e1 e2 e3 e4
 have hc:=CY (it:=Dr (opM MB (m2L (Ae 3) (Ae 1)))) (e:=opM (inA false) (m2L (Ae 0) (opM MB (m2L (Ae 4) (Ae 3))))) (ρ:=[some (s1,.fz h.d),some (s2,.fz (.str ⟨#[c1]⟩)),some (s3,.fz (.str ⟨#[c2]⟩)),some (.own,.dic kvs)]) (ρ1:=[some (s1,.fz h.d),some (s2,.fz (.str ⟨#[c1]⟩)),some (s3,.fz (.str ⟨#[c2]⟩)),some (.own,.dic kvs)]) (ds:=iL (h.hands c1)) (n:=none) (f:=fun d=>.bl (decide (nD d∈h.hands c2)))
  (by clear e1 e4 e5 hl hlim hc1 hc2 ok; walk_at "eo") (by simp; lia) (fun d hd=>by
   obtain ⟨i,_,rfl⟩:=Kg.mp hd
   refine ⟨.val (.fz (.bl (decide (i∈h.hands c2)))),?_,rfl⟩
   clear e1 e4 e5 hl hlim hc1 hc2 ok hd e2
   walk_at "eo")
 rw [Ke (fun i=>D.bl (decide (i∈h.hands c2)))] at hc
 refine BO (ρ:=[some (s1,.fz h.d),some (s2,.fz (.str ⟨#[c1]⟩)),some (s3,.fz (.str ⟨#[c2]⟩)),some (.own,.dic kvs)]) rfl ?_
 show Ed [some (s1,.fz h.d),some (s2,.fz (.str ⟨#[c1]⟩)),some (s3,.fz (.str ⟨#[c2]⟩)),none] = _
 unfold Ed
 rw [Ay (ρ1:=[some (s1,.fz h.d),some (s2,.fz (.str ⟨#[c1]⟩)),some (s3,.fz (.str ⟨#[c2]⟩)),some (.own,.dic kvs)]) (by
  clear hc e2 e3 hl hlim hc1 hc2 ok
  simp only [Hs.d]
  walk_at "eo")]
 refine DS ?_
 simp only [on1,on2,on3,FR,GZ,BJ,CP,fzU,EK,Fj,opM,Ab,Ah,hc,Option.bind_some,Option.map_some,peeks,peek,Ge,DR,Ca,anyB,FQ]
theorem Te {f:Nat→List Int} {j:Nat}:∀ {t},t≤j→∀ k∈mn f j t,0≤k∧k≤j
 | 0,_,k,hk=>by simp [mn] at hk; lia
 | t + 1,ht,k,hk=>by
  have ih:=Te (f:=f) (j:=j) (t:=t) (by lia)
  simp only [mn] at hk
  split at hk
  ·rcases List.mem_cons.mp hk with rfl | hk
   ·lia
   ·exact ih k hk
  ·exact ih k hk
theorem Qu {f:Nat→List Int} {j:Nat}:∀ {t},(mn f j t).length≤t + 1
 | 0=>by simp [mn]
 | t + 1=>by
  have ih:=Qu (f:=f) (j:=j) (t:=t)
  simp only [mn]
  split
  ·simp; lia
  ·lia
theorem Str.list_len (z:Str):z.cps.toList.length = z.length:=by simp; rfl
theorem Nr {s1 s2:Own} {h:Hs} (ok:h.Ok) {z:Str} (hz:Row h z) (hl:z.length≤40) {F:List D} {j t:Nat} (hj:j < z.length) (ht:t < j) :
  (ifS (AR (opM Ge (Ab (Bf (Dr (Ae 4)) 0 Ei (Al Bd (Ab (Ae 1) (Ab (opM ixA (m2L (Ae 2) (Ae 6))) (Ab (opM ixA (m2L (Ae 2) (Ae 0))) Ah))))) Ah))) (AL 4 (opM A4 (m2L (lstM (Ab (Ad (Ae 5)) Ah)) (Ae 4)))) Bj) [some (s1,.fz h.d),some (s2,.fz (.str z)),some (.own,.lst (F.map A.fz)),some (.own,.fz (.int (j:Int))),some (.own,hL (mn (h.at z) j t)),some (.own,.fz (.int ((j:Int) - 1 - (t:Int))))] = some (.next [some (s1,.fz h.d),some (s2,.fz (.str z)),some (.own,.lst (F.map A.fz)),some (.own,.fz (.int (j:Int))),some (.own,hL (mn (h.at z) j (t + 1))),some (.own,.fz (.int ((j:Int) - 1 - (t:Int))))]):=by
 have hlim:1000≤LIM:=by decide
 have hml:=Qu (f:=h.at z) (j:=j) (t:=t)
 have ei:((j:Int) - 1 - (t:Int)) = ((j - 1 - t:Nat):Int):=by lia
 have hp:j - 1 - t < z.cps.toList.length:=by rw [Str.list_len]; lia
 have e2:=Om ei hp
 have hit:Dr (Ae 4) [some (s1,.fz h.d),some (s2,.fz (.str z)),some (.own,.lst (F.map A.fz)),some (.own,.fz (.int (j:Int))),some (.own,hL (mn (h.at z) j t)),some (.own,.fz (.int ((j:Int) - 1 - (t:Int))))] = some (iL (mn (h.at z) j t),some 4,[some (s1,.fz h.d),some (s2,.fz (.str z)),some (.own,.lst (F.map A.fz)),some (.own,.fz (.int (j:Int))),some (.own,hL (mn (h.at z) j t)),some (.own,.fz (.int ((j:Int) - 1 - (t:Int))))]):=by
  clear hlim hml e2 hp ei hz hl hj ht ok
  simp only [hL]
  walk_at "eo"
 have hc:=CY (e:=(Al Bd (Ab (Ae 1) (Ab (opM ixA (m2L (Ae 2) (Ae 6))) (Ab (opM ixA (m2L (Ae 2) (Ae 0))) Ah))))) (f:=fun d=>.bl ((h.at z (j - 1 - t)).any fun x=>decide (x∈h.at z (nD d).toNat))) hit (by simp only [Fu]; lia) (fun d hd=>by
  obtain ⟨k,hk,rfl⟩:=Kg.mp hd
  have hk2:=Te (f:=h.at z) (j:=j) (t:=t) (by lia) k hk
  have hpk:k.toNat < z.cps.toList.length:=by rw [Str.list_len]; lia
  have e3:=Om (z:=z) (i:=k.toNat) (j:=k) (by lia) hpk
  have e4:=Vg .own .own .own h ok _ _ (hz.c hp) (hz.c hpk)
  refine ⟨.val (.fz (.bl ((h.at z (j - 1 - t)).any fun x=>decide (x∈h.at z k.toNat)))),?_,rfl⟩
  simp only [hL]
  clear hlim hml hit hz hl hj ht ok hd hk hk2 hp hpk ei
  walk_at "eo"
  rfl)
 rw [Ke (fun k=>D.bl ((h.at z (j - 1 - t)).any fun x=>decide (x∈h.at z k.toNat)))] at hc
 have hb:(AR (opM Ge (Ab (Bf (Dr (Ae 4)) 0 Ei (Al Bd (Ab (Ae 1) (Ab (opM ixA (m2L (Ae 2) (Ae 6))) (Ab (opM ixA (m2L (Ae 2) (Ae 0))) Ah))))) Ah))) [some (s1,.fz h.d),some (s2,.fz (.str z)),some (.own,.lst (F.map A.fz)),some (.own,.fz (.int (j:Int))),some (.own,hL (mn (h.at z) j t)),some (.own,.fz (.int ((j:Int) - 1 - (t:Int))))] = some ((mn (h.at z) j t).any fun k=>(h.at z (j - 1 - t)).any fun x=>decide (x∈h.at z k.toNat),[some (s1,.fz h.d),some (s2,.fz (.str z)),some (.own,.lst (F.map A.fz)),some (.own,.fz (.int (j:Int))),some (.own,hL (mn (h.at z) j t)),some (.own,.fz (.int ((j:Int) - 1 - (t:Int))))]):=by
  refine K0 ?_
  have hcc:=hc
  clear hc
  simp only [on1,on2,on3,FR,GZ,BJ,CP,fzU,EK,Fj,opM,Ab,Ah,hcc,Option.bind_some,Option.map_some,peeks,peek,Ge,DR,Ca,DC,FQ]
 have k1:mn (h.at z) j (t + 1) = if ((mn (h.at z) j t).any fun k=>(h.at z (j - 1 - t)).any fun x=>decide (x∈h.at z k.toNat)) then ((j - 1 - t:Nat):Int) :: mn (h.at z) j t else mn (h.at z) j t:=rfl
 cases hq:((mn (h.at z) j t).any fun k=>(h.at z (j - 1 - t)).any fun x=>decide (x∈h.at z k.toNat)) with
 | false =>
  rw [hq] at hb k1
  rw [RJ hb,k1]
  rfl
 | true =>
  rw [hq] at hb k1
  rw [V2 hb,k1]
  have a1:(1 + (mn (h.at z) j t).length≤LIM) = True:=by simp only [eq_iff_iff,iff_true]; lia
  have l1:((1:Nat)≤LIM) = True:=by simp [LIM,sizeLine]
  have a2:(D.int ((j:Int) - 1 - (t:Int)) :: iL (mn (h.at z) j t)) = iL (((j - 1 - t:Nat):Int) :: mn (h.at z) j t):=by rw [ei]; rfl
  rw [if_pos rfl]
  simp only [hL]
  rw [← a2]
  clear hb k1 hc hit hq hml hlim hp hz hl hj ht ok e2 ei a2
  walk_at "eo"
noncomputable def Fm (f:Nat→List Int) (n:Nat):List D:=(List.range n).map fun j=>D.lst (iL (mn f j j))
theorem Ru (f:Nat→List Int) (n:Nat):Fm f n ++ [D.lst (iL (mn f n n))] = Fm f (n + 1):=by simp [Fm,List.range_succ]
theorem L9 {s1 s2:Own} {h:Hs} (ok:h.Ok) {z:Str} (hz:Row h z) (hl:z.length≤40) {j:Nat} (hj:j < z.length) {x4 x5:Slot} (hx4:x4 = none∨∃ d,x4 = some (Own.own,A.fz d)) (hx5:x5 = none∨∃ d,x5 = some (Own.own,A.fz d)) :
  ∃ x4' x5',(x4' = none∨∃ d,x4' = some (Own.own,A.fz d))∧(x5' = none∨∃ d,x5' = some (Own.own,A.fz d))∧(AF (AL 4 (lstM (Ab (Ad (Ae 3)) Ah))) (AF (FD [5] true (L8 (opM C6 (m2L (Ae 3) (Ag (.int 1)))) (opM GX (m1L (Ag (.int 1)))) (opM GX (m1L (Ag (.int 1))))) (ifS (AR (opM Ge (Ab (Bf (Dr (Ae 4)) 0 Ei (Al Bd (Ab (Ae 1) (Ab (opM ixA (m2L (Ae 2) (Ae 6))) (Ab (opM ixA (m2L (Ae 2) (Ae 0))) Ah))))) Ah))) (AL 4 (opM A4 (m2L (lstM (Ab (Ad (Ae 5)) Ah)) (Ae 4)))) Bj)) (EZ 2 (Ae 4)))) [some (s1,.fz h.d),some (s2,.fz (.str z)),some (.own,.lst ((Fm (h.at z) j).map A.fz)),some (.own,.fz (.int (j:Int))),x4,x5] = some (.next [some (s1,.fz h.d),some (s2,.fz (.str z)),some (.own,.lst ((Fm (h.at z) (j + 1)).map A.fz)),some (.own,.fz (.int (j:Int))),x4',x5']):=by
 have hlim:1000≤LIM:=by decide
 have l1:((1:Nat)≤LIM) = True:=by simp [LIM,sizeLine]
 have st1:AL 4 (lstM (Ab (Ad (Ae 3)) Ah)) [some (s1,.fz h.d),some (s2,.fz (.str z)),some (.own,.lst ((Fm (h.at z) j).map A.fz)),some (.own,.fz (.int (j:Int))),x4,x5] = some (.next [some (s1,.fz h.d),some (s2,.fz (.str z)),some (.own,.lst ((Fm (h.at z) j).map A.fz)),some (.own,.fz (.int (j:Int))),some (.own,hL (mn (h.at z) j 0)),x5]):=by
  clear hlim hz hl hj ok hx5
  simp only [hL,mn,iL]
  rcases hx4 with rfl | ⟨d,rfl⟩ <;> walk_at "eo"
 have rg:L8 (opM C6 (m2L (Ae 3) (Ag (.int 1)))) (opM GX (m1L (Ag (.int 1)))) (opM GX (m1L (Ag (.int 1)))) [some (s1,.fz h.d),some (s2,.fz (.str z)),some (.own,.lst ((Fm (h.at z) j).map A.fz)),some (.own,.fz (.int (j:Int))),some (.own,hL (mn (h.at z) j 0)),x5] = some (down ((j:Int) - 1) j,none,[some (s1,.fz h.d),some (s2,.fz (.str z)),some (.own,.lst ((Fm (h.at z) j).map A.fz)),some (.own,.fz (.int (j:Int))),some (.own,hL (mn (h.at z) j 0)),x5]):=by
  have e2:(-(2 ^ 62)≤(j:Int) - 1∧(j:Int) - 1 < 2 ^ 62 ∧ -(2 ^ 62)≤(-1:Int)∧(-1:Int) < 2 ^ 62) = True:=by simp; lia
  have e3:((j:Int) - 1 - -1).toNat = j:=by lia
  clear hlim st1 hz hl hj ok hx4 hx5 l1
  walk_at "eo"
 obtain ⟨ρ',f1,f2⟩:=Gr (is:=[5]) (one:=true) (b:=(ifS (AR (opM Ge (Ab (Bf (Dr (Ae 4)) 0 Ei (Al Bd (Ab (Ae 1) (Ab (opM ixA (m2L (Ae 2) (Ae 6))) (Ab (opM ixA (m2L (Ae 2) (Ae 0))) Ah))))) Ah))) (AL 4 (opM A4 (m2L (lstM (Ab (Ad (Ae 5)) Ah)) (Ae 4)))) Bj))
  (fun t ρ=>∃ x5,(pN x5) ∧ ρ = [some (s1,.fz h.d),some (s2,.fz (.str z)),some (.own,.lst ((Fm (h.at z) j).map A.fz)),some (.own,.fz (.int (j:Int))),some (.own,hL (mn (h.at z) j t)),x5]) rg ⟨x5,hx5,rfl⟩ (fun t d ρ hd hI=>by
   obtain ⟨x5,hx5,rfl⟩:=hI
   obtain ⟨rfl,ht⟩:=PF hd
   refine ⟨_,_,?_,.inl (Nr ok hz hl hj ht),_,.inr ⟨_,rfl⟩,rfl⟩
   rcases hx5 with rfl | ⟨d,rfl⟩ <;> simp [Eo,free,J.own])
 have dl:(down ((j:Int) - 1) j).length = j:=by simp [down]
 rw [dl] at f2
 obtain ⟨x5',hx5',rfl⟩:=f2
 refine ⟨some (.own,.fz (.lst (iL (mn (h.at z) j j)))),x5',.inr ⟨_,rfl⟩,hx5',?_⟩
 rw [Ay st1,Ay f1]
 have a1:((Fm (h.at z) j).length < LIM) = True:=by simp only [eq_iff_iff,iff_true,Fm,List.length_map,List.length_range]; lia
 have a2:(Fm (h.at z) j).map A.fz ++ [A.fz (.lst (iL (mn (h.at z) j j)))] = (Fm (h.at z) (j + 1)).map A.fz:=by rw [← Ru]; simp
 clear f1 dl rg st1 hlim hz hl hj ok hx4 hx5 l1
 simp only [hL]
 walk_at "eo"
theorem SH (s1 s2:Own) (h:Hs) (ok:h.Ok) (z:Str) (hz:Row h z) (hl:z.length≤40):∃ a1 a2,C7 [(s1,.fz h.d),(s2,.fz (.str z))] = some (.lst ((Fm (h.at z) z.length).map A.fz),[a1,a2]):=by
 have l0:((0:Nat)≤LIM) = True:=by simp
 have rg:Bw (opM Cb (Ab (Ae 1) Ah)) [some (s1,.fz h.d),some (s2,.fz (.str z)),some (.own,.lst ((Fm (h.at z) 0).map A.fz)),none,none,none] = some (DU 0 z.length,none,[some (s1,.fz h.d),some (s2,.fz (.str z)),some (.own,.lst ((Fm (h.at z) 0).map A.fz)),none,none,none]):=by
  have e1:opM Cb (Ab (Ae 1) Ah) [some (s1,.fz h.d),some (s2,.fz (.str z)),some (.own,.lst ((Fm (h.at z) 0).map A.fz)),none,none,none] = some (.val (.fz (.int z.length)),[some (s1,.fz h.d),some (s2,.fz (.str z)),some (.own,.lst ((Fm (h.at z) 0).map A.fz)),none,none,none]):=by
   clear hl hz ok l0
   walk_at "eo"
  have:=SE e1 (by lia) (by lia)
  rw [Int.toNat_natCast] at this
  exact this
 obtain ⟨ρ',f1,f2⟩:=Gr (is:=[3]) (one:=true) (b:=(AF (AL 4 (lstM (Ab (Ad (Ae 3)) Ah))) (AF (FD [5] true (L8 (opM C6 (m2L (Ae 3) (Ag (.int 1)))) (opM GX (m1L (Ag (.int 1)))) (opM GX (m1L (Ag (.int 1))))) (ifS (AR (opM Ge (Ab (Bf (Dr (Ae 4)) 0 Ei (Al Bd (Ab (Ae 1) (Ab (opM ixA (m2L (Ae 2) (Ae 6))) (Ab (opM ixA (m2L (Ae 2) (Ae 0))) Ah))))) Ah))) (AL 4 (opM A4 (m2L (lstM (Ab (Ad (Ae 5)) Ah)) (Ae 4)))) Bj)) (EZ 2 (Ae 4)))))
  (fun j ρ=>∃ x3 x4 x5,(pN x3)∧(pN x4)∧(pN x5) ∧ ρ = [some (s1,.fz h.d),some (s2,.fz (.str z)),some (.own,.lst ((Fm (h.at z) j).map A.fz)),x3,x4,x5]) rg ⟨none,none,none,.inl rfl,.inl rfl,.inl rfl,rfl⟩ (fun j d ρ hd hI=>by
   obtain ⟨x3,x4,x5,hx3,hx4,hx5,rfl⟩:=hI
   obtain ⟨rfl,hj⟩:=K7 hd
   obtain ⟨x4',x5',h4,h5,st⟩:=L9 (s1:=s1) (s2:=s2) ok hz hl hj hx4 hx5
   refine ⟨_,_,?_,.inl st,_,x4',x5',.inr ⟨_,rfl⟩,h4,h5,rfl⟩
   rcases hx3 with rfl | ⟨d,rfl⟩ <;> simp [Eo,free,J.own])
 rw [He] at f2
 obtain ⟨x3,x4,x5,_,_,_,rfl⟩:=f2
 refine ⟨_,_,BO (ρ:=[some (s1,.fz h.d),some (s2,.fz (.str z)),none,x3,x4,x5]) rfl ?_⟩
 show DI [some (s1,.fz h.d),some (s2,.fz (.str z)),none,none,none,none] = _
 unfold DI
 have st1:AL 2 (lstM Ah) [some (s1,.fz h.d),some (s2,.fz (.str z)),none,none,none,none] = some (.next [some (s1,.fz h.d),some (s2,.fz (.str z)),some (.own,.lst ((Fm (h.at z) 0).map A.fz)),none,none,none]):=by
  clear f1 rg hz hl ok
  have e0:Fm (h.at z) 0 = []:=rfl
  rw [e0]
  walk_at "eo"
 rw [Ay st1,Ay f1]
 simp only [retS,Ae,unlock,List.getElem?_cons_zero,List.getElem?_cons_succ,Option.bind_some,move,Option.map_some,List.set_cons_zero,List.set_cons_succ]
theorem Tr {f:Nat→List Int} {n j:Nat} (h:j < n):atI (Fm f n) (j:Int) = some (.lst (iL (mn f j j))):=by
 have:=BK (xs:=Fm f n) (i:=(j:Int)) (k:=j) rfl (by simpa [Fm] using h)
 rw [this]
 simp [Fm]
theorem PV (z:Str) (j:Nat):z.cps.getD j 0 = z.cps.toList.getD j 0:=by rw [Array.getD_eq_getD_getElem?]; simp [List.getD]
theorem RW {z:Str} {j:Nat} {d:D} (h:(FJ z)[j]? = some d):d = .tup [.int j,.str ⟨#[z.cps.getD j 0]⟩]∧j < z.length:=by
 have hj:j < z.cps.size:=by have:=Az h; simpa [FJ] using this
 simp only [FJ,List.getElem?_map,List.getElem?_range hj,Option.map_some,Option.some.injEq] at h
 exact ⟨h.symm,hj⟩
noncomputable abbrev sL (l:List D):Slot:=some (.own,.lst (l.map A.fz))
noncomputable abbrev eW (a:Addr) (o:Obj) (x y z:Slot):Ro:=[some (.lent,.opq a o),x,y,z]
noncomputable abbrev v10:List D:=[.str (Str.ofString "NoHouse"),.str (Str.ofString "NoRow"),.str (Str.ofString "NoMachine"),.str (Str.ofString "NoRoom"),.str (Str.ofString "NoHand"),.str (Str.ofString "Unlike"),.str (Str.ofString "NoPast"),.str (Str.ofString "TooMany"),.str (Str.ofString "Torn"),.str (Str.ofString "NoTable")]
noncomputable abbrev v15:List D:=[.str (Str.ofString "NoHouse"),.str (Str.ofString "NoRow"),.str (Str.ofString "NoMachine"),.str (Str.ofString "NoRoom"),.str (Str.ofString "NoHand"),.str (Str.ofString "Unlike"),.str (Str.ofString "NoPast"),.str (Str.ofString "TooMany"),.str (Str.ofString "Torn"),.str (Str.ofString "NoTable"),.str (Str.ofString "NoSet"),.str (Str.ofString "Falls"),.str (Str.ofString "Whole"),.str (Str.ofString "NoText"),.str (Str.ofString "NoWord")]
noncomputable abbrev q0 (j:Nat):List D:=[.bl (0 == j),.bl (1 == j),.bl (2 == j),.bl (3 == j)]
noncomputable abbrev p1 (j:Nat):List D:=[.bl (4 == j),.bl (5 == j),.bl (6 == j),.bl (7 == j)]
noncomputable abbrev q1 (j:Nat):List D:=q0 j ++ p1 j
noncomputable abbrev p2 (j:Nat):List D:=[.bl (8 == j),.bl (9 == j),.bl (10 == j),.bl (11 == j)]
noncomputable abbrev q2 (j:Nat):List D:=q1 j ++ p2 j
noncomputable abbrev p3 (j:Nat):List D:=[.bl (12 == j),.bl (13 == j),.bl (14 == j)]
noncomputable abbrev q3 (j:Nat):List D:=q2 j ++ p3 j
theorem T1 {C:Addr} {b:Bool} {a:Addr} {o:Obj} (h:o.cls = .ref C):Bk C b [.opq a o] = some (.fz (.bl b)):=by
 have e:(o.cls == .ref C) = true:=by rw [h]; exact beq_self_eq_true _
 simp only [Bk,on1,TZ,e,if_true]
theorem Nx {C a:Addr} {o:Obj} {j:Nat} {wd:Str} (h:o.cls = .ref C) (h6:AL 3 (Bf (Bw (Ag (.int 15))) 0 (AR (opM ixA (m2L (Ae 2) (Ae 0)))) (opM ixA (m2L (Ae 3) (Ae 0)))) (eW a o (sL (q3 j)) (sL v15) none) = some (.next (eW a o (sL (q3 j)) (sL v15) (sL [.str wd])))):D2 C j [(.lent,.opq a o)] = some (.fz (.str wd),[.opq a o]):=by
 have ix:∀ (b:Bool) (x y z:Slot),opM (Bk C b) (m1L (Ae 0)) (eW a o x y z) = some (.val (.fz (.bl b)),eW a o x y z):=fun b x y z=>CT rfl rfl (T1 h)
 have ip:∀ (b:Bool) (x y z:Slot),Ad (opM (Bk C b) (m1L (Ae 0))) (eW a o x y z) = some (.val (.fz (.bl b)),eW a o x y z):=fun b x y z=>Fh (ix b x y z) rfl
 have st0:AL 1 (lstM (Ab (Ad (opM (Bk C (0 == j)) (m1L (Ae 0)))) (Ab (Ad (opM (Bk C (1 == j)) (m1L (Ae 0)))) (Ab (Ad (opM (Bk C (2 == j)) (m1L (Ae 0)))) (Ab (Ad (opM (Bk C (3 == j)) (m1L (Ae 0)))) Ah))))) (eW a o none none none) = some (.next (eW a o (sL (q0 j)) none none)):=Ec (Dn (cons_of (ip _ _ _ _) (cons_of (ip _ _ _ _) (cons_of (ip _ _ _ _) (cons_of (ip _ _ _ _) (nil_of _))))) rfl rfl) rfl
 have l1:(lstM (Ab (Ad (opM (Bk C (4 == j)) (m1L (Ae 0)))) (Ab (Ad (opM (Bk C (5 == j)) (m1L (Ae 0)))) (Ab (Ad (opM (Bk C (6 == j)) (m1L (Ae 0)))) (Ab (Ad (opM (Bk C (7 == j)) (m1L (Ae 0)))) Ah))))) (eW a o (sL (q0 j)) none none) = some (.val (.lst ((p1 j).map A.fz)),(eW a o (sL (q0 j)) none none)):=(Dn (cons_of (ip _ _ _ _) (cons_of (ip _ _ _ _) (cons_of (ip _ _ _ _) (cons_of (ip _ _ _ _) (nil_of _))))) rfl rfl)
 have st1:AL 1 (opM A4 (m2L (Ae 1) (lstM (Ab (Ad (opM (Bk C (4 == j)) (m1L (Ae 0)))) (Ab (Ad (opM (Bk C (5 == j)) (m1L (Ae 0)))) (Ab (Ad (opM (Bk C (6 == j)) (m1L (Ae 0)))) (Ab (Ad (opM (Bk C (7 == j)) (m1L (Ae 0)))) Ah))))))) (eW a o (sL (q0 j)) none none) = some (.next (eW a o (sL (q1 j)) none none)):=Ec (CT (Et (r1:=.ref 1) rfl l1) rfl (JJ (xs:=q0 j) (ys:=p1 j) rfl)) rfl
 have l2:(lstM (Ab (Ad (opM (Bk C (8 == j)) (m1L (Ae 0)))) (Ab (Ad (opM (Bk C (9 == j)) (m1L (Ae 0)))) (Ab (Ad (opM (Bk C (10 == j)) (m1L (Ae 0)))) (Ab (Ad (opM (Bk C (11 == j)) (m1L (Ae 0)))) Ah))))) (eW a o (sL (q1 j)) none none) = some (.val (.lst ((p2 j).map A.fz)),(eW a o (sL (q1 j)) none none)):=(Dn (cons_of (ip _ _ _ _) (cons_of (ip _ _ _ _) (cons_of (ip _ _ _ _) (cons_of (ip _ _ _ _) (nil_of _))))) rfl rfl)
 have st2:AL 1 (opM A4 (m2L (Ae 1) (lstM (Ab (Ad (opM (Bk C (8 == j)) (m1L (Ae 0)))) (Ab (Ad (opM (Bk C (9 == j)) (m1L (Ae 0)))) (Ab (Ad (opM (Bk C (10 == j)) (m1L (Ae 0)))) (Ab (Ad (opM (Bk C (11 == j)) (m1L (Ae 0)))) Ah))))))) (eW a o (sL (q1 j)) none none) = some (.next (eW a o (sL (q2 j)) none none)):=Ec (CT (Et (r1:=.ref 1) rfl l2) rfl (JJ (xs:=q1 j) (ys:=p2 j) rfl)) rfl
 have l3:(lstM (Ab (Ad (opM (Bk C (12 == j)) (m1L (Ae 0)))) (Ab (Ad (opM (Bk C (13 == j)) (m1L (Ae 0)))) (Ab (Ad (opM (Bk C (14 == j)) (m1L (Ae 0)))) Ah)))) (eW a o (sL (q2 j)) none none) = some (.val (.lst ((p3 j).map A.fz)),(eW a o (sL (q2 j)) none none)):=(Dn (cons_of (ip _ _ _ _) (cons_of (ip _ _ _ _) (cons_of (ip _ _ _ _) (nil_of _)))) rfl rfl)
 have st3:AL 1 (opM A4 (m2L (Ae 1) (lstM (Ab (Ad (opM (Bk C (12 == j)) (m1L (Ae 0)))) (Ab (Ad (opM (Bk C (13 == j)) (m1L (Ae 0)))) (Ab (Ad (opM (Bk C (14 == j)) (m1L (Ae 0)))) Ah)))))) (eW a o (sL (q2 j)) none none) = some (.next (eW a o (sL (q3 j)) none none)):=Ec (CT (Et (r1:=.ref 1) rfl l3) rfl (JJ (xs:=q2 j) (ys:=p3 j) rfl)) rfl
 have st4:AL 2 (lstM (Ab (Ad (Ag (.str (Str.ofString "NoHouse")))) (Ab (Ad (Ag (.str (Str.ofString "NoRow")))) (Ab (Ad (Ag (.str (Str.ofString "NoMachine")))) (Ab (Ad (Ag (.str (Str.ofString "NoRoom")))) (Ab (Ad (Ag (.str (Str.ofString "NoHand")))) (Ab (Ad (Ag (.str (Str.ofString "Unlike")))) (Ab (Ad (Ag (.str (Str.ofString "NoPast")))) (Ab (Ad (Ag (.str (Str.ofString "TooMany")))) (Ab (Ad (Ag (.str (Str.ofString "Torn")))) (Ab (Ad (Ag (.str (Str.ofString "NoTable")))) Ah))))))))))) (eW a o (sL (q3 j)) none none) = some (.next (eW a o (sL (q3 j)) (sL v10) none)):=rfl
 have st5:AL 2 (opM A4 (m2L (Ae 2) (lstM (Ab (Ad (Ag (.str (Str.ofString "NoSet")))) (Ab (Ad (Ag (.str (Str.ofString "Falls")))) (Ab (Ad (Ag (.str (Str.ofString "Whole")))) (Ab (Ad (Ag (.str (Str.ofString "NoText")))) (Ab (Ad (Ag (.str (Str.ofString "NoWord")))) Ah)))))))) (eW a o (sL (q3 j)) (sL v10) none) = some (.next (eW a o (sL (q3 j)) (sL v15) none)):=rfl
 have c2:(orT (AR (opM neA (m2L (opM Cb (Ab (Ae 3) Ah)) (Ag (.int 1))))) (Dp (AR (opM (Bk C true) (m1L (Ae 0)))))) (eW a o (sL (q3 j)) (sL v15) (sL [.str wd])) = some (false,(eW a o (sL (q3 j)) (sL v15) (sL [.str wd]))):=Wb rfl (not_of (K0 (ix true _ _ _)))
 refine BO (ρ:=(eW a o (sL (q3 j)) (sL v15) (sL [.str wd]))) rfl ?_
 show HR C j (eW a o none none none) = _
 unfold HR
 exact (Ay st0).trans ((Ay st1).trans ((Ay st2).trans ((Ay st3).trans ((Ay st4).trans ((Ay st5).trans ((Ay h6).trans ((Ay ((RJ c2).trans rfl)).trans (DS rfl))))))))
theorem Jg {C a:Addr} {o:Obj} (h:o.cls = .ref C):D2 C 0 [(.lent,.opq a o)] = some (.fz (.str "NoHouse"),[.opq a o]):=Nx h rfl
theorem Me {C a:Addr} {o:Obj} (h:o.cls = .ref C):D2 C 1 [(.lent,.opq a o)] = some (.fz (.str "NoRow"),[.opq a o]):=Nx h rfl
theorem KH {C a:Addr} {o:Obj} (h:o.cls = .ref C):D2 C 6 [(.lent,.opq a o)] = some (.fz (.str "NoPast"),[.opq a o]):=Nx h rfl
noncomputable def OD:List Nat:=(List.range 26).map (97 + ·)
noncomputable def Hs.lets (h:Hs):List Nat:=h.ls.map (·.1)
noncomputable def Hs.oths (h:Hs):List Nat:=OD.filter fun c=>!decide (c∈h.ls.map (·.1))
theorem pig:∀ (n:Nat) (l:List Nat),l.length < n→∃ c,c < n∧(97 + c) ∉ l
 | 0,l,h=>by simp at h
 | n + 1,l,h=>by
  by_cases hn:97 + n∈l
  ·obtain ⟨c,h1,h2⟩:=pig n (l.erase (97 + n)) (by rw [List.length_erase_of_mem hn]; have:=List.length_pos_of_mem hn; lia)
   exact ⟨c,by lia,fun z=>h2 ((List.mem_erase_of_ne (by lia)).mpr z)⟩
  ·exact ⟨n,by lia,hn⟩
theorem Sa {h:Hs} (ok:h.Ok):0 < h.oths.length:=by
 obtain ⟨c,h1,h2⟩:=pig 7 h.lets (by have:=ok.l2; simp [Hs.lets]; lia)
 refine List.length_pos_of_mem (a:=97 + c) (List.mem_filter.mpr ⟨List.mem_map.mpr ⟨c,by simp; lia,rfl⟩,?_⟩)
 simpa [Hs.lets] using h2
theorem Sb {h:Hs} {c:Nat} (hc:c∈h.oths):c ∉ h.ls.map (·.1):=by
 have:=(List.mem_filter.mp hc).2
 simpa using this
theorem QG (h:Hs):h.oths.length≤26:=Nat.le_trans (List.length_filter_le _ _) (by simp [OD])
theorem Mt:B7 (Str.ofString "abcdefghijklmnopqrstuvwxyz") = OD.map chD:=by
 have e:(Str.ofString "abcdefghijklmnopqrstuvwxyz").cps.toList = OD:=by decide +kernel
 simp only [B7,e]
 rfl
theorem Px {α:Type} {xs:List α} {x:α} (h:xs.getLast? = some x):atI xs (-1) = some x:=by
 have hl:0 < xs.length:=by
  cases xs with
  | nil=>simp at h
  | cons _ _=>simp
 have e:ixN xs.length (-1) = some (xs.length - 1):=by
  unfold ixN
  rw [if_neg (by decide)]
  have : -(xs.length:Int) ≤ -1:=by lia
  simp [this]
  lia
 rw [atI,e,Option.bind_some,← List.getLast?_eq_getElem?]
 exact h
theorem El (x y:Str):(x ++ y).cps.toList = x.cps.toList ++ y.cps.toList:=by
 show (x.cps ++ y.cps).toList = _
 simp
local macro_rules | `(tactic| walk_at "wp1")=>`(tactic| first
 | (with_reducible refine KS ?_) | (with_reducible refine Dd ?_) | (with_reducible refine Ki ?_) | (with_reducible refine KL ?_) | (with_reducible refine KQ ?_) | (with_reducible refine KO ?_) | (with_reducible refine Oo ?_) | (with_reducible refine HJ ?_) | (with_reducible refine KW ?_) | (with_reducible refine KP ?_) | (with_reducible refine KN ?_) | (with_reducible refine Hz ?_) | (with_reducible refine Gq ?_)
 | (with_reducible refine NV ?_) | (with_reducible refine Hy ?_) | (with_reducible refine Gp ?_) | (with_reducible refine JV ?_) | (with_reducible refine JQ ?_) | (with_reducible refine NW ?_) | (with_reducible refine JY ?_) | (with_reducible refine JU ?_) | (with_reducible refine JX ?_) | (with_reducible refine JZ ?_)
 | (with_reducible refine Rz ?_) | (with_reducible refine Py ?_) | (with_reducible refine Fs ?_) | (with_reducible refine HM ?_)
 | (with_reducible refine K4 ?_) | (with_reducible refine K3 ?_) | (with_reducible refine K2 ?_) | (with_reducible refine Oz ?_) | (with_reducible refine K1 ?_)
 | (with_reducible refine Gh ?_) | (with_reducible refine HA ?_) | (with_reducible refine J5 ?_) | (with_reducible refine HH ?_)
 | ((with_reducible apply NX); · rfl)
 | ((with_reducible refine Exists.intro _ (And.intro (Fv ?_) ?_)); · rfl)
 | ((with_reducible apply ex1); · rfl) | ((with_reducible apply ex2); · rfl) | ((with_reducible apply ex3); · rfl) | ((with_reducible apply ex0); · rfl) | ((with_reducible refine And.intro ?_ ?_); · rfl) | ((with_reducible refine Lw ?_ ?_); · rfl) | ((with_reducible refine N1 ?_ ?_); · rfl))
local macro_rules | `(tactic| walk_at "wp")=>`(tactic| repeat walk_at "wp1")
section
variable {i:Nat} {m:ME} {ρ:Ro} {QS:Fl→Prop}
theorem Vl (h0:∃ p,DQ ρ i = some p) (h:EV m ρ fun r ρ1=>∃ x,peek ρ1 r = some x∧∃ ds,DR x = some ds∧∃ st as,DQ ρ1 i = some (st,as)∧as.length + ds.length≤LIM∧QS (.next (ρ1.set i (some (st,.lst (as ++ ds.map A.fz)))))):SV (Ln i m) ρ QS:=by
 obtain ⟨p,e0⟩:=h0
 obtain ⟨r,ρ1,e,x,e2,ds,e3,st,as,e4,hl,q⟩:=h
 exact ⟨_,by simp only [Ln,e0,e,e2,e3,e4,Option.bind_some,if_pos hl],q⟩
theorem RN {QI:List D→Option Nat→Ro→Prop} (h:EV m ρ fun r ρ1=>∃ z,r = .val (.fz (.str z))∧z.length≤100000∧QI (FJ z) none ρ1):IV (HS m) ρ QI:=by
 obtain ⟨r,ρ1,e,z,rfl,hl,q⟩:=h
 have hL:100000≤LIM:=by decide
 exact ⟨_,_,_,by simp only [HS,e,Option.bind_some,if_pos (Nat.le_trans hl hL)],q⟩
theorem VP {i j:Nat} {a b:D} {ρ:Ro} (h:free ρ i = true) (h2:free (ρ.set i (some (.own,.fz a))) j = true):Eo [i,j] false (.tup [a,b]) ρ = some ((ρ.set i (some (.own,.fz a))).set j (some (.own,.fz b))):=by
 simp only [Eo,BS,List.map_cons,List.map_nil,h,h2,if_true]
end
noncomputable def isF:Option (A × List A)→Bool
 | some (.fz (.bl false),_)=>true
 | _=>false
theorem PR {Φ:Fn} {as:List (Own × A)} (h:isF (Φ as) = true):FV Φ as fun a _=>a = .fz (.bl false):=by
 unfold isF at h
 split at h
 ·rename_i os e; exact ⟨_,_,e,rfl⟩
 ·cases h
noncomputable def RZ (n:Int):List D:=[.non,.int 0,.bl true,.str (Str.ofString ""),.str (Str.ofString "0"),.tup [],.tup [.int 0],.lst [.int n],.lst [.int (-1)],.lst [.int 0,.int 0],.lst [.int 1,.int 0],.lst [.bl true],.lst [.str (Str.ofString "0")],.lst [.lst [.int 0]],.lst [.non]]
theorem Q4:((List.range 13).all fun n=>(RZ n).all fun d=>isF (AG [(.own,.fz d),(.own,.fz (.int n))])) = true:=by kernel_rfl
noncomputable abbrev NP (h:Hs) (z:Str) (d:D):Prop:=FV C0 [(.own,.fz h.d),(.own,.fz (.str z)),(.own,.fz d)] fun a _=>a = .fz (.bl false)
theorem Uu {h:Hs} (ok:h.Ok) {z:Str} (hz:Row h z) (hl:z.length≤12) {d:D} (hd:d∈RZ z.length):NP h z d:=by
 have hr:=List.all_eq_true.mp (List.all_eq_true.mp Q4 z.length (by rw [List.mem_range]; lia)) d hd
 have e:=IA .own .own h ok z hz
 refine Gs rfl rfl ?_
 show SV De [some (.own,.fz h.d),some (.own,.fz (.str z)),some (.own,.fz d)] _
 unfold De
 walk_at "wp"
 refine CA e ?_
 walk_at "wp"
 refine Co (PR hr) fun a _ e=>?_
 subst e
 walk_at "wp"
 rfl
theorem Ma {h:Hs} (ok:h.Ok) {z:Str} (hz:Row h z) (hl:z.length≤12) {k:Nat} (hk:k < z.length) (hc:∃ i,i < k∧Com (h.at z) i k):FV Dc [(.own,.fz h.d),(.own,.fz (.str z)),(.own,.fz (.lst [.int k]))] fun a _=>a = .fz (.bl false):=by
 refine Gs rfl rfl ?_
 show SV DL [some (.own,.fz h.d),some (.own,.fz (.str z)),some (.own,.fz (.lst [.int k])),none,none,none,none] _
 unfold DL
 walk_at "wp"
 show SV _ [some (.own,.fz h.d),some (.own,.fz (.str z)),some (.own,.fz (.lst [.int k])),some (.own,hL []),none,none,none] _
 refine NC (RN ?_)
 walk_at "wp"
 refine ⟨by lia,fun j ρ=>j≤k∧∃ bs x4 x5 x6,(∀ q,q < j→∀ x∈h.at z q,x∈bs)∧bs.length≤4 * j∧Fr x4∧Fr x5∧Fr x6 ∧ ρ = [some (.own,.fz h.d),some (.own,.fz (.str z)),some (.own,.fz (.lst [.int k])),some (.own,hL bs),x4,x5,x6],⟨by lia,[],none,none,none,(by intro q hq; lia),by simp,rfl,rfl,rfl,rfl⟩,fun j d ρ hd hI=>?_,fun ρ hI=>?_⟩
 ·obtain ⟨hjk,bs,x4,x5,x6,hb,hbl,f4,f5,f6,rfl⟩:=hI
  obtain ⟨rfl,hj⟩:=RW hd
  rw [PV]
  have hcc:=hz.c (i:=j) (by rw [Str.list_len]; exact hj)
  have e3:=Nt .own .own h ok _ hcc
  have hlen:=h.hands_len ok (z.cps.toList.getD j 0)
  have e4:=Iy .own .lent (h.hands (z.cps.toList.getD j 0)) bs (by lia)
  have hlim:1000≤LIM:=by decide
  refine ⟨_,VP f4 f5,?_⟩
  walk_at "wp"
  refine CA e3 ?_
  refine ⟨_,_,rfl,f6,Dd ?_⟩
  walk_at "wp"
  refine Qa (fun e=>?_) fun e=>?_
  ·refine Vl ⟨_,rfl⟩ ?_
   walk_at "wp"
   refine ⟨by simp only [List.length_map,Fu]; lia,?_⟩
   refine Ow ⟨?_,bs ++ h.at z j,some (.own,.fz (.int j)),some (.own,.fz (chD (z.cps.toList.getD j 0))),some (.own,.fz (.lst (iL (h.hands (z.cps.toList.getD j 0))))),?_,?_,rfl,rfl,rfl,?_⟩
   ·have:j≠k:=fun e2=>by subst e2; simp [inD,E7] at e
    lia
   ·intro q hq x hx
    rw [List.mem_append]
    by_cases e2:q = j
    ·subst e2; exact .inr hx
    ·exact .inl (hb q (by lia) x hx)
   ·rw [List.length_append]; have:(h.at z j).length≤4:=hlen; lia
   ·rw [← TR]; rfl
  ·walk_at "wp"
   refine CA e4 ?_
   have ejk:j = k:=by
    simp [inD,E7] at e
    lia
   subst ejk
   have any:((h.hands (z.cps.toList.getD j 0)).any fun x=>decide (x∈bs)) = true:=by
    obtain ⟨i,hi,x,hx,hxk⟩:=hc
    rw [List.any_eq_true]
    exact ⟨x,hxk,decide_eq_true (hb i hi x hx)⟩
   rw [any]
   walk_at "wp"
   rfl
 ·obtain ⟨h1,_⟩:=hI
  have:(FJ z).length = z.length:=by simp [FJ]; rfl
  lia
theorem Uv {h:Hs} (ok:h.Ok) {z:Str} (hz:Row h z) (hl:z.length≤12) {k:Nat} (hk:k < z.length) (hc:∃ i,i < k∧Com (h.at z) i k):NP h z (.lst [.int k]):=by
 have e:=IA .own .own h ok z hz
 have e2:=Md .own .own [(k:Int)] z.length (by simp) (by simp) (by simp; lia)
 refine Gs rfl rfl ?_
 show SV De [some (.own,.fz h.d),some (.own,.fz (.str z)),some (.own,.fz (.lst [.int k]))] _
 unfold De
 walk_at "wp"
 refine CA e ?_
 walk_at "wp"
 refine CA e2 ?_
 walk_at "wp"
 refine Co (Ma ok hz hl hk hc) fun a _ e=>?_
 subst e
 walk_at "wp"
 rfl
theorem Us {f:Nat→List Int} {j:Nat} (hc:∀ i,i < j→¬ Com f i j):∀ t,t≤j→mn f j t = [(j:Int)]:=by
 intro t
 induction t with
 | zero=>intro _; rfl
 | succ t ih =>
  intro ht
  rw [mn,ih (by lia),if_neg]
  simp only [List.any_cons,List.any_nil,Bool.or_false,List.any_eq_true,decide_eq_true_eq,Int.toNat_natCast]
  rintro ⟨x,hx,hx2⟩
  exact hc (j - 1 - t) (by lia) ⟨x,hx,hx2⟩
theorem Ut {f:Nat→List Int} {j:Nat} (h:1 < (mn f j j).length):∃ i,i < j∧Com f i j:=by
 refine Classical.byContradiction fun hn=>?_
 rw [Us (fun i hi c=>hn ⟨i,hi,c⟩) j (Nat.le_refl _)] at h
 simp at h
local macro_rules | `(tactic| walk_at "wp1")=>`(tactic| first
 | (with_reducible refine KS ?_) | (with_reducible refine Dd ?_) | (with_reducible refine Ki ?_) | (with_reducible refine KL ?_) | (with_reducible refine KQ ?_) | (with_reducible refine KO ?_) | (with_reducible refine Oo ?_) | (with_reducible refine HJ ?_) | (with_reducible refine KW ?_) | (with_reducible refine KP ?_) | (with_reducible refine KN ?_) | (with_reducible refine Hz ?_) | (with_reducible refine Gq ?_)
 | (with_reducible refine NV ?_) | (with_reducible refine Hy ?_) | (with_reducible refine Gp ?_) | (with_reducible refine JV ?_) | (with_reducible refine JQ ?_) | (with_reducible refine NW ?_) | (with_reducible refine JY ?_) | (with_reducible refine JU ?_) | (with_reducible refine JX ?_) | (with_reducible refine JZ ?_)
 | (with_reducible refine Rz ?_) | (with_reducible refine Py ?_) | (with_reducible refine Fs ?_) | (with_reducible refine HM ?_)
 | (with_reducible refine K4 ?_) | (with_reducible refine K3 ?_) | (with_reducible refine K2 ?_) | (with_reducible refine Oz ?_) | (with_reducible refine K1 ?_)
 | (with_reducible refine Gh ?_) | (with_reducible refine HA ?_) | (with_reducible refine J5 ?_) | (with_reducible refine HH ?_)
 | ((with_reducible apply NX); · rfl)
 | ((with_reducible refine Exists.intro _ (And.intro (Fv ?_) ?_)); · rfl)
 | ((with_reducible apply ex1); · rfl) | ((with_reducible apply ex2); · rfl) | ((with_reducible apply ex3); · rfl) | ((with_reducible apply ex0); · rfl) | ((with_reducible refine And.intro ?_ ?_); · rfl) | ((with_reducible refine Lw ?_ ?_); · rfl) | ((with_reducible refine N1 ?_ ?_); · rfl))
local macro_rules | `(tactic| walk_at "wp")=>`(tactic| repeat walk_at "wp1")
noncomputable def OV:List D:=[.non,.int 0,.bl true,.str (Str.ofString ""),.str (Str.ofString "house"),.tup [],.lst [],.tup [.int 2],.tup [.int 2,.lst []],.tup [.int 1,.lst [.tup [.str (Str.ofString "a"),.lst [.int 0]]]],.tup [.int 5,.lst [.tup [.str (Str.ofString "a"),.lst [.int 0]]]],.tup [.str (Str.ofString "2"),.lst []],.tup [.bl true,.lst [.tup [.str (Str.ofString "a"),.lst [.int 0]]]],.lst [.int 2,.lst [.tup [.str (Str.ofString "a"),.lst [.int 0]]]],.tup [.int 2,.tup [.tup [.str (Str.ofString "a"),.lst [.int 0]]]],.tup [.int 2,.lst [.lst [.str (Str.ofString "a"),.lst [.int 0]]]],.tup [.int 2,.lst [.tup [.str (Str.ofString "a"),.lst []]]],.tup [.int 2,.lst [.tup [.str (Str.ofString "a"),.lst [.int 2]]]],.tup [.int 2,.lst [.tup [.str (Str.ofString "a"),.lst [.int 1,.int 0]]]],.tup [.int 2,.lst [.tup [.str (Str.ofString "a"),.lst [.int 0,.int 0]]]],.tup [.int 2,.lst [.tup [.str (Str.ofString "a"),.tup [.int 0]]]],.tup [.int 2,.lst [.tup [.str (Str.ofString "a"),.lst [.bl true]]]],.tup [.int 2,.lst [.tup [.str (Str.ofString "A"),.lst [.int 0]]]],.tup [.int 2,.lst [.tup [.str (Str.ofString "ab"),.lst [.int 0]]]],.tup [.int 2,.lst [.tup [.str (Str.ofString ""),.lst [.int 0]]]],.tup [.int 2,.lst [.tup [.str (Str.ofString "a"),.lst [.int (-1)]]]],.tup [.int 2,.lst [.tup [.str (Str.ofString "b"),.lst [.int 0]],.tup [.str (Str.ofString "a"),.lst [.int 1]]]],.tup [.int 2,.lst [.tup [.str (Str.ofString "a"),.lst [.int 0]],.tup [.str (Str.ofString "a"),.lst [.int 1]]]],.tup [.int 2,.lst [.tup [.str (Str.ofString "a"),.lst [.int 0]]],.int 0],.tup [.int 3,.lst [.tup [.str (Str.ofString "a"),.lst [.int 0]],.tup [.str (Str.ofString "b"),.lst [.int 0]],.tup [.str (Str.ofString "c"),.lst [.int 0]],.tup [.str (Str.ofString "d"),.lst [.int 0]],.tup [.str (Str.ofString "e"),.lst [.int 0]],.tup [.str (Str.ofString "f"),.lst [.int 0]],.tup [.str (Str.ofString "g"),.lst [.int 0]]]]]
theorem Qy:(OV.all fun d=>isF (BC [(.own,.fz d)])) = true:=by kernel_rfl
noncomputable abbrev NHo (d:D):Prop:=FV BC [(.own,.fz d)] fun a _=>a = .fz (.bl false)
theorem RV {d:D} (hd:d∈OV):NHo d:=PR (List.all_eq_true.mp Qy d hd)
theorem M3 {ds:List D} {i:Int} (h0:0≤i) (h1:i < ds.length):∃ d,d∈ds∧atI ds i = some d:=by
 have h2:i.toNat < ds.length:=by lia
 exact ⟨ds[i.toNat],List.getElem_mem _,BK (k:=i.toNat) (by lia) h2⟩
theorem Kd (ds:List D):Cb [.lst (ds.map A.fz)] = some (.fz (.int (ds.length:Int))):=by
 simp only [Cb,on1,CP,fzU,Option.bind_none,Option.map_none,Option.none_or,Bh,Ca,Option.map_some]
theorem RY (as:List A):Cr [some (.lent,.lst as),none] = (retS (opM ixA (m2L (Ae 1) (Al Aj (Ab (Ae 0) (Ab (opM Cb (Ab (Ae 1) Ah)) Ah)))))) [some (.lent,.lst as),some (.own,.lst (OV.map A.fz))]:=by
 kernel_rfl
theorem Mc {N:Nat} {as:List A} (hb:Bag N as) (hN:N≤1000000):∃ d as',NHo d∧Bag (N + 1) as'∧FV BY [(.lent,.lst as)] fun a os=>a = .fz d∧os = [.lst as']:=by
 obtain ⟨k,as',k0,k1,hb2,t⟩:=BR hb hN (OV.length:Int) (by decide) (by decide)
 obtain ⟨d,hd,e⟩:=M3 (ds:=OV) (i:=k) k0 k1
 refine ⟨d,as',RV hd,hb2,Gs rfl rfl ?_⟩
 show SV Cr [some (.lent,.lst as),none] _
 unfold SV
 rw [RY]
 clear hd k1
 generalize OV = T at t e ⊢
 show SV (retS (opM ixA (m2L (Ae 1) (Al Aj (Ab (Ae 0) (Ab (opM Cb (Ab (Ae 1) Ah)) Ah)))))) [some (.lent,.lst as),some (.own,.lst (T.map A.fz))] _
 walk_at "wp"
 refine ⟨_,Kd T,?_⟩
 walk_at "wp"
 refine CA t ?_
 walk_at "wp"
 refine ⟨_,ixL e,?_⟩
 walk_at "wp"
 rfl
noncomputable abbrev NR (h:Hs) (d:D):Prop:=FV Cz [(.own,.fz h.d),(.own,.fz d)] fun a _=>a = .fz (.bl false)
theorem F5 {h:Hs} (ok:h.Ok) {z:Str} (hl:z.length≤1000) (hz:∃ c∈z.cps.toList,c ∉ h.ls.map (·.1)):NR h (.str z):=CA (KD .own .own h ok z hl hz) rfl
theorem Fx {h:Hs} (ok:h.Ok) {d:D} (hd:isStr d = false):NR h d:=by
 have e:=ES .own h ok
 refine Gs rfl rfl ?_
 show SV Cs [some (.own,.fz h.d),some (.own,.fz d),none] _
 unfold Cs
 walk_at "wp"
 refine CA e ?_
 walk_at "wp"
 refine Lw (by rw [hd]; rfl) ?_
 walk_at "wp"
 rfl
noncomputable def WH:D→Option D
 | .tup [a,_]=>some a
 | _=>none
theorem TX (neg:Bool) (c:Nat) (cs:List Nat):inA neg [.fz (chD c),.lst ((cs.map chD).map A.fz)] = some (.fz (.bl (if neg then !decide (c∈cs) else decide (c∈cs)))):=by
 rw [← Lr]
 have e:=RI cs
 simp only [inA,on2,CP,Fj,fzU,chD,Bh,Ca,Option.bind_some,Option.bind_none,Option.map_none,Option.none_or] at e ⊢
 simp only [Cw,e,Bool.and_self,if_true]
noncomputable abbrev RX (a o:Nat):List D:=[.non,.int 0,.bl true,.lst [],.lst [chD a],.tup [chD a],chD o,.str ((⟨#[a]⟩:Str) ++ (⟨#[o]⟩:Str)),.str ((⟨#[o]⟩:Str) ++ (⟨#[a]⟩:Str)),.str ((⟨#[a]⟩:Str) ++ Str.ofString " "),.str (Str.ofString " "),.str (Str.ofString "A"),.str ((⟨#[a]⟩:Str) ++ Str.ofString "0")]
theorem Ph {N:Nat} {as:List A} (hb:Bag N as) (hN:N≤100000) {h:Hs} (ok:h.Ok):∃ d as',NR h d∧Bag (N + 2) as'∧FV Cn [(.lent,.lst as),(.own,.fz h.d)] fun a os=>a = .fz d∧os = [.lst as',.fz h.d]:=by
 obtain ⟨a,l1,hl⟩:∃ a l1,h.lets = a :: l1:=by
  have:=ok.l1
  cases e:h.ls with
  | nil=>rw [e] at this; simp at this
  | cons p l=>exact ⟨p.1,l.map (·.1),by simp [Hs.lets,e]⟩
 have hz:∀ x∈h.lets,97≤x∧x≤122:=fun x hx=>by
  obtain ⟨p,hp,rfl⟩:=List.mem_map.mp hx
  exact ok.ch p hp
 have ol:=Sa ok
 have ol2:=QG h
 obtain ⟨k,as1,k0,k1,hb1,t1⟩:=BR hb (by lia) (h.oths.length:Int) (by lia) (by lia)
 have k2:k.toNat < h.oths.length:=by lia
 have ho:h.oths[k.toNat] ∉ h.lets:=Sb (List.getElem_mem _)
 have xo:ixA [.lst ((h.oths.map chD).map A.fz),.fz (.int k)] = some (.fz (chD h.oths[k.toNat])):=ixL (by rw [BK (k:=k.toNat) (by lia) (by rw [List.length_map]; exact k2),List.getElem_map])
 generalize h.oths[k.toNat] = o at ho xo
 have x0:ixA [.lst ((h.lets.map chD).map A.fz),.fz (.int 0)] = some (.fz (chD a)):=ixL (by rw [hl]; exact at0 _ _)
 obtain ⟨i,as2,i0,i1,hb2,t2⟩:=BR hb1 (by lia) 13 (by decide) (by decide)
 have pick:∀ d∈RX a o,NR h d:=by
  have two:∀ (x y:Nat),((⟨#[x]⟩:Str) ++ (⟨#[y]⟩:Str)).cps.toList = [x,y]:=fun x y=>by rw [El]; rfl
  have sp:(Str.ofString " ").cps.toList = [32]:=by decide +kernel
  have ze:(Str.ofString "0").cps.toList = [48]:=by decide +kernel
  have cA:(Str.ofString "A").cps.toList = [65]:=by decide +kernel
  have ln:∀ s:Str,s.cps.toList.length≤1000→s.length≤1000:=fun s hs=>by rw [← Str.list_len]; exact hs
  have no:∀ x,x < 97→x ∉ h.ls.map (·.1):=fun x hx hm=>by have:=hz x hm; lia
  intro d hd
  simp only [RX,List.mem_cons,List.not_mem_nil,or_false] at hd
  rcases hd with rfl | rfl | rfl | rfl | rfl | rfl | rfl | rfl | rfl | rfl | rfl | rfl | rfl
  ·exact Fx ok rfl
  ·exact Fx ok rfl
  ·exact Fx ok rfl
  ·exact Fx ok rfl
  ·exact Fx ok rfl
  ·exact Fx ok rfl
  ·exact F5 ok (ln _ (by simp)) ⟨o,by simp,ho⟩
  ·exact F5 ok (ln _ (by rw [two]; simp)) ⟨o,by rw [two]; simp,ho⟩
  ·exact F5 ok (ln _ (by rw [two]; simp)) ⟨o,by rw [two]; simp,ho⟩
  ·exact F5 ok (ln _ (by rw [El,sp]; simp)) ⟨32,by rw [El,sp]; simp,no _ (by decide)⟩
  ·exact F5 ok (ln _ (by rw [sp]; simp)) ⟨32,by rw [sp]; simp,no _ (by decide)⟩
  ·exact F5 ok (ln _ (by rw [cA]; simp)) ⟨65,by rw [cA]; simp,no _ (by decide)⟩
  ·exact F5 ok (ln _ (by rw [El,ze]; simp)) ⟨48,by rw [El,ze]; simp,no _ (by decide)⟩
 obtain ⟨d,hd,e⟩:=M3 (ds:=RX a o) (i:=i) i0 i1
 refine ⟨d,as2,pick d hd,hb2.mono (by lia),Gs rfl rfl ?_⟩
 show SV CZ [some (.lent,.lst as),some (.own,.fz h.d),none,none,none,none,none] _
 unfold CZ
 have l2:=ok.l2
 clear pick hd hb hb1 hb2
 walk_at "wp"
 refine PL WH (h.lets.map chD) (T4 ?_)
 walk_at "wp"
 refine ⟨by rw [List.length_map]; lia,?_,?_,?_⟩
 ·rw [List.filterMap_map,Hs.lets,List.map_map,← List.filterMap_eq_map]; rfl
 ·intro d hd
  obtain ⟨p,hp,rfl⟩:=List.mem_map.mp hd
  refine ⟨[ld p],rfl,?_⟩
  walk_at "wp"
  rfl
 walk_at "wp"
 refine PL (fun d=>if inD d (h.lets.map chD) then none else some d) (h.oths.map chD) (T5 ?_)
 walk_at "wp"
 rw [Mt]
 refine ⟨by simp [OD],?_,?_,?_⟩
 ·rw [Hs.oths,List.filterMap_map]
  generalize OD = al
  induction al with
  | nil=>rfl
  | cons c al ih =>
   rw [List.filterMap_cons,List.filter_cons]
   by_cases hc:c∈h.ls.map (·.1)
   ·simp only [Function.comp,Lr,Hs.lets,decide_eq_true hc,if_true,Bool.not_true,Bool.false_eq_true,if_false]; exact ih
   ·simp only [Function.comp,Lr,Hs.lets,decide_eq_false hc,if_true,Bool.not_false,Bool.false_eq_true,if_false,List.map_cons]; rw [← ih]; rfl
 ·intro d hd
  obtain ⟨c,hc,rfl⟩:=List.mem_map.mp hd
  refine ⟨[chD c],rfl,?_⟩
  walk_at "wp"
  refine ⟨_,TX true c h.lets,?_⟩
  walk_at "wp"
  refine Qa (fun e=>?_) fun e=>?_
  ·walk_at "wp"
   rw [Lr,if_neg (by simpa using e)]
  ·rw [Lr,if_pos (by simpa using e)]
 refine ⟨_,_,rfl,rfl,Dd ?_⟩
 show SV _ [some (.lent,.lst as),some (.own,.fz h.d),some (.own,.lst ((h.lets.map chD).map A.fz)),some (.own,.lst ((h.oths.map chD).map A.fz)),none,none,none] _
 have ln:Cb [.lst ((h.oths.map chD).map A.fz)] = some (.fz (.int (h.oths.length:Int))):=by rw [Kd,List.length_map]
 walk_at "wp"
 refine ⟨_,ln,?_⟩
 walk_at "wp"
 refine CA t1 ?_
 walk_at "wp"
 refine ⟨_,xo,?_⟩
 walk_at "wp"
 refine ⟨_,x0,?_⟩
 walk_at "wp"
 refine Ra ⟨_,rfl⟩ ?_
 walk_at "wp"
 refine ⟨(show (12:Nat) < LIM by decide),?_⟩
 walk_at "wp"
 refine CA t2 ?_
 walk_at "wp"
 refine ⟨_,ixL (T:=RX a o) e,?_⟩
 walk_at "wp"
 rfl
local macro_rules | `(tactic| walk_at "wp1")=>`(tactic| first
 | (with_reducible refine KS ?_) | (with_reducible refine Dd ?_) | (with_reducible refine Ki ?_) | (with_reducible refine KL ?_) | (with_reducible refine KQ ?_) | (with_reducible refine KO ?_) | (with_reducible refine Oo ?_) | (with_reducible refine HJ ?_) | (with_reducible refine KW ?_) | (with_reducible refine KP ?_) | (with_reducible refine KN ?_) | (with_reducible refine Hz ?_) | (with_reducible refine Gq ?_)
 | (with_reducible refine NV ?_) | (with_reducible refine Hy ?_) | (with_reducible refine Gp ?_) | (with_reducible refine JV ?_) | (with_reducible refine JQ ?_) | (with_reducible refine NW ?_) | (with_reducible refine JY ?_) | (with_reducible refine JU ?_) | (with_reducible refine JX ?_) | (with_reducible refine JZ ?_)
 | (with_reducible refine Rz ?_) | (with_reducible refine Py ?_) | (with_reducible refine Fs ?_) | (with_reducible refine HM ?_)
 | (with_reducible refine K4 ?_) | (with_reducible refine K3 ?_) | (with_reducible refine K2 ?_) | (with_reducible refine Oz ?_) | (with_reducible refine K1 ?_)
 | (with_reducible refine Gh ?_) | (with_reducible refine HA ?_) | (with_reducible refine J5 ?_) | (with_reducible refine HH ?_)
 | ((with_reducible apply NX); · rfl)
 | ((with_reducible refine Exists.intro _ (And.intro (Fv ?_) ?_)); · rfl)
 | ((with_reducible apply ex1); · rfl) | ((with_reducible apply ex2); · rfl) | ((with_reducible apply ex3); · rfl) | ((with_reducible apply ex0); · rfl) | ((with_reducible refine And.intro ?_ ?_); · rfl) | ((with_reducible refine Lw ?_ ?_); · rfl) | ((with_reducible refine N1 ?_ ?_); · rfl))
local macro_rules | `(tactic| walk_at "wp")=>`(tactic| repeat walk_at "wp1")
theorem bind1 {ρ:Ro} {i:Nat} {d:D} (h:free ρ i = true):Eo [i] true d ρ = some (ρ.set i (J.own d)):=if_pos h
theorem Nv {N:Nat} {as:List A} (hb:Bag N as) (hN:N≤100000) {h:Hs} (ok:h.Ok) {z:Str} (hz:Row h z) (hl:z.length≤12):FV B9 [(.lent,.lst as),(.own,.fz (.str z)),(.own,.lst ((Fm (h.at z) z.length).map A.fz))] fun a os=>∃ d as' o1 o2,NP h z d∧Bag (N + 1) as'∧a = .fz d∧os = [.lst as',o1,o2]:=by
 refine Gs rfl rfl ?_
 show SV CI [some (.lent,.lst as),some (.own,.fz (.str z)),some (.own,.lst ((Fm (h.at z) z.length).map A.fz)),none,none] _
 unfold CI
 have hlim:100000≤LIM:=by decide
 walk_at "wp"
 show SV _ [some (.lent,.lst as),some (.own,.fz (.str z)),some (.own,.lst ((Fm (h.at z) z.length).map A.fz)),some (.own,.lst ((RZ z.length).map A.fz)),none] _
 refine NC (Qb ?_)
 walk_at "wp"
 refine ⟨⟨by lia,by lia⟩,fun j ρ=>∃ ds x4,(∀ d∈ds,NP h z d)∧0 < ds.length∧ds.length≤15 + j∧Fr x4 ∧ ρ = [some (.lent,.lst as),some (.own,.fz (.str z)),some (.own,.lst ((Fm (h.at z) z.length).map A.fz)),some (.own,.lst (ds.map A.fz)),x4],⟨RZ z.length,none,fun d hd=>Uu ok hz hl hd,(show 0 < 15 by decide),(show 15≤15 + 0 by decide),rfl,rfl⟩,fun j d ρ hd hI=>?_,fun ρ hI=>?_⟩
 ·obtain ⟨ds,x4,h1,h2,h3,h4,rfl⟩:=hI
  obtain ⟨rfl,hj⟩:=K7 hd
  have hj:j < z.length:=by simpa using hj
  refine ⟨_,bind1 h4,?_⟩
  walk_at "wp"
  refine ⟨_,ixL (Tr hj),?_⟩
  walk_at "wp"
  refine Qa (fun e=>?_) fun e=>?_
  ·have e2:1 < (mn (h.at z) j j).length:=by
    have e3:(1:Int) < ((mn (h.at z) j j).length:Int):=by simpa [Fu] using e
    lia
   refine Ra ⟨_,rfl⟩ ?_
   walk_at "wp"
   refine ⟨by rw [List.length_map]; lia,?_⟩
   refine Ow ⟨ds ++ [.lst [.int j]],some (.own,.fz (.int j)),?_,?_,?_,rfl,?_⟩
   ·intro d hd
    rcases List.mem_append.mp hd with hd | hd
    ·exact h1 d hd
    ·rw [List.mem_singleton] at hd
     subst hd
     exact Uv ok hz hl hj (Ut e2)
   ·rw [List.length_append]; lia
   ·rw [List.length_append,List.length_singleton]; lia
   ·rw [List.map_append]; rfl
  ·walk_at "wp"
   exact ⟨ds,some (.own,.fz (.int j)),h1,h2,by lia,rfl,rfl⟩
 ·obtain ⟨ds,x4,h1,h2,h3,h4,rfl⟩:=hI
  have hn:(DU 0 (z.length:Int).toNat).length = z.length:=by simp [DU]
  rw [hn] at h3
  obtain ⟨k,as',k0,k1,hb2,t⟩:=BR hb (by lia) (ds.length:Int) (by lia) (by lia)
  obtain ⟨d,hd,e⟩:=M3 (ds:=ds) (i:=k) k0 k1
  have np:=h1 d hd
  clear h1 hd h3 h2
  walk_at "wp"
  refine ⟨_,Kd ds,?_⟩
  walk_at "wp"
  refine CA t ?_
  walk_at "wp"
  refine ⟨_,ixL e,?_⟩
  walk_at "wp"
  exact ⟨d,as',_,_,np,hb2,rfl,rfl⟩
section
variable {h:Hs} {d r o:D} {x:Option Str} {y:Str}
theorem Kx (hd:NHo d):Bp [(.own,.fz d)] = some (Str.ofString "NoHouse"):=by
 refine BM rfl rfl ?_
 walk_at "wp"
 refine Co hd fun a _ e=>?_
 subst e
 walk_at "wp"
 rfl
theorem EU (ok:h.Ok):Bp [(.own,.fz h.d)] = none:=by
 refine BM rfl rfl ?_
 walk_at "wp"
 refine CA (Iz .own h ok) ?_
 walk_at "wp"
 rfl
theorem Iu (e:Bp [(.own,.fz d)] = x):DE [(.own,.fz d),(.own,.fz r)] = x:=by
 refine BM rfl rfl ?_
 walk_at "wp"
 exact e
noncomputable abbrev rr (d r:D):Option Str:=AS [(.own,.fz d),(.own,.fz r)]
theorem Nm (hd:NHo d):rr d r = some (Str.ofString "NoHouse"):=by
 refine BM rfl rfl (Pw ?_)
 walk_at "wp"
 exact Iu (Kx hd)
theorem LZ (ok:h.Ok) (hr:NR h r):rr h.d r = some (Str.ofString "NoRow"):=by
 refine BM rfl rfl (Mu ?_ ?_)
 ·walk_at "wp"
  exact Iu (EU ok)
 ·walk_at "wp"
  refine Co hr fun a _ e=>?_
  subst e
  walk_at "wp"
  rfl
theorem Je (ok:h.Ok) {z:Str} (hz:Row h z):rr h.d (.str z) = none:=by
 refine BM rfl rfl (Mu ?_ ?_)
 ·walk_at "wp"
  exact Iu (EU ok)
 ·walk_at "wp"
  refine CA (Mb .own .own h ok z hz) ?_
  walk_at "wp"
  rfl
theorem G8 (e:rr d r = x):B6 [(.own,.fz d),(.own,.fz r),(.own,.fz o)] = x:=by
 refine BM rfl rfl ?_
 walk_at "wp"
 exact e
theorem Ex (e:rr d r = x):A2 [(.own,.fz d),(.own,.fz r)] = x:=by
 refine BM rfl rfl ?_
 walk_at "wp"
 exact e
noncomputable abbrev rp (d r o:D):Option Str:=BF [(.own,.fz d),(.own,.fz r),(.own,.fz o)]
theorem Hk (e:rr d r = some y):rp d r o = some y:=by
 refine BM rfl rfl (Pw ?_)
 walk_at "wp"
 exact G8 e
theorem Ky (ok:h.Ok) {z:Str} (hz:Row h z) (ho:NP h z o):rp h.d (.str z) o = some (Str.ofString "NoPast"):=by
 refine BM rfl rfl (Mu ?_ ?_)
 ·walk_at "wp"
  exact G8 (Je ok hz)
 ·walk_at "wp"
  refine Co ho fun a _ e=>?_
  subst e
  walk_at "wp"
  rfl
theorem QZ (e:rp d r o = x):FA [(.own,.fz d),(.own,.fz r),(.own,.fz o)] = x:=by
 refine BM rfl rfl ?_
 walk_at "wp"
 exact e
theorem LY (e:rp d r o = x):DD [(.own,.fz d),(.own,.fz r),(.own,.fz o)] = x:=by
 refine BM rfl rfl ?_
 walk_at "wp"
 exact e
theorem V4 {w:Int} (h0:0≤w) (h1:w < 9):w = 0∨w = 1∨w = 2∨w = 3∨w = 4∨w = 5∨w = 6∨w = 7∨w = 8:=by lia
noncomputable abbrev aE (w:Int) (d r o:D):List (Own × A):=[(.own,.fz (.int w)),(.own,.fz d),(.own,.fz r),(.own,.fz o)]
theorem QY {w:Int} (h0:0≤w) (h1:w < 9) (e:rr d r = some y):BE (aE w d r o) = some y:=by
 refine BM rfl rfl ?_
 rcases V4 h0 h1 with rfl | rfl | rfl | rfl | rfl | rfl | rfl | rfl | rfl
 ·walk_at "wp"
  refine BM rfl rfl ?_
  walk_at "wp"
  exact e
 ·walk_at "wp"
  refine BM rfl rfl ?_
  walk_at "wp"
  exact e
 ·walk_at "wp"
  refine BM rfl rfl ?_
  walk_at "wp"
  exact e
 ·walk_at "wp"
  exact G8 e
 ·walk_at "wp"
  exact QZ (Hk e)
 ·walk_at "wp"
  exact LY (Hk e)
 ·walk_at "wp"
  exact Ex e
 ·walk_at "wp"
  refine BM rfl rfl ?_
  walk_at "wp"
  exact e
 ·walk_at "wp"
  refine BM rfl rfl ?_
  walk_at "wp"
  exact Ex e
theorem SA {w:Int} (hw:w = 4∨w = 5) (e:rp d r o = some y):BE (aE w d r o) = some y:=by
 refine BM rfl rfl ?_
 rcases hw with rfl | rfl
 ·walk_at "wp"
  exact QZ e
 ·walk_at "wp"
  exact LY e
theorem Hc {w:Int} (e:BE (aE w d r o) = some y):FV Bl (aE w d r o) fun a _=>a = .fz (.str y):=by
 refine PU rfl rfl rfl (.inl ⟨_,?_,rfl⟩)
 show Bn [some (.own,.fz (.int w)),some (.own,.fz d),some (.own,.fz r),some (.own,.fz o),none] = some y
 unfold Bn
 walk_at "wp"
 exact e
end
local macro_rules | `(tactic| walk_at "wp1")=>`(tactic| first
 | (with_reducible refine KS ?_) | (with_reducible refine Dd ?_) | (with_reducible refine Ki ?_) | (with_reducible refine KL ?_) | (with_reducible refine KQ ?_) | (with_reducible refine KO ?_) | (with_reducible refine Oo ?_) | (with_reducible refine HJ ?_) | (with_reducible refine KW ?_) | (with_reducible refine KP ?_) | (with_reducible refine KN ?_) | (with_reducible refine Hz ?_) | (with_reducible refine Gq ?_)
 | (with_reducible refine NV ?_) | (with_reducible refine Hy ?_) | (with_reducible refine Gp ?_) | (with_reducible refine JV ?_) | (with_reducible refine JQ ?_) | (with_reducible refine NW ?_) | (with_reducible refine JY ?_) | (with_reducible refine JU ?_) | (with_reducible refine JX ?_) | (with_reducible refine JZ ?_)
 | (with_reducible refine Rz ?_) | (with_reducible refine Py ?_) | (with_reducible refine Fs ?_) | (with_reducible refine HM ?_)
 | (with_reducible refine K4 ?_) | (with_reducible refine K3 ?_) | (with_reducible refine K2 ?_) | (with_reducible refine Oz ?_) | (with_reducible refine K1 ?_)
 | (with_reducible refine Gh ?_) | (with_reducible refine HA ?_) | (with_reducible refine J5 ?_) | (with_reducible refine HH ?_)
 | ((with_reducible apply NX); · rfl)
 | ((with_reducible refine Exists.intro _ (And.intro (Fv ?_) ?_)); · rfl)
 | ((with_reducible apply ex1); · rfl) | ((with_reducible apply ex2); · rfl) | ((with_reducible apply ex3); · rfl) | ((with_reducible apply ex0); · rfl) | ((with_reducible refine And.intro ?_ ?_); · rfl) | ((with_reducible refine Lw ?_ ?_); · rfl) | ((with_reducible refine N1 ?_ ?_); · rfl))
local macro_rules | `(tactic| walk_at "wp")=>`(tactic| repeat walk_at "wp1")
noncomputable abbrev oF2 (d:D):Slot:=some (.own,.fz d)
theorem Mg {z:Str} (h:z.length≤12):Txt.slice z none (some 12) = z:=by
 have e:(Builtin.Str.strSliceIndices none (some 12) 1 z.length).length = z.length:=by
  unfold Builtin.Str.strSliceIndices sliceRange
  simp only [show (1:Int) > 0 by decide,if_true,List.length_map,List.length_range]
  split <;> (try split) <;> (try split) <;> (try simp only [Int.ediv_one]) <;> omega
 unfold Txt.slice
 rw [if_pos (by rw [e]; simp)]
theorem SF {h:Hs} {z:Str} (hz:Row h z):Row h (Txt.slice z none (some 12))∧(Txt.slice z none (some 12)).length≤12:=by
 by_cases hl:z.length≤12
 ·rw [Mg hl]; exact ⟨hz,hl⟩
 ·have:=eq_of_beq (PyProof.Rows.slice_closes_toL (x:=z) (j:=12) (by decide) (by lia))
  rw [this]
  refine ⟨⟨?_,fun c hc=>hz.2 c ?_⟩,?_⟩
  ·show (List.take _ _).toArray.size≤1000
   rw [List.size_toArray,List.length_take]
   exact Nat.le_trans (Nat.min_le_left _ _) (by decide)
  ·exact List.mem_of_mem_drop (List.mem_of_mem_take hc)
  ·show (List.take _ _).toArray.size≤12
   rw [List.size_toArray,List.length_take]
   exact Nat.min_le_left _ _
theorem WQ {i j k:Nat} {a b c:A} {ρ:Ro} (h:free ρ i = true) (h2:free (ρ.set i (some (.own,a))) j = true) (h3:free ((ρ.set i (some (.own,a))).set j (some (.own,b))) k = true):BS [i,j,k] [a,b,c] ρ = some (((ρ.set i (some (.own,a))).set j (some (.own,b))).set k (some (.own,c))):=by
 simp only [BS,h,h2,h3,if_true]
theorem Rk {d r:D} {k:Int} (h0:0≤k) (h1:k < 2):∃ c,atI [d,r] k = some c:=by
 have:k = 0∨k = 1:=by lia
 rcases this with rfl | rfl
 ·exact ⟨d,at0 _ _⟩
 ·exact ⟨r,at1 _ _ _⟩
noncomputable abbrev eL (ns:List Int) (x1 x2 x3 x4 x5 x6 x7:Slot):Ro:=[some (.ro,.scr ns),x1,x2,x3,x4,x5,x6,x7]
theorem Qt (ns:List Int) (hl:ns.length≤63):∃ as',GQ [(.ro,.scr ns)] = some (.fz (.bl true),as'):=by
 suffices hh:FV GQ [(.ro,.scr ns)] fun a _=>a = .fz (.bl true) by
  obtain ⟨a,os,e,rfl⟩:=hh
  exact ⟨os,e⟩
 refine Gs rfl rfl ?_
 show SV JO [some (.ro,.scr ns),none,none,none,none,none,none,none] _
 unfold JO
 walk_at "wp"
 refine NC (Qb ?_)
 walk_at "wp"
 refine ⟨⟨by split <;> split <;> lia,by split <;> split <;> lia⟩,fun _ ρ=>∃ y1 y2 y3 y4 y5 y6 y7,Fr y1∧Fr y2∧Fr y3∧Fr y4∧Fr y5∧Fr y6∧Fr y7 ∧ ρ = eL ns y1 y2 y3 y4 y5 y6 y7,⟨none,none,none,none,none,none,none,rfl,rfl,rfl,rfl,rfl,rfl,rfl,rfl⟩,fun j d ρ hd hI=>?_,fun ρ hI=>?_⟩
 ·obtain ⟨y1,y2,y3,y4,y5,y6,y7,g1,g2,g3,g4,g5,g6,g7,rfl⟩:=hI
  obtain ⟨rfl,hj⟩:=K7 hd
  clear hj hd
  obtain ⟨c,c2,t1⟩:=Vf ns j
  obtain ⟨h,z0,as,a1,a2,ok,hz0,_,hb,t2⟩:=SJ .own .own (c + (j:Int))
  obtain ⟨hz,hzl⟩:=SF hz0
  obtain ⟨w,as1,w0,w1,hb1,t3⟩:=BR hb (by lia) 9 (by decide) (by decide)
  refine ⟨_,bind1 g1,?_⟩
  walk_at "wp"
  refine CA t1 ?_
  walk_at "wp"
  refine CA t2 ?_
  walk_at "wp"
  refine ⟨_,WQ g2 g3 g4,Dd ?_⟩
  walk_at "wp"
  refine CA t3 ?_
  generalize Txt.slice z0 none (some 12) = z at hz hzl ⊢
  obtain ⟨b1,b2,t4⟩:=SH .own .own h ok z hz (by lia)
  refine ⟨_,_,rfl,g5,Dd ?_⟩
  walk_at "wp"
  refine CA t4 ?_
  walk_at "wp"
  refine Co (Nv hb1 (by lia) ok hz hzl) fun a os e=>?_
  obtain ⟨dO,as2,o1,o2,np,hb2,rfl,rfl⟩:=e
  refine ⟨_,_,rfl,g6,Dd ?_⟩
  show SV _ (eL ns (oF2 (.int j)) (some (.own,.lst as2)) (oF2 h.d) (oF2 (.str z)) (oF2 (.int w)) (oF2 dO) y7) _
  clear t1 t2 t3 t4
  walk_at "wp"
  obtain ⟨dR,as3,nr,hb3,t5⟩:=Ph hb2 (by lia) ok
  refine Co t5 fun a os e=>?_
  obtain ⟨rfl,rfl⟩:=e
  refine ⟨_,_,rfl,g7,Dd ?_⟩
  show SV _ (eL ns (oF2 (.int j)) (some (.own,.lst as3)) (oF2 h.d) (oF2 (.str z)) (oF2 (.int w)) (oF2 dO) (oF2 dR)) _
  walk_at "wp"
  obtain ⟨dH,as4,nh,hb4,t6⟩:=Mc hb3 (by lia)
  obtain ⟨k1,as5,k10,k11,hb5,t7⟩:=BR hb4 (by lia) 2 (by decide) (by decide)
  obtain ⟨dX,xX⟩:=Rk (d:=dR) (r:=.str z) k10 k11
  obtain ⟨k2,as6,k20,k21,hb6,t8⟩:=BR hb5 (by lia) 2 (by decide) (by decide)
  obtain ⟨dY,xY⟩:=Rk (d:=dO) (r:=.lst []) k20 k21
  obtain ⟨k3,as7,k30,k31,hb7,t9⟩:=BR hb6 (by lia) 2 (by decide) (by decide)
  have hw3:4 + k3 = 4∨4 + k3 = 5:=by lia
  have f1:=Hc (o:=dO) (QY (o:=dO) w0 w1 (Nm (r:=dX) nh))
  have f2:=Hc (o:=dY) (QY (o:=dY) w0 w1 (LZ ok nr))
  have f3:=Hc (SA hw3 (Ky ok hz np))
  clear hb hb1 hb2 hb3 hb4 hb5 hb6 hb7 nh nr hw3
  refine Co t6 fun a os e=>?_
  obtain ⟨rfl,rfl⟩:=e
  walk_at "wp"
  refine CA t7 ?_
  walk_at "wp"
  refine ⟨_,ixL (T:=[dR,.str z]) xX,?_⟩
  walk_at "wp"
  refine Co f1 fun a _ e=>?_
  subst e
  walk_at "wp"
  refine CA t8 ?_
  walk_at "wp"
  refine ⟨_,ixL (T:=[dO,.lst []]) xY,?_⟩
  walk_at "wp"
  refine Co f2 fun a _ e=>?_
  subst e
  walk_at "wp"
  refine Co np fun a _ e=>?_
  subst e
  walk_at "wp"
  refine CA t9 ?_
  walk_at "wp"
  refine Co f3 fun a _ e=>?_
  subst e
  walk_at "wp"
  exact ⟨oF2 (.int j),some (.own,.lst as7),oF2 h.d,oF2 (.str z),oF2 (.int w),oF2 dO,oF2 dR,rfl,rfl,rfl,rfl,rfl,rfl,rfl,rfl⟩
 obtain ⟨y1,y2,y3,y4,y5,y6,y7,g1,g2,g3,g4,g5,g6,g7,rfl⟩:=hI
 walk_at "wp"
 rfl
end Gk26
end
section
namespace Gk26
open PySem PySem.Spec PyProof.Rows L2 J
noncomputable def Fe (K:Frag) (n:Str) (st:Stmt):Prop:=∃ (f:Addr) (fd:FuncData),PySem.W.nsIn K mainGlobals n = some (some (.ref f))∧Fun K n n st f fd
theorem VT {K:Frag} {n:Str} {st:Stmt} {f:Addr} {oc:Value} {od an:Option Addr} {sl:Array (Option Value)} {kV dc pm cd ct:Value} (a:PySem.W.nsIn K mainGlobals n = some (some (.ref f))) (l:K.lookup f = some ⟨oc,od,.func (PySem.W.fnOf n n (DY st) (BL st) (Ao st) .none kV dc pm an cd ct),sl⟩) (c:PySem.W.codeIn K cd n = true) (k:PySem.W.keepIn K (.ref f) = true):Fe K n st:=⟨f,_,a,TN l c k⟩
theorem df {CX:CXT} (P:Program) (w:World) {K:Frag} {h:Heap} {mg:Str→Option Value} {N:Nat} {n:Str} {st:Stmt} {ps:List Str} {sp:Sp} (X:K.In h) (G:h.Ns mainGlobals mg) (e:Fe K n st) (ok:∀ {f fd},Fun K n n st f fd→∀ base,FnOk P w K mg base CX N f fd ps sp)
  (hb:∀ (kV doc pm:Value) (an:Option Addr) (cdv ct:Value) (us:List Value),us.length = ps.length→bindArgs (PySem.W.fnOf n n (DY st) (BL st) (Ao st) .none kV doc pm an cdv ct) ⟨us,[]⟩ = pure (ps.zip us)):∀ base,Def P w K mg base CX N n ps sp:=by
 obtain ⟨f,fd,a,F⟩:=e
 exact fun base=>⟨f,fd,PySem.W.mg_of X G a,F.kp,F.binds hb,ok F base⟩
theorem dfL (P:Program) (w:World) {K:Frag} {h:Heap} {mg:Str→Option Value} {N:Nat} {st:Stmt} {ps:List Str} {sp:Sp} (X:K.In h) (G:h.Ns mainGlobals mg) (e:Fe K Bi st) (ok:∀ {f fd},PySem.W.nsIn K mainGlobals Bi = some (some (.ref f))→Fun K Bi Bi st f fd→∀ base,FnOk P w K mg base CX0 N f fd ps sp)
  (hb:∀ (kV doc pm:Value) (an:Option Addr) (cdv ct:Value) (us:List Value),us.length = ps.length→bindArgs (PySem.W.fnOf Bi Bi (DY st) (BL st) (Ao st) .none kV doc pm an cdv ct) ⟨us,[]⟩ = pure (ps.zip us)):∀ base,Def P w K mg base CX0 N Bi ps sp:=by
 obtain ⟨f,fd,a,F⟩:=e
 exact fun base=>⟨f,fd,PySem.W.mg_of X G a,F.kp,F.binds hb,ok a F base⟩
theorem ar1 {α:Type} {P:List α → Prop} (h:∀ a,P [a]) (us:List α) (e:us.length = 1):P us:=by
 obtain ⟨a,rfl⟩:=Up e
 exact h a
theorem ar2 {α:Type} {P:List α → Prop} (h:∀ a b,P [a,b]) (us:List α) (e:us.length = 2):P us:=by
 obtain ⟨a,b,rfl⟩:=V3 e
 exact h a b
theorem ar3 {α:Type} {P:List α → Prop} (h:∀ a b c,P [a,b,c]) (us:List α) (e:us.length = 3):P us:=by
 cases us with
 | nil=>cases e
 | cons a t=>exact ar2 (P:=fun t=>P (a :: t)) (h a) t (Nat.succ.inj e)
theorem ar4 {α:Type} {P:List α → Prop} (h:∀ a b c d,P [a,b,c,d]) (us:List α) (e:us.length = 4):P us:=by
 cases us with
 | nil=>cases e
 | cons a t=>exact ar3 (P:=fun t=>P (a :: t)) (h a) t (Nat.succ.inj e)
noncomputable def xok (K:Frag) (C HE:Addr) (wd:Str):Bool:=
 PySem.W.nsIn K mainGlobals wd == some (some (.ref C)) && PySem.W.excIn K C Rn "ValueError.__new__" && PySem.W.nsIn K mainGlobals "HandError" == some (some (.ref HE)) && PySem.W.excIn K HE Rn "ValueError.__new__" && PySem.W.mroIn K C (.ref HE) == some true && !(C == HE)
 && PySem.W.findIn K (.ref C) "__getattribute__" == some (some (.builtin "BaseException.__getattribute__")) && PySem.W.findIn K (.ref C) "__getattr__" == some none && PySem.W.findIn K (.ref C) "__class__" == some (some (.builtin "object.__class__")) && PySem.W.mroIn K C (.type "object") == some true && PySem.W.mroIn K C (.type "BaseException") == some true
 && (PySem.W.clsIn K C).isSome && (K9.all fun y=>match PySem.W.nsIn K mainGlobals y with | some (some (.ref a))=>PySem.W.kitOne K (.ref C) (.ref a) == some (y == wd) | _=>false) && PySem.W.nsIn K mainGlobals "ValueError" == some none && PySem.W.kitOne K (.ref C) (.type "ValueError") == some true
theorem NQ {K:Frag} {h:Heap} {mg:Str→Option Value} {C HE:Addr} {wd:Str} (X:K.In h) (G:h.Ns mainGlobals mg) (e:xok K C HE wd = true):Exc K mg wd C∧mg "HandError" = some (.ref HE)∧(∀ base,K.In base→Above base C HE)∧XW K mg C wd:=by
 simp only [xok,Bool.and_eq_true,beq_iff_eq,Bool.not_eq_true',List.all_eq_true] at e
 obtain ⟨⟨⟨⟨⟨⟨⟨⟨⟨⟨⟨⟨⟨⟨e1,e2⟩,e3⟩,e4⟩,e5⟩,e6⟩,e7⟩,e8⟩,e9⟩,e10⟩,e11⟩,e12⟩,e13⟩,e14⟩,e15⟩:=e
 refine ⟨⟨PySem.W.mg_of X G e1,e2⟩,PySem.W.mg_of X G e3,fun base hK=>Pt hK e2 e4 e5 (by simpa using e6),⟨e7,e8,e9,e10,e11⟩,e12,fun y hy=>?_,PySem.W.mg_none_of X G e14,e15⟩
 have q:=e13 y hy
 split at q
 ·rename_i a ha
  exact ⟨a,PySem.W.mg_of X G ha,by simpa using q⟩
 ·cases q
theorem Jc:Ds ["NoHouse","NoRow","NoPast"] Bp:=by
 refine BZ ?_
 repeat' (first | refine Bt ?_ ?_ | refine BQ ?_ | refine Bu ?_ ?_ | refine Bv ?_ | exact A7 (by decide))
theorem OZ:Ds ["NoHouse","NoRow","NoPast"] DE:=by
 refine BZ ?_
 repeat' (first | refine Bt ?_ ?_ | refine BQ ?_ | refine Bu ?_ ?_ | refine Bv ?_ | exact A7 (by decide) | exact AN Jc)
theorem CC:Ds ["NoHouse","NoRow","NoPast"] AS:=by
 refine BZ ?_
 repeat' (first | refine Bt ?_ ?_ | refine BQ ?_ | refine Bu ?_ ?_ | refine Bv ?_ | exact A7 (by decide) | exact AN OZ)
theorem LS:Ds ["NoHouse","NoRow","NoPast"] Di:=by
 refine BZ ?_
 repeat' (first | refine Bt ?_ ?_ | refine BQ ?_ | refine Bu ?_ ?_ | refine Bv ?_ | exact A7 (by decide) | exact AN CC)
theorem Nc:Ds ["NoHouse","NoRow","NoPast"] DT:=by
 refine BZ ?_
 repeat' (first | refine Bt ?_ ?_ | refine BQ ?_ | refine Bu ?_ ?_ | refine Bv ?_ | exact A7 (by decide) | exact AN CC)
theorem R5:Ds ["NoHouse","NoRow","NoPast"] GJ:=by
 refine BZ ?_
 repeat' (first | refine Bt ?_ ?_ | refine BQ ?_ | refine Bu ?_ ?_ | refine Bv ?_ | exact A7 (by decide) | exact AN CC)
theorem Ii:Ds ["NoHouse","NoRow","NoPast"] B6:=by
 refine BZ ?_
 repeat' (first | refine Bt ?_ ?_ | refine BQ ?_ | refine Bu ?_ ?_ | refine Bv ?_ | exact A7 (by decide) | exact AN CC)
theorem GC:Ds ["NoHouse","NoRow","NoPast"] BF:=by
 refine BZ ?_
 repeat' (first | refine Bt ?_ ?_ | refine BQ ?_ | refine Bu ?_ ?_ | refine Bv ?_ | exact A7 (by decide) | exact AN Ii)
theorem R6:Ds ["NoHouse","NoRow","NoPast"] FA:=by
 refine BZ ?_
 repeat' (first | refine Bt ?_ ?_ | refine BQ ?_ | refine Bu ?_ ?_ | refine Bv ?_ | exact A7 (by decide) | exact AN GC)
theorem OY:Ds ["NoHouse","NoRow","NoPast"] DD:=by
 refine BZ ?_
 repeat' (first | refine Bt ?_ ?_ | refine BQ ?_ | refine Bu ?_ ?_ | refine Bv ?_ | exact A7 (by decide) | exact AN GC)
theorem D7:Ds ["NoHouse","NoRow","NoPast"] A2:=by
 refine BZ ?_
 repeat' (first | refine Bt ?_ ?_ | refine BQ ?_ | refine Bu ?_ ?_ | refine Bv ?_ | exact A7 (by decide) | exact AN CC)
theorem G2:Ds ["NoHouse","NoRow","NoPast"] BI:=by
 refine BZ ?_
 repeat' (first | refine Bt ?_ ?_ | refine BQ ?_ | refine Bu ?_ ?_ | refine Bv ?_ | exact A7 (by decide) | exact AN CC)
theorem O0:Ds ["NoHouse","NoRow","NoPast"] Ey:=by
 refine BZ ?_
 repeat' (first | refine Bt ?_ ?_ | refine BQ ?_ | refine Bu ?_ ?_ | refine Bv ?_ | exact A7 (by decide) | exact AN D7)
theorem Ks:Ds ["NoHouse","NoRow","NoPast"] BE:=by
 refine BZ ?_
 repeat' (first | refine Bt ?_ ?_ | refine BQ ?_ | refine Bu ?_ ?_ | refine Bv ?_ | exact A7 (by decide) | exact AN LS | exact AN Nc | exact AN R5 | exact AN Ii | exact AN R6 | exact AN OY | exact AN D7 | exact AN G2 | exact AN O0)
theorem Ht:DW ["NoHouse","NoRow","NoPast"] Bn:=by
 unfold Bn
 repeat' (first | refine Bt ?_ ?_ | refine BQ ?_ | refine Bu ?_ ?_ | refine Bv ?_ | exact AN Ks)
theorem all_mk {l:PySem.W.OpenLaw} {w:World} {K:Frag} {h:Heap} {mg:Str→Option Value} {fa:Addr} (X:K.In h) (G:h.Ns mainGlobals mg) (hfa:mg "law" = some (.ref fa))
  (e0:Fe K "is_pair" (top 3))
  (e1:Fe K "is_whole" (top 1))
  (e2:Fe K "is_count_of_hands" (top 29))
  (e3:Fe K "is_number_below" (top 2))
  (e4:Fe K "are_numbers_below" (top 5))
  (e5:Fe K "is_list_of_numbers_below" (top 4))
  (e6:Fe K "is_rising_list_below" (top 6))
  (e7:Fe K "is_small_letter" (top 32))
  (e8:Fe K "is_entry" (top 31))
  (e9:Fe K "are_entries" (top 30))
  (e10:Fe K "is_house" (top 28))
  (e11:Fe K "need_house" (top 33))
  (e12:Fe K "letters_of" (top 34))
  (e13:Fe K "is_row" (top 37))
  (e14:Fe K "need_row" (top 38))
  (e15:Fe K "hands_of" (top 35))
  (e16:Fe K "is_hand_in_both" (top 36))
  (e17:Fe K "are_closed" (top 46))
  (e18:Fe K "is_past" (top 45))
  (e19:Fe K "_law_bag" (top 65))
  (e20:Fe K "_law_take" (top 66))
  (e21:Fe K "_law_house" (top 67))
  (e22:Fe K "_law_row" (top 68))
  (e23:Fe K "_law_drawn" (top 69))
  (e24:Fe K "_law_odd_past" (top 71))
  (e25:Fe K "_law_odd_row" (top 74))
  (e26:Fe K "_law_hang" (top 72))
  (e27:Fe K "_law_below" (top 73))
  (e28:Fe K "_law_refused" (top 77))
  (e29:Fe K "_law_cell" (top 70))
  (e30:Fe K "_law_odd_house" (top 75))
  (e31:Fe K "law" (top 78))
  (e_is_below:Fe K "is_below" (top 40))
  (e_past_of:Fe K "past_of" (top 41))
  (e_past:Fe K "past" (top 43))
  (e_need_past:Fe K "need_past" (top 47))
  (e_tops:Fe K "tops" (top 48))
  (e_cut_by:Fe K "cut_by" (top 49))
  (e_orders_counted:Fe K "orders_counted" (top 55))
  (e_pasts_counted:Fe K "pasts_counted" (top 56))
  (e_orders:Fe K "orders" (top 61))
  (e__law_call:Fe K "_law_call" (top 76))
  (e__law_word:Fe K "_law_word" (top 64))
  {t_FEWEST_HANDS:Tok} (i_FEWEST_HANDS:PySem.W.nsIn K mainGlobals "FEWEST_HANDS" = some (some (.int 2 t_FEWEST_HANDS)))
  {t_MOST_HANDS:Tok} (i_MOST_HANDS:PySem.W.nsIn K mainGlobals "MOST_HANDS" = some (some (.int 4 t_MOST_HANDS)))
  {t_MOST_LETTERS:Tok} (i_MOST_LETTERS:PySem.W.nsIn K mainGlobals "MOST_LETTERS" = some (some (.int 6 t_MOST_LETTERS)))
  (z_isinstance:PySem.W.nsIn K mainGlobals "isinstance" = some none)
  (z_len:PySem.W.nsIn K mainGlobals "len" = some none)
  (z_all:PySem.W.nsIn K mainGlobals "all" = some none)
  (z_any:PySem.W.nsIn K mainGlobals "any" = some none)
  (z_range:PySem.W.nsIn K mainGlobals "range" = some none)
  (z_list:PySem.W.nsIn K mainGlobals "list" = some none)
  (z_int:PySem.W.nsIn K mainGlobals "int" = some none)
  (z_bool:PySem.W.nsIn K mainGlobals "bool" = some none)
  (z_tuple:PySem.W.nsIn K mainGlobals "tuple" = some none)
  (z_str:PySem.W.nsIn K mainGlobals "str" = some none)
  (z_abs:PySem.W.nsIn K mainGlobals "abs" = some none)
  (z_max:PySem.W.nsIn K mainGlobals "max" = some none)
  (z_min:PySem.W.nsIn K mainGlobals "min" = some none)
  (z_dict:PySem.W.nsIn K mainGlobals "dict" = some none)
  (z_sorted:PySem.W.nsIn K mainGlobals "sorted" = some none)
  (z_set:PySem.W.nsIn K mainGlobals "set" = some none)
  (z_enumerate:PySem.W.nsIn K mainGlobals "enumerate" = some none)
  (z_zip:PySem.W.nsIn K mainGlobals "zip" = some none)
  {c b:Addr} (ht:PySem.W.tabIn K Bi = some (c,b)) (hh:PySem.W.codeHdIn K c b = true)
  {HE:Addr} {C_NoHouse:Addr} (hx_NoHouse:xok K C_NoHouse HE "NoHouse" = true) {C_NoRow:Addr} (hx_NoRow:xok K C_NoRow HE "NoRow" = true) {C_NoPast:Addr} (hx_NoPast:xok K C_NoPast HE "NoPast" = true)
  : ∃ fd:FuncData,(∀ (s:Shared) (v:Value),BindsTo s fd ⟨[v],[]⟩ [("_law_script",v)])∧∀ base:Heap,K.In base→base.Ns mainGlobals mg→FnOk l.prog w K mg base CX0 17 fa fd ["_law_script"] (spJ K GQ 1):=by
 have z {n:Str} (e:PySem.W.nsIn K mainGlobals n = some none):=PySem.W.mg_none_of X G e
 have B:Blt mg K:=⟨z z_isinstance,z z_len,z z_all,z z_any,z z_range,z z_list,z z_int,z z_bool,z z_tuple,z z_str,z z_abs,z z_max,z z_min,z z_dict⟩
 have B2:Blt2 mg:=⟨z z_sorted,z z_set,z z_enumerate,z z_zip⟩
 have DO:GInt mg "FEWEST_HANDS" 2:=⟨⟨_,PySem.W.mg_of X G i_FEWEST_HANDS⟩⟩
 have EJ:GInt mg "MOST_HANDS" 4:=⟨⟨_,PySem.W.mg_of X G i_MOST_HANDS⟩⟩
 have DP:GInt mg "MOST_LETTERS" 6:=⟨⟨_,PySem.W.mg_of X G i_MOST_LETTERS⟩⟩
 have DA:=df l.prog w X G e0 (fun F s=>M9 F B B2) fun _ _ _ _ _ _=>ar1 fun _=>rfl
 have CW:=df l.prog w X G e1 (fun F s=>LQ F B B2) fun _ _ _ _ _ _=>ar1 fun _=>rfl
 have Ce:=df l.prog w X G e2 (fun F s=>Ff F B B2 (CW s) DO EJ) fun _ _ _ _ _ _=>ar1 fun _=>rfl
 have CF:=df l.prog w X G e3 (fun F s=>F8 F B B2 (CW s)) fun _ _ _ _ _ _=>ar2 fun _ _=>rfl
 have Cd:=df l.prog w X G e4 (fun F s=>Fd F B B2 (CF s)) fun _ _ _ _ _ _=>ar2 fun _ _=>rfl
 have Bq:=df l.prog w X G e5 (fun F s=>Dz F B B2 (Cd s)) fun _ _ _ _ _ _=>ar2 fun _ _=>rfl
 have AZ:=df l.prog w X G e6 (fun F s=>Ew F B B2 (Bq s)) fun _ _ _ _ _ _=>ar2 fun _ _=>rfl
 have CG:=df l.prog w X G e7 (fun F s=>F9 F B B2) fun _ _ _ _ _ _=>ar1 fun _=>rfl
 have FO:=df l.prog w X G e8 (fun F s=>LO F B B2 (AZ s) (DA s) (CG s)) fun _ _ _ _ _ _=>ar2 fun _ _=>rfl
 have Ea:=df l.prog w X G e9 (fun F s=>Ic F B B2 (FO s) DP) fun _ _ _ _ _ _=>ar2 fun _ _=>rfl
 have CV:=df l.prog w X G e10 (fun F s=>LP F B B2 (DA s) (Ce s) (Ea s)) fun _ _ _ _ _ _=>ar1 fun _=>rfl
 have EG:=df l.prog w X G e11 (fun F s=>Jb F B B2 (CV s)) fun _ _ _ _ _ _=>ar1 fun _=>rfl
 have B8:=df l.prog w X G e12 (fun F s=>Ja F B B2) fun _ _ _ _ _ _=>ar1 fun _=>rfl
 have Ej:=df l.prog w X G e13 (fun F s=>OX F B B2 (EG s) (B8 s)) fun _ _ _ _ _ _=>ar2 fun _ _=>rfl
 have FP:=df l.prog w X G e14 (fun F s=>LR F B B2 (Ej s)) fun _ _ _ _ _ _=>ar2 fun _ _=>rfl
 have FN:=df l.prog w X G e15 (fun F s=>LL F B B2 (B8 s)) fun _ _ _ _ _ _=>ar2 fun _ _=>rfl
 have CD:=df l.prog w X G e16 (fun F s=>F7 F B B2) fun _ _ _ _ _ _=>ar2 fun _ _=>rfl
 have EF:=df l.prog w X G e17 (fun F s=>IZ F B B2 (FN s) (CD s)) fun _ _ _ _ _ _=>ar3 fun _ _ _=>rfl
 have DB:=df l.prog w X G e18 (fun F s=>Na F B B2 (FP s) (AZ s) (EF s)) fun _ _ _ _ _ _=>ar3 fun _ _ _=>rfl
 have FK:=df l.prog w X G e19 (fun F s=>LJ F B B2) fun _ _ _ _ _ _=>ar1 fun _=>rfl
 have Aq:=df l.prog w X G e20 (fun F s=>Ko F B B2) fun _ _ _ _ _ _=>ar2 fun _ _=>rfl
 have EE:=df l.prog w X G e21 (fun F s=>IY F B B2 (Aq s)) fun _ _ _ _ _ _=>ar1 fun _=>rfl
 have FL:=df l.prog w X G e22 (fun F s=>LK F B B2 (Aq s)) fun _ _ _ _ _ _=>ar3 fun _ _ _=>rfl
 have ED:=df l.prog w X G e23 (fun F s=>IX F B B2 (FK s) (EE s) (FL s)) fun _ _ _ _ _ _=>ar2 fun _ _=>rfl
 have Dj:=df l.prog w X G e24 (fun F s=>G0 F B B2 (Aq s)) fun _ _ _ _ _ _=>ar3 fun _ _ _=>rfl
 have DG:=df l.prog w X G e25 (fun F s=>Hq F B B2 (Aq s)) fun _ _ _ _ _ _=>ar2 fun _ _=>rfl
 have EY:=df l.prog w X G e26 (fun F s=>Kn F B B2) fun _ _ _ _ _ _=>ar3 fun _ _ _=>rfl
 have EC:=df l.prog w X G e27 (fun F s=>IW F B B2 (EY s)) fun _ _ _ _ _ _=>ar2 fun _ _=>rfl
 obtain ⟨X_NoHouse,hHE,hab_NoHouse,W_NoHouse⟩:=NQ X G hx_NoHouse
 obtain ⟨X_NoRow,hHE,hab_NoRow,W_NoRow⟩:=NQ X G hx_NoRow
 obtain ⟨X_NoPast,hHE,hab_NoPast,W_NoPast⟩:=NQ X G hx_NoPast
 obtain ⟨fw,fdw,aw,Fw⟩:=e__law_word
 have DR_need_house:=df (sp:=spR K (fun (y:Str)=>if y = "NoHouse" then C_NoHouse else if y = "NoRow" then C_NoRow else C_NoPast) Bp 1) l.prog w X G e11 (fun F s=>Ia F B B2 (CV s) X_NoHouse) (fun _ _ _ _ _ _=>ar1 fun _=>rfl)
 have DR_is_row:=df (sp:=spR K (fun (y:Str)=>if y = "NoHouse" then C_NoHouse else if y = "NoRow" then C_NoRow else C_NoPast) DE 2) l.prog w X G e13 (fun F s=>M6 F B B2 (DR_need_house s)) (fun _ _ _ _ _ _=>ar2 fun _ _=>rfl)
 have DR_need_row:=df (sp:=spR K (fun (y:Str)=>if y = "NoHouse" then C_NoHouse else if y = "NoRow" then C_NoRow else C_NoPast) AS 2) l.prog w X G e14 (fun F s=>Kl F B B2 (Ej s) (DR_is_row s) X_NoRow) (fun _ _ _ _ _ _=>ar2 fun _ _=>rfl)
 have DR_is_below:=df (sp:=spR K (fun (y:Str)=>if y = "NoHouse" then C_NoHouse else if y = "NoRow" then C_NoRow else C_NoPast) Di 4) l.prog w X G e_is_below (fun F s=>Kj F B B2 (DR_need_row s)) (fun _ _ _ _ _ _=>ar4 fun _ _ _ _=>rfl)
 have DR_past_of:=df (sp:=spR K (fun (y:Str)=>if y = "NoHouse" then C_NoHouse else if y = "NoRow" then C_NoRow else C_NoPast) DT 3) l.prog w X G e_past_of (fun F s=>LI F B B2 (DR_need_row s)) (fun _ _ _ _ _ _=>ar3 fun _ _ _=>rfl)
 have DR_past:=df (sp:=spR K (fun (y:Str)=>if y = "NoHouse" then C_NoHouse else if y = "NoRow" then C_NoRow else C_NoPast) GJ 3) l.prog w X G e_past (fun F s=>Qz F B B2 (DR_need_row s)) (fun _ _ _ _ _ _=>ar3 fun _ _ _=>rfl)
 have DR_is_past:=df (sp:=spR K (fun (y:Str)=>if y = "NoHouse" then C_NoHouse else if y = "NoRow" then C_NoRow else C_NoPast) B6 3) l.prog w X G e18 (fun F s=>LH F B B2 (DR_need_row s)) (fun _ _ _ _ _ _=>ar3 fun _ _ _=>rfl)
 have DR_need_past:=df (sp:=spR K (fun (y:Str)=>if y = "NoHouse" then C_NoHouse else if y = "NoRow" then C_NoRow else C_NoPast) BF 3) l.prog w X G e_need_past (fun F s=>IU F B B2 (DB s) (DR_is_past s) X_NoPast) (fun _ _ _ _ _ _=>ar3 fun _ _ _=>rfl)
 have DR_tops:=df (sp:=spR K (fun (y:Str)=>if y = "NoHouse" then C_NoHouse else if y = "NoRow" then C_NoRow else C_NoPast) FA 3) l.prog w X G e_tops (fun F s=>QB F B B2 (DR_need_past s)) (fun _ _ _ _ _ _=>ar3 fun _ _ _=>rfl)
 have DR_cut_by:=df (sp:=spR K (fun (y:Str)=>if y = "NoHouse" then C_NoHouse else if y = "NoRow" then C_NoRow else C_NoPast) DD 3) l.prog w X G e_cut_by (fun F s=>M5 F B B2 (DR_need_past s)) (fun _ _ _ _ _ _=>ar3 fun _ _ _=>rfl)
 have DR_orders_counted:=df (sp:=spR K (fun (y:Str)=>if y = "NoHouse" then C_NoHouse else if y = "NoRow" then C_NoRow else C_NoPast) A2 2) l.prog w X G e_orders_counted (fun F s=>F6 F B B2 (DR_need_row s)) (fun _ _ _ _ _ _=>ar2 fun _ _=>rfl)
 have DR_pasts_counted:=df (sp:=spR K (fun (y:Str)=>if y = "NoHouse" then C_NoHouse else if y = "NoRow" then C_NoRow else C_NoPast) BI 2) l.prog w X G e_pasts_counted (fun F s=>Gz F B B2 (DR_need_row s)) (fun _ _ _ _ _ _=>ar2 fun _ _=>rfl)
 have DR_orders:=df (sp:=spR K (fun (y:Str)=>if y = "NoHouse" then C_NoHouse else if y = "NoRow" then C_NoRow else C_NoPast) Ey 2) l.prog w X G e_orders (fun F s=>M7 F B B2 (DR_orders_counted s)) (fun _ _ _ _ _ _=>ar2 fun _ _=>rfl)
 have DR__law_call:=df (sp:=spR K (fun (y:Str)=>if y = "NoHouse" then C_NoHouse else if y = "NoRow" then C_NoRow else C_NoPast) BE 4) l.prog w X G e__law_call (fun F s=>IT F B B2 (DR_is_below s) (DR_past_of s) (DR_past s) (DR_is_past s) (DR_tops s) (DR_cut_by s) (DR_orders_counted s) (DR_pasts_counted s) (DR_orders s)) (fun _ _ _ _ _ _=>ar4 fun _ _ _ _=>rfl)
 obtain ⟨f__law_refused,fd__law_refused,a__law_refused,F__law_refused⟩:=e28
 have B1:∀ base,K.In base→Def l.prog w K mg base CX0 16 "_law_refused" ["_law_which","_law_house_here","_law_row_here","_law_thing"] (spJ K Bl 4):=fun base hK=>⟨f__law_refused,fd__law_refused,PySem.W.mg_of X G a__law_refused,F__law_refused.kp,F__law_refused.binds (fun _ _ _ _ _ _=>ar4 fun _ _ _ _=>rfl),Hr (XC:=fun (y:Str)=>if y = "NoHouse" then C_NoHouse else if y = "NoRow" then C_NoRow else C_NoPast) (words:=["NoHouse","NoRow","NoPast"]) (jw:=fun (y:Str)=>if y = "NoHouse" then 0 else if y = "NoRow" then 1 else 6) F__law_refused B B2 (DR__law_call base) hHE (List.forall_mem_cons.mpr ⟨⟨fw,fdw,PySem.W.mg_of X G aw,Fw.kp,Fw.binds (fun _ _ _ _ _ _=>ar1 fun _=>rfl),Kr Fw B W_NoHouse dK⟩,(List.forall_mem_cons.mpr ⟨⟨fw,fdw,PySem.W.mg_of X G aw,Fw.kp,Fw.binds (fun _ _ _ _ _ _=>ar1 fun _=>rfl),Kr Fw B W_NoRow dK⟩,(List.forall_mem_cons.mpr ⟨⟨fw,fdw,PySem.W.mg_of X G aw,Fw.kp,Fw.binds (fun _ _ _ _ _ _=>ar1 fun _=>rfl),Kr Fw B W_NoPast dK⟩,(fun _ z=>nomatch z)⟩)⟩)⟩) Ht (List.forall_mem_cons.mpr ⟨⟨hab_NoHouse base hK,dK,fun a o q=>Jg q⟩,(List.forall_mem_cons.mpr ⟨⟨hab_NoRow base hK,dK,fun a o q=>Me q⟩,(List.forall_mem_cons.mpr ⟨⟨hab_NoPast base hK,dK,fun a o q=>KH q⟩,(fun _ z=>nomatch z)⟩)⟩)⟩)⟩
 have EX:=df l.prog w X G e29 (fun F s=>Km F B B2) fun _ _ _ _ _ _=>ar2 fun _ _=>rfl
 have CU:=df l.prog w X G e30 (fun F s=>GA F B B2 (Aq s)) fun _ _ _ _ _ _=>ar1 fun _=>rfl
 obtain ⟨f,fd,a,F⟩:=e31
 cases hfa.symm.trans (PySem.W.mg_of X G a)
 refine ⟨fd,?_,fun s hK _=>UB F a ht hh B B2 (ED s) (Aq s) (Dj s) (DG s) (EC s) (B1 s hK) (DB s) (EX s) (CU s)⟩
 obtain ⟨_,_,_,_,_,_,_,_,_,rfl,_,_⟩:=F.ex
 exact fun s v=>.of_eq rfl
theorem walk {l:PySem.W.OpenLaw} {q:Program} {loose:List Str} {XP:(Str→Option Value)→Heap→Prop} {YP:World→Heap→Prop} {d:DefRec} {K:Params→Frag} (hn:l.most = some 63) (hdf:d.params.defaults = [])
  (hY:∀ (w:World) (h:Heap),YP w h→(K w.params).In h)
  (F:∀ (w:World) (mg:Str→Option Value) (fa:Addr) (h:Heap),(K w.params).In h→h.Ns mainGlobals mg→mg d.name = some (.ref fa) →
   ∃ fd:FuncData,(∀ (s:Shared) (u:Value),BindsTo s fd ⟨[u],[]⟩ [("_law_script",u)])∧∀ base:Heap,(K w.params).In base→base.Ns mainGlobals mg→FnOk l.prog w (K w.params) mg base CX0 17 fa fd ["_law_script"] (spJ (K w.params) GQ 1)) (hT:∀ (w:World) (c b:Addr),PySem.W.tabIn (K w.params) Bi = some (c,b)→(∃ d2,(recsOf q).find? (fun e=>e.name == Bi) = some d2)∧(K w.params).lookup b = none) :
  PySem.W.WalkO q loose XP YP l.row.toRowW d [] (fun f vs=>PySem.call f vs):=
 L2.S4 (n:=63) (k:=17) (x := "_law_script") (CX:=fun _=>CX0) (sp:=fun w=>spJ (K w.params) GQ 1) hn (by decide) hdf ⟨rfl,by decide,by decide⟩ hY F (fun _ H a ns hl hO hS=>let ⟨_,e⟩:=Qt ns hl; Uo hl hO hS e) (fun _ _ _ _ _ z=>z) hT
noncomputable def fo (n:Str) (i:Nat) (m:Str) (t:Tok) (c:Addr):Obj:={ cls:=.type "function",data:=.func (PySem.W.fnOf n n (DY (top i)) (BL (top i)) (Ao (top i)) .none .none .none (.str m t) none (.ref c) .none) }
noncomputable def co (n:Str) (t:Nat) (l k:Int) (r:Nat) (x y:Value) (q:Nat) (u:Int) (v:Nat):Obj:={ cls:=.type "code",data:=.fields #[.str n t,.str n (t + 1),.str "/claim/cut.py" (t + 2),.int l 0,.int k 0,.int 0 0,.int 0 0,.int 3 0,.ref r,.bool true,.int 181 0,.ref (r + 1),.none,x,y,.ref q,.int u 0,.int l 0,.str "/claim/cut.py" v] }
noncomputable def en (P:Params) (n:Str) (t:Tok) (v:Value):DictEntry:=⟨PyData.keyHash P n,.str n t,v⟩
noncomputable def kc (n:Str) (bs m:List Value) (ns:Addr) (sb:List Value) (b:Addr) (t u:Tok):Obj:={ cls:=.type "type",data:=.cls { name:=n,bases:=bs,mro:=m ++ [.type "ValueError",.type "Exception",.type "BaseException",.type "object"],ns:=ns,qualname:=n,subclasses:=sb },slots:=#[some (.ref b),none,some (.str n t),some (.str n u),some (.builtin "ValueError.__new__"),some (.bool true)] }
noncomputable def nd (es:Array DictEntry) (ep:Nat):Obj:={ cls:=.type "dict",data:=.dict es ep }
noncomputable def gE (P:Params):List DictEntry:=[en P "__name__" 165 (.str "law_handsapart_k26_pasts_refused" 787),
 en P "__doc__" 166 .none,
 en P "__package__" 167 .none,
 en P "__loader__" 168 (.builtin "__main__.__loader__#opaque"),
 en P "__spec__" 169 .none,
 en P "__annotations__" 170 (.ref 6),
 en P "__builtins__" 171 (.ref 4),
 en P "__file__" 173 (.str "/claim/cut.py" 172),
 en P "__cached__" 174 .none,
 en P "is_whole" 195 (.ref 21),
 en P "is_number_below" 203 (.ref 28),
 en P "is_pair" 210 (.ref 35),
 en P "is_list_of_numbers_below" 218 (.ref 42),
 en P "are_numbers_below" 224 (.ref 47),
 en P "is_rising_list_below" 230 (.ref 52),
 en P "HandError" 250 (.ref 62),
 en P "NoHouse" 266 (.ref 75),
 en P "NoRow" 282 (.ref 87),
 en P "NoMachine" 298 (.ref 99),
 en P "NoRoom" 314 (.ref 111),
 en P "NoHand" 330 (.ref 123),
 en P "Unlike" 346 (.ref 135),
 en P "NoPast" 362 (.ref 147),
 en P "TooMany" 378 (.ref 159),
 en P "Torn" 405 (.ref 178),
 en P "NoTable" 421 (.ref 190),
 en P "NoSet" 437 (.ref 202),
 en P "Falls" 462 (.ref 221),
 en P "Whole" 478 (.ref 233),
 en P "NoText" 494 (.ref 245),
 en P "NoWord" 510 (.ref 257),
 en P "FEWEST_HANDS" 514 (.int 2 513),
 en P "MOST_HANDS" 516 (.int 4 515),
 en P "MOST_LETTERS" 518 (.int 6 517),
 en P "is_house" 525 (.ref 266),
 en P "is_count_of_hands" 532 (.ref 273),
 en P "are_entries" 538 (.ref 278),
 en P "is_entry" 546 (.ref 285),
 en P "is_small_letter" 553 (.ref 292),
 en P "need_house" 560 (.ref 299),
 en P "letters_of" 566 (.ref 304),
 en P "hands_of" 574 (.ref 311),
 en P "is_hand_in_both" 580 (.ref 316),
 en P "is_row" 586 (.ref 321),
 en P "need_row" 594 (.ref 328),
 en P "is_below" 606 (.ref 335),
 en P "past_of" 615 (.ref 342),
 en P "deeds_below" 624 (.ref 349),
 en P "past" 633 (.ref 356),
 en P "deeds_known" 646 (.ref 363),
 en P "is_past" 655 (.ref 370),
 en P "are_closed" 668 (.ref 377),
 en P "need_past" 677 (.ref 384),
 en P "tops" 690 (.ref 391),
 en P "cut_by" 696 (.ref 396),
 en P "seen_by" 704 (.ref 401),
 en P "seen_by_all" 710 (.ref 406),
 en P "MOST_ORDERS" 714 (.int 500 713),
 en P "orders_counted" 722 (.ref 413),
 en P "pasts_counted" 728 (.ref 418),
 en P "pasts_by_size" 739 (.ref 425),
 en P "none_seen" 746 (.ref 432),
 en P "pasts_grown" 760 (.ref 439),
 en P "ways_on" 766 (.ref 444),
 en P "orders" 772 (.ref 449),
 en P "all_longer" 786 (.ref 456),
 en P "_law_word" 794 (.ref 461),
 en P "_law_bag" 801 (.ref 468),
 en P "_law_take" 810 (.ref 475),
 en P "_law_house" 816 (.ref 480),
 en P "_law_row" 828 (.ref 487),
 en P "_law_drawn" 838 (.ref 494),
 en P "_law_cell" 846 (.ref 501),
 en P "_law_odd_past" 857 (.ref 508),
 en P "_law_hang" 863 (.ref 513),
 en P "_law_below" 869 (.ref 518),
 en P "_law_odd_row" 875 (.ref 523),
 en P "_law_odd_house" 881 (.ref 528),
 en P "_law_call" 891 (.ref 535),
 en P "_law_refused" 902 (.ref 542),
 en P "law" 916 (.ref 549)]
noncomputable def gD (P:Params):Obj:={ cls:=.type "dict",data:=.dict (gE P).toArray 81 }
noncomputable def Kf:Params→Frag:=fun P=>(nat_lit 3,gD P) ::
 (nat_lit 20,co "is_whole" 189 2 1 15 (.ref 17) (.ref 18) 19 193 194) ::
 (nat_lit 21,fo "is_whole" 1 "handsapart.checks" 187 20) ::
 (nat_lit 27,co "is_number_below" 196 4 2 22 (.ref 24) (.ref 25) 26 201 202) ::
 (nat_lit 28,fo "is_number_below" 2 "handsapart.checks" 187 27) ::
 (nat_lit 34,co "is_pair" 204 6 1 29 (.ref 31) (.ref 32) 33 208 209) ::
 (nat_lit 35,fo "is_pair" 3 "handsapart.checks" 187 34) ::
 (nat_lit 41,co "is_list_of_numbers_below" 211 8 2 36 (.ref 38) (.ref 39) 40 216 217) ::
 (nat_lit 42,fo "is_list_of_numbers_below" 4 "handsapart.checks" 187 41) ::
 (nat_lit 46,co "are_numbers_below" 219 10 2 43 .none .none 45 222 223) ::
 (nat_lit 47,fo "are_numbers_below" 5 "handsapart.checks" 187 46) ::
 (nat_lit 51,co "is_rising_list_below" 225 12 2 48 .none .none 50 228 229) ::
 (nat_lit 52,fo "is_rising_list_below" 6 "handsapart.checks" 187 51) ::
 (nat_lit 61,nd #[en P "__module__" 240 (.str "handsapart.errors" 231),en P "__firstlineno__" 244 (.int 17 243),en P "__static_attributes__" 245 (.ref 60),en P "__weakref__" 247 (.ref 63),en P "__doc__" 248 .none] 3) ::
 (nat_lit 62,kc "HandError" [.type "ValueError"] [.ref 62] 61 [.ref 75,.ref 87,.ref 99,.ref 111,.ref 123,.ref 135,.ref 147,.ref 159,.ref 178,.ref 190,.ref 202,.ref 221,.ref 233,.ref 245,.ref 257] 53 233 241) ::
 (nat_lit 74,nd #[en P "__module__" 258 (.str "handsapart.errors" 231),en P "__firstlineno__" 262 (.int 19 261),en P "__static_attributes__" 263 (.ref 73),en P "__doc__" 264 .none] 2) ::
 (nat_lit 75,kc "NoHouse" [.ref 62] [.ref 75,.ref 62] 74 [] 66 251 259) ::
 (nat_lit 86,nd #[en P "__module__" 274 (.str "handsapart.errors" 231),en P "__firstlineno__" 278 (.int 21 277),en P "__static_attributes__" 279 (.ref 85),en P "__doc__" 280 .none] 2) ::
 (nat_lit 87,kc "NoRow" [.ref 62] [.ref 87,.ref 62] 86 [] 78 267 275) ::
 (nat_lit 99,kc "NoMachine" [.ref 62] [.ref 99,.ref 62] 98 [] 90 283 291) ::
 (nat_lit 111,kc "NoRoom" [.ref 62] [.ref 111,.ref 62] 110 [] 102 299 307) ::
 (nat_lit 123,kc "NoHand" [.ref 62] [.ref 123,.ref 62] 122 [] 114 315 323) ::
 (nat_lit 135,kc "Unlike" [.ref 62] [.ref 135,.ref 62] 134 [] 126 331 339) ::
 (nat_lit 146,nd #[en P "__module__" 354 (.str "handsapart.errors" 231),en P "__firstlineno__" 358 (.int 31 357),en P "__static_attributes__" 359 (.ref 145),en P "__doc__" 360 .none] 2) ::
 (nat_lit 147,kc "NoPast" [.ref 62] [.ref 147,.ref 62] 146 [] 138 347 355) ::
 (nat_lit 159,kc "TooMany" [.ref 62] [.ref 159,.ref 62] 158 [] 150 363 371) ::
 (nat_lit 178,kc "Torn" [.ref 62] [.ref 178,.ref 62] 177 [] 162 379 387) ::
 (nat_lit 190,kc "NoTable" [.ref 62] [.ref 190,.ref 62] 189 [] 181 406 414) ::
 (nat_lit 202,kc "NoSet" [.ref 62] [.ref 202,.ref 62] 201 [] 193 422 430) ::
 (nat_lit 221,kc "Falls" [.ref 62] [.ref 221,.ref 62] 220 [] 205 438 446) ::
 (nat_lit 233,kc "Whole" [.ref 62] [.ref 233,.ref 62] 232 [] 224 463 471) ::
 (nat_lit 245,kc "NoText" [.ref 62] [.ref 245,.ref 62] 244 [] 236 479 487) ::
 (nat_lit 257,kc "NoWord" [.ref 62] [.ref 257,.ref 62] 256 [] 248 495 503) ::
 (nat_lit 265,co "is_house" 519 58 1 260 (.ref 262) (.ref 263) 264 523 524) ::
 (nat_lit 266,fo "is_house" 28 "handsapart.houses" 511 265) ::
 (nat_lit 272,co "is_count_of_hands" 526 62 1 267 (.ref 269) (.ref 270) 271 530 531) ::
 (nat_lit 273,fo "is_count_of_hands" 29 "handsapart.houses" 511 272) ::
 (nat_lit 277,co "are_entries" 533 64 2 274 .none .none 276 536 537) ::
 (nat_lit 278,fo "are_entries" 30 "handsapart.houses" 511 277) ::
 (nat_lit 284,co "is_entry" 539 70 2 279 (.ref 281) (.ref 282) 283 544 545) ::
 (nat_lit 285,fo "is_entry" 31 "handsapart.houses" 511 284) ::
 (nat_lit 291,co "is_small_letter" 547 74 1 286 (.ref 288) (.ref 289) 290 551 552) ::
 (nat_lit 292,fo "is_small_letter" 32 "handsapart.houses" 511 291) ::
 (nat_lit 298,co "need_house" 554 76 1 293 (.ref 295) (.ref 296) 297 558 559) ::
 (nat_lit 299,fo "need_house" 33 "handsapart.houses" 511 298) ::
 (nat_lit 303,co "letters_of" 561 79 1 300 .none .none 302 564 565) ::
 (nat_lit 304,fo "letters_of" 34 "handsapart.houses" 511 303) ::
 (nat_lit 310,co "hands_of" 567 81 2 305 (.ref 307) (.ref 308) 309 572 573) ::
 (nat_lit 311,fo "hands_of" 35 "handsapart.houses" 511 310) ::
 (nat_lit 315,co "is_hand_in_both" 575 83 2 312 .none .none 314 578 579) ::
 (nat_lit 316,fo "is_hand_in_both" 36 "handsapart.houses" 511 315) ::
 (nat_lit 320,co "is_row" 581 85 2 317 .none .none 319 584 585) ::
 (nat_lit 321,fo "is_row" 37 "handsapart.houses" 511 320) ::
 (nat_lit 327,co "need_row" 587 91 2 322 (.ref 324) (.ref 325) 326 592 593) ::
 (nat_lit 328,fo "need_row" 38 "handsapart.houses" 511 327) ::
 (nat_lit 334,co "is_below" 597 95 4 329 (.ref 331) (.ref 332) 333 604 605) ::
 (nat_lit 335,fo "is_below" 40 "handsapart.pasts" 595 334) ::
 (nat_lit 341,co "past_of" 607 98 3 336 (.ref 338) (.ref 339) 340 613 614) ::
 (nat_lit 342,fo "past_of" 41 "handsapart.pasts" 595 341) ::
 (nat_lit 355,co "past" 625 103 3 350 (.ref 352) (.ref 353) 354 631 632) ::
 (nat_lit 356,fo "past" 43 "handsapart.pasts" 595 355) ::
 (nat_lit 369,co "is_past" 647 115 3 364 (.ref 366) (.ref 367) 368 653 654) ::
 (nat_lit 370,fo "is_past" 45 "handsapart.pasts" 595 369) ::
 (nat_lit 376,co "are_closed" 656 118 3 371 (.ref 373) (.ref 374) 375 666 667) ::
 (nat_lit 377,fo "are_closed" 46 "handsapart.pasts" 595 376) ::
 (nat_lit 383,co "need_past" 669 127 3 378 (.ref 380) (.ref 381) 382 675 676) ::
 (nat_lit 384,fo "need_past" 47 "handsapart.pasts" 595 383) ::
 (nat_lit 390,co "tops" 678 130 3 385 (.ref 387) (.ref 388) 389 688 689) ::
 (nat_lit 391,fo "tops" 48 "handsapart.pasts" 595 390) ::
 (nat_lit 395,co "cut_by" 691 140 3 392 .none .none 394 694 695) ::
 (nat_lit 396,fo "cut_by" 49 "handsapart.pasts" 595 395) ::
 (nat_lit 412,co "orders_counted" 715 153 2 407 (.ref 409) (.ref 410) 411 720 721) ::
 (nat_lit 413,fo "orders_counted" 55 "handsapart.orders" 711 412) ::
 (nat_lit 417,co "pasts_counted" 723 156 2 414 .none .none 416 726 727) ::
 (nat_lit 418,fo "pasts_counted" 56 "handsapart.orders" 711 417) ::
 (nat_lit 448,co "orders" 767 180 2 445 .none .none 447 770 771) ::
 (nat_lit 449,fo "orders" 61 "handsapart.orders" 711 448) ::
 (nat_lit 460,co "_law_word" 789 195 1 457 .none .none 459 792 793) ::
 (nat_lit 461,fo "_law_word" 64 "law_handsapart_k26_pasts_refused" 787 460) ::
 (nat_lit 467,co "_law_bag" 795 206 1 462 (.ref 464) (.ref 465) 466 799 800) ::
 (nat_lit 468,fo "_law_bag" 65 "law_handsapart_k26_pasts_refused" 787 467) ::
 (nat_lit 474,co "_law_take" 802 210 2 469 (.ref 471) (.ref 472) 473 808 809) ::
 (nat_lit 475,fo "_law_take" 66 "law_handsapart_k26_pasts_refused" 787 474) ::
 (nat_lit 479,co "_law_house" 811 218 1 476 .none .none 478 814 815) ::
 (nat_lit 480,fo "_law_house" 67 "law_handsapart_k26_pasts_refused" 787 479) ::
 (nat_lit 486,co "_law_row" 817 232 3 481 (.ref 483) (.ref 484) 485 826 827) ::
 (nat_lit 487,fo "_law_row" 68 "law_handsapart_k26_pasts_refused" 787 486) ::
 (nat_lit 493,co "_law_drawn" 829 240 2 488 (.ref 490) (.ref 491) 492 836 837) ::
 (nat_lit 494,fo "_law_drawn" 69 "law_handsapart_k26_pasts_refused" 787 493) ::
 (nat_lit 500,co "_law_cell" 839 244 2 495 (.ref 497) (.ref 498) 499 844 845) ::
 (nat_lit 501,fo "_law_cell" 70 "law_handsapart_k26_pasts_refused" 787 500) ::
 (nat_lit 507,co "_law_odd_past" 847 248 3 502 (.ref 504) (.ref 505) 506 855 856) ::
 (nat_lit 508,fo "_law_odd_past" 71 "law_handsapart_k26_pasts_refused" 787 507) ::
 (nat_lit 512,co "_law_hang" 858 254 3 509 .none .none 511 861 862) ::
 (nat_lit 513,fo "_law_hang" 72 "law_handsapart_k26_pasts_refused" 787 512) ::
 (nat_lit 517,co "_law_below" 864 257 2 514 .none .none 516 867 868) ::
 (nat_lit 518,fo "_law_below" 73 "law_handsapart_k26_pasts_refused" 787 517) ::
 (nat_lit 522,co "_law_odd_row" 870 266 2 519 .none .none 521 873 874) ::
 (nat_lit 523,fo "_law_odd_row" 74 "law_handsapart_k26_pasts_refused" 787 522) ::
 (nat_lit 527,co "_law_odd_house" 876 274 1 524 .none .none 526 879 880) ::
 (nat_lit 528,fo "_law_odd_house" 75 "law_handsapart_k26_pasts_refused" 787 527) ::
 (nat_lit 534,co "_law_call" 882 282 4 529 (.ref 531) (.ref 532) 533 889 890) ::
 (nat_lit 535,fo "_law_call" 76 "law_handsapart_k26_pasts_refused" 787 534) ::
 (nat_lit 541,co "_law_refused" 892 300 4 536 (.ref 538) (.ref 539) 540 900 901) ::
 (nat_lit 542,fo "_law_refused" 77 "law_handsapart_k26_pasts_refused" 787 541) ::
 (nat_lit 548,co "law" 903 306 1 543 (.ref 545) (.ref 546) 547 914 915) ::
 (nat_lit 549,fo "law" 78 "law_handsapart_k26_pasts_refused" 787 548) :: []
theorem Ri (P:Params):PySem.W.tabIn (Kf P) Bi = some (nat_lit 548,nat_lit 544):=by kernel_rfl
theorem VY (P:Params):PySem.W.codeHdIn (Kf P) (nat_lit 548) (nat_lit 544) = true:=by kernel_rfl
theorem V5 (P:Params):(Kf P).lookup (nat_lit 544) = none:=by kernel_rfl
theorem K8 (P:Params):xok (Kf P) (nat_lit 75) (nat_lit 62) "NoHouse" = true:=by kernel_rfl
theorem NO (P:Params):xok (Kf P) (nat_lit 87) (nat_lit 62) "NoRow" = true:=by kernel_rfl
theorem Mp (P:Params):xok (Kf P) (nat_lit 147) (nat_lit 62) "NoPast" = true:=by kernel_rfl
end Gk26
def PySem.W.Fast.tw16473081180658706812:Nat:=0
def PySem.W.Fast.tw17754279789095475104:Nat:=0
def PySem.W.Fast.tw6953495879280490333:Nat:=0
def PySem.W.Fast.tw11503603643810109334:Nat:=0
def PySem.W.Fast.tw13804502089559503537:Nat:=0
def PySem.W.Fast.tw18215085843594763573:Nat:=0
def PySem.W.Fast.tw12935289982825419732:Nat:=0
def PySem.W.Fast.tw2236545459096619886:Nat:=0
def PySem.W.Fast.tw5696008830762397891:Nat:=0
def PySem.W.Fast.tw7978527262543409749:Nat:=0
def PySem.W.Fast.tw8207487167284490753:Nat:=0
def PySem.W.Fast.tw5793291832848683027:Nat:=0
def PySem.W.Fast.tw14267598467536888737:Nat:=0
def PySem.W.Fast.tw17221717746188469964:Nat:=0
def PySem.W.Fast.tw14542119647864384782:Nat:=0
def PySem.W.Fast.tw10690438257851726617:Nat:=0
def PySem.W.Fast.tw13139817116684773131:Nat:=0
def PySem.W.Fast.tw3035806588912734390:Nat:=0
def PySem.W.Fast.tw5800025365089348675:Nat:=0
def PySem.W.Fast.tw3090518997376816804:Nat:=0
def PySem.W.Fast.tw11885898134035820468:Nat:=0
def PySem.W.Fast.tw15935367967688887320:Nat:=0
def PySem.W.Fast.tw12890241598565679742:Nat:=0
open PySem PySem.W PyProof.Rows
set_option maxRecDepth 100000 in
set_option maxHeartbeats 0 in
theorem PySem.Challenge.cw_handsapart_k26_pasts_refused_holds : PySem.Challenge.rw_handsapart_k26_pasts_refused.Holds := by
 w_on; o_law; o_head (PySem.W.kHook Gk26.Kf (nat_lit 3 :: nat_lit 20 :: nat_lit 21 :: nat_lit 27 :: nat_lit 28 :: nat_lit 34 :: nat_lit 35 :: nat_lit 41 :: nat_lit 42 :: nat_lit 46 :: nat_lit 47 :: nat_lit 51 :: nat_lit 52 :: nat_lit 61 :: nat_lit 62 :: nat_lit 74 :: nat_lit 75 :: nat_lit 86 :: nat_lit 87 :: nat_lit 99 :: nat_lit 111 :: nat_lit 123 :: nat_lit 135 :: nat_lit 146 :: nat_lit 147 :: nat_lit 159 :: nat_lit 178 :: nat_lit 190 :: nat_lit 202 :: nat_lit 221 :: nat_lit 233 :: nat_lit 245 :: nat_lit 257 :: nat_lit 265 :: nat_lit 266 :: nat_lit 272 :: nat_lit 273 :: nat_lit 277 :: nat_lit 278 :: nat_lit 284 :: nat_lit 285 :: nat_lit 291 :: nat_lit 292 :: nat_lit 298 :: nat_lit 299 :: nat_lit 303 :: nat_lit 304 :: nat_lit 310 :: nat_lit 311 :: nat_lit 315 :: nat_lit 316 :: nat_lit 320 :: nat_lit 321 :: nat_lit 327 :: nat_lit 328 :: nat_lit 334 :: nat_lit 335 :: nat_lit 341 :: nat_lit 342 :: nat_lit 355 :: nat_lit 356 :: nat_lit 369 :: nat_lit 370 :: nat_lit 376 :: nat_lit 377 :: nat_lit 383 :: nat_lit 384 :: nat_lit 390 :: nat_lit 391 :: nat_lit 395 :: nat_lit 396 :: nat_lit 412 :: nat_lit 413 :: nat_lit 417 :: nat_lit 418 :: nat_lit 448 :: nat_lit 449 :: nat_lit 460 :: nat_lit 461 :: nat_lit 467 :: nat_lit 468 :: nat_lit 474 :: nat_lit 475 :: nat_lit 479 :: nat_lit 480 :: nat_lit 486 :: nat_lit 487 :: nat_lit 493 :: nat_lit 494 :: nat_lit 500 :: nat_lit 501 :: nat_lit 507 :: nat_lit 508 :: nat_lit 512 :: nat_lit 513 :: nat_lit 517 :: nat_lit 518 :: nat_lit 522 :: nat_lit 523 :: nat_lit 527 :: nat_lit 528 :: nat_lit 534 :: nat_lit 535 :: nat_lit 541 :: nat_lit 542 :: nat_lit 548 :: nat_lit 549 :: []) (fun _=>by kernel_rfl)); (case hw=>w_witness2)
 k_fill
 refine Gk26.walk (l:=PySem.Challenge.rw_handsapart_k26_pasts_refused) rfl rfl (fun w h Y=>PySem.W.kIn_of Y) ?F (fun w c b e=>by
  rw [Gk26.Ri w.params] at e
  cases e
  exact ⟨Option.isSome_iff_exists.mp (by kernel_rfl),Gk26.V5 w.params⟩)
 case F =>
  intro w mg fa h KX G hmg
  refine' Gk26.all_mk KX G hmg ?_ ?_ ?_ ?_ ?_ ?_ ?_ ?_ ?_ ?_ ?_ ?_ ?_ ?_ ?_ ?_ ?_ ?_ ?_ ?_ ?_ ?_ ?_ ?_ ?_ ?_ ?_ ?_ ?_ ?_ ?_ ?_ ?_ ?_ ?_ ?_ ?_ ?_ ?_ ?_ ?_ ?_ ?_ ?_ ?_ ?_ ?_ ?_ ?_ ?_ ?_ ?_ ?_ ?_ ?_ ?_ ?_ ?_ ?_ ?_ ?_ ?_ ?_ ?_ (Gk26.Ri w.params) (Gk26.VY w.params) (Gk26.K8 w.params) (Gk26.NO w.params) (Gk26.Mp w.params)
  all_goals first | k_is | (refine' Gk26.VT ?a ?l ?c ?k; (case a=>k_is); (case l=>k_is); (case c=>k_is); (case k=>k_is)) | skip
end
