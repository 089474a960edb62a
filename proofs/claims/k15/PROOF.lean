import PyProof.Rows.All
import Wide.All
import OpenK.AllK
import Wide.FinOn
import KE.KLam
import KE.KNestM
import Lean
import PyProof.EqAt
import PyProof.EqKinds
import PyProof.TupleCall
import PyProof.NeKinds
import PyProof.Rows.SortShell
import PyProof.Rows.SortWalk
import PyProof.StrBlockI
import PyProof.Rows.Range3
import KE.KDictOf
import PyProof.AttrMissHeap
import PyProof.ConsumeWalk
import KE.KStateDown
import PyProof.SetScanFacts
import PyProof.SetKind
import PyProof.DictKinds
import PyProof.CollectWalk
import PyProof.FactsAll.set
import PyProof.MakeMany
import PyProof.Rows.SetFrom
import PyProof.EnumMake
import PyProof.Draws
import PyProof.IsRules
import PyProof.Rows.EnumRows
import PyProof.ZipIter
import PyProof.StrWalks
import PyProof.Rows.SortStr
import PyProof.Conv_int_bool
import KE.KRevSl
import KE.KMinKey
import PyProof.Rows.StrRules
import KE.KxWritten
import PyProof.ListRange
import KE.KDictList
import PyProof.WalkInts
import PySem.Challenge.RW_handsapart_k15_whole_alike_three_ways
open PySem.Heap (get?_push_of_some get?_push_size lt_size)
open Nat (le_refl le_succ le_trans lt_irrefl lt_of_lt_of_le ne_of_lt zero_le)
open List (all_cons all_eq_true any_cons append_assoc append_nil cons_append count_append drop_eq_getElem_cons erase_cons_head erase_cons_tail exists_cons_of_ne_nil filter_map find?_cons foldl_cons getD_eq_getElem?_getD getElem?_append_left getElem?_append_right getElem?_cons_succ getElem?_cons_zero getElem?_eq_getElem getElem?_map getElem?_set_ne getElem?_set_self getElem_map getElem_mem length_append length_cons length_drop length_eq_zero_iff length_map length_nil length_pos_iff length_range length_set length_take lookup_cons map_append map_cons map_map map_nil mem_append mem_append_left mem_append_right mem_cons mem_cons_of_mem mem_cons_self mem_filter mem_iff_getElem mem_map mem_of_getElem? mem_range nil_append nodup_append nodup_cons nodup_nil not_lt not_mem_nil pairwise_cons pairwise_iff_getElem size_toArray)
open Bool (and_eq_true false_eq_true)
open Option (bind_none bind_some getD_some isSome_map map_some none_or or_eq_some_iff some_or)
open PySem.Txt (slice_le)
open PySem.W (Frag)
open Option (bind_eq_some_iff map_eq_some_iff)
set_option Elab.async false
set_option bootstrap.genMatcherCode false
set_option compiler.extract_closed false
set_option genSizeOf false
set_option genInjectivity false
set_option linter.all false
set_option maxRecDepth 100000
set_option maxHeartbeats 4000000
theorem dK {p:Prop} (h:p:=by decide +kernel):p:=h
section
namespace L2
open PySem PySem.Spec PyProof.Rows
noncomputable abbrev Key:=Sum Int Str
noncomputable def Ik:Key→Value→Bool
 | .inl k,v=>Value.isInt k v
 | .inr x,v=>Value.isStrOf x v
noncomputable def XZ (w:World):Key→Int
 | .inl k=>hashInt k
 | .inr x=>hashStr w x
theorem BE:∀ {k:Key} {v:Value},Ik k v = true→(∃ i t,k = Sum.inl i∧v = Value.int i t)∨(∃ x t,k = Sum.inr x∧v = Value.str x t)
 | .inl i,v,h=>by
  obtain ⟨t,e⟩:=Value.isInt_shape (k:=i) (v:=v) h
  exact .inl ⟨i,t,rfl,e⟩
 | .inr x,v,h=>by
  obtain ⟨t,e⟩:=Value.isStrOf_shape (x:=x) (v:=v) h
  exact .inr ⟨x,t,rfl,e⟩
theorem Oy (i:Int) (t:Tok):Ik (.inl i) (.int i t) = true:=by simp [Ik,Value.isInt]
theorem Oz (x:Str) (t:Tok):Ik (.inr x) (.str x t) = true:=by simp [Ik,Value.isStrOf]
theorem UX (a b:Int):decide ((Sum.inl a:Key) = Sum.inl b) = (a == b):=by
 by_cases e:a = b
 ·subst e; simp
 ·have h:¬ (Sum.inl a:Key) = Sum.inl b:=fun q=>e (Sum.inl.inj q)
  rw [decide_eq_false h]
  exact (beq_eq_false_iff_ne.mpr e).symm
theorem U0 (a b:Str):decide ((Sum.inr a:Key) = Sum.inr b) = decide (a = b):=by
 by_cases e:a = b
 ·subst e; simp
 ·have h:¬ (Sum.inr a:Key) = Sum.inr b:=fun q=>e (Sum.inr.inj q)
  rw [decide_eq_false h,decide_eq_false e]
theorem UY (a:Int) (b:Str):decide ((Sum.inl a:Key) = Sum.inr b) = false:=decide_eq_false (fun q=>nomatch q)
theorem UZ (a:Str) (b:Int):decide ((Sum.inr a:Key) = Sum.inl b) = false:=decide_eq_false (fun q=>nomatch q)
noncomputable def Bm (prog:Program) (w:World):PySem.KeyKind prog w Key where
 is:=Ik
 hash:=XZ w
 inj:=fun v a b ha hb=>by
  rcases BE ha with ⟨i,t,rfl,rfl⟩ | ⟨x,t,rfl,rfl⟩
  ·rcases BE hb with ⟨j,u,rfl,e⟩ | ⟨y,u,rfl,e⟩
   ·injection e with e1 _; rw [e1]
   ·exact nomatch e
  ·rcases BE hb with ⟨j,u,rfl,e⟩ | ⟨y,u,rfl,e⟩
   ·exact nomatch e
   ·injection e with e1 _; rw [e1]
 byValue:=fun k v h=>by
  rcases BE h with ⟨i,t,rfl,rfl⟩ | ⟨x,t,rfl,rfl⟩ <;> rfl
 pyHash:=fun hv h=>by
  rcases BE hv with ⟨i,t,rfl,rfl⟩ | ⟨x,t,rfl,rfl⟩
  ·exact wpAny_pyHash_int h
  ·exact wpAny_pyHash_str h
 eqBool:=fun hu hv h=>by
  rcases BE hu with ⟨i,t,rfl,rfl⟩ | ⟨x,t,rfl,rfl⟩
  ·rcases BE hv with ⟨j,u,rfl,rfl⟩ | ⟨y,u,rfl,rfl⟩
   ·rw [UX] at h; exact wpAny_eqBool_int h
   ·rw [UY] at h; exact SeqAt.EqAt.int_str i t y u _ _ _ _ h
  ·rcases BE hv with ⟨j,u,rfl,rfl⟩ | ⟨y,u,rfl,rfl⟩
   ·rw [UZ] at h; exact SeqAt.EqAt.str_int x t j u _ _ _ _ h
   ·rw [U0] at h; exact wpAny_eqBool_str h
 «strs»:=fun k x t v h=>by
  rcases BE h with ⟨i,u,rfl,e⟩ | ⟨y,u,rfl,e⟩
  ·exact nomatch e
  ·injection e with e1 _
   subst e1
   cases v <;> rfl
theorem Lx (prog:Program) (w:World) (i:Int) (t:Tok):(Bm prog w).is (.inl i) (.int i t) = true:=Oy i t
theorem Ly (prog:Program) (w:World) (x:Str) (t:Tok):(Bm prog w).is (.inr x) (.str x t) = true:=Oz x t
end L2
namespace L2
open PySem PySem.Spec PyProof.Rows
inductive V where
 | non | bl (b:Bool) | int (i:Int) | str (x:Str) | byt (b:Array UInt8) | flt (b:UInt64) | ref (a:Addr) | ty (n:String)
 deriving DecidableEq
noncomputable def RelV:V→Value→Prop
 | .non,u=>u = Value.none
 | .bl b,u=>u = Value.bool b
 | .int i,u=>∃ t,u = Value.int i t
 | .str x,u=>∃ t,u = Value.str x t
 | .byt b,u=>∃ t,u = Value.bytes b t
 | .flt b,u=>∃ t,u = Value.float b t
 | .ref a,u=>u = Value.ref a
 | .ty n,u=>u = Value.type n
noncomputable abbrev Vals:List V→List Value→Prop:=Paired RelV
theorem Vals.length {xs:List V} {us:List Value} (r:Vals xs us):xs.length = us.length:=Paired.length r
theorem Vals.get:∀ {xs:List V} {us:List Value} {i:Nat} {x:V},Vals xs us→xs[i]? = some x→∃ u,us[i]? = some u∧RelV x u
 | _,_,_,_,.nil,e=>by simp at e
 | _,_,0,_,.cons r _,e=>by simp at e; subst e; exact ⟨_,rfl,r⟩
 | _,_,i + 1,x,.cons _ t,e=>by
  obtain ⟨u,h1,h2⟩:=Vals.get (i:=i) (x:=x) t (by simpa using e)
  exact ⟨u,by simpa using h1,h2⟩
theorem Vals.set {x:V} {u:Value} (r:RelV x u):∀ {xs:List V} {us:List Value} (i:Nat),Vals xs us→Vals (xs.set i x) (us.set i u)
 | _,_,_,.nil=>.nil
 | _,_,0,.cons _ t=>.cons r t
 | _,_,i + 1,.cons q t=>.cons q (Vals.set r i t)
theorem Vals.append {xs ys:List V} {us ws:List Value} (h:Vals xs us) (s:Vals ys ws):Vals (xs ++ ys) (us ++ ws):=by
 induction h with
 | nil=>exact s
 | cons r t ih=>exact .cons r ih
noncomputable def HM:Option V→Option Value→Prop
 | some v,some u=>RelV v u
 | none,none=>True
 | _,_=>False
noncomputable def KV {κ:Type}:List (κ × V)→List (κ × Value)→Prop:=Paired fun (p : κ × V) (q : κ × Value)=>p.1 = q.1∧RelV p.2 q.2
noncomputable def kV:Key→V
 | .inl i=>.int i
 | .inr x=>.str x
inductive HO where
 /-- a list -/
 | lst (xs:List V)
 /-- a tuple (never changes) -/
 | tup (xs:List V)
 /-- a dict whose keys are ints and texts; one whose keys are tuples of ints and texts (the empty one is both) -/
 | dK (kvs:List (Key × V)) | dT (kvs:List (List Key × V))
 /-- a set of ints: its members,its size -/
 | set (S:Int→Bool) (n:Nat)
 /-- an instance of the class at C,its dict at dx,its attributes -/
 | ins (C dx:Addr) (fs:List (Str × V))
 /-- the dict of the instance at x -/
 | own (x:Addr)
 /-- the dict of an exception -/
 | xd (fs:List (Str × V))
 /-- a bound method,f of x -/
 | met (f x:Addr)
 /-- a range object lo,lo + 1,.. below hi -/
 | rng (lo hi:Int)
 /-- a thing that is known to the object (the script; a dict while a loop walks it): read,never written while it is so -/
 | frz (o:Obj) (u:HO)
 /-- a code object's table -/
 | tbl (ps:Array Value)
 /-- any other thing,by what is true of its one object (a def of one's own: SetO a S n:=HO.ext fun h=>..) -/
 | ext (φ : Heap→Prop)
noncomputable abbrev Hp:=Addr→Option HO
noncomputable def upd (H:Hp) (a:Addr) (o:HO):Hp:=fun b=>if b = a then some o else H b
theorem AK {H:Hp} {a:Addr} {o:HO}:upd H a o a = some o:=by unfold upd; rw [if_pos rfl]
theorem AH {H:Hp} {a b:Addr} {o:HO} (h:b≠a):upd H a o b = H b:=by unfold upd; rw [if_neg h]
theorem Lz {H:Hp} {a b:Addr} {o u:HO} (h:H a = some o) (h':H b = some u) (d:o≠u):a≠b:=by
 intro e; subst e; rw [h] at h'; exact d (Option.some.inj h')
theorem Dc {H:Hp} {a b:Addr} {o:HO} (h:H a = some o) (h':H b = none):a≠b:=by
 intro e; subst e; rw [h] at h'; cases h'
noncomputable abbrev A8:Str := "place_of_first"
noncomputable abbrev BU:Str := "place_of_first.<locals>.<lambda>"
noncomputable def WL (H:Hp) (h:Heap) (a:Addr) (ps:Array Value):Prop:=∃ qs:Array Value,h.get? a = some { cls:=.none,data:=.fields qs }∧TriplesOk qs.toList ∧
 ∀ pos c,codeAmong pos qs.toList = some c→∃ c' oc vs t q,c = .ref c'∧H c' = some (.own a)∧h.get? c' = some oc∧oc.data = .fields vs∧vs[1]? = some (.str q t)∧ps[0]? = some (.str q 0)
noncomputable def Oc (K:Frag) (H:Hp):Prop:=∀ c P,PySem.W.tabIn K A8 = some (c,P)→∃ ps,H P = some (.tbl ps)∧ps[0]? = some (.str BU 0)
section
variable (P:Program) (w:World)
noncomputable def BO (H:Hp) (h:Heap) (a:Addr):HO→Prop
 | .lst xs=>xs.length≤sizeLine∧∃ (its:List Value) (n:Nat),Vals xs its∧h.get? a = some { cls:=.type "list",data:=.seq its.toArray n }
 | .tup xs=>xs.length≤sizeLine∧∃ its:List Value,Vals xs its∧IsTup h a its.toArray
 | .dK kvs=>kvs.length≤sizeLine∧(a == sysModules) = false∧∃ vs,KV kvs vs∧h.DictOf (Bm P w) a vs
 | .dT kvs=>kvs.length≤sizeLine∧(a == sysModules) = false∧∃ xs:List (List Key × Addr × Value),
   Paired (fun (p:List Key × V) (q:List Key × Addr × Value)=>p.1 = q.1∧H q.2.1 = some (.tup (p.1.map kV))∧RelV p.2 q.2.2) kvs xs ∧
   ∃ o es ep,h.get? a = some o∧o.ExactDict∧o.data = .dict es ep∧es.toList = xs.map (entryOfKey (tupleKind (Bm P w)))∧(xs.map (·.1)).Nodup
 | .set S n=>h.SetOf (intKind P w) a S n
 | .ins C dx fs=>H dx = some (.own a)∧fs.length≤1000∧dx≠a∧h.get? a = some (PySem.W.instObj C dx) ∧
   ∃ mA,h.Ns1 dx mA∧(∀ f,HM (fs.lookup f) (mA f))∧PySem.Within mA (fs.map (·.1))
 | .own _=>∃ o,h.get? a = some o
 | .xd fs=>∃ mA,h.Ns1 a mA∧∀ f,HM (fs.lookup f) (mA f)
 | .rng lo hi=>∃ t u v,h.get? a = some { cls:=.type "range",data:=.fields #[.int lo t,.int hi u,.int 1 v] }
 | .frz o u=>h.get? a = some o∧BO H h a u
 | .tbl ps=>WL H h a ps
 | .met f x=>h.get? a = some (PySem.W.methodObj (.ref f) (.ref x))
 | .ext φ=>φ h∧(∃ o,h.get? a = some o)∧∀ h1 h2:Heap,φ h1→(∀ o,h1.get? a = some o→h2.get? a = some o) → φ h2
noncomputable def HOk (H:Hp) (h:Heap):Prop:=∀ a o,H a = some o→BO P w H h a o
end
section
variable {P:Program} {w:World} {H H':Hp} {h h':Heap} {a:Addr} {o:HO}
theorem BO.lt (x:BO P w H h a o):a < h.objs.size:=by
 cases o with
 | lst xs=>obtain ⟨_,_,_,_,e⟩:=x; exact lt_size e
 | tup xs=>obtain ⟨_,_,_,p⟩:=x; exact p.lt
 | dK kvs=>obtain ⟨_,_,_,_,o,_,_,e,_⟩:=x; exact lt_size e
 | dT kvs=>obtain ⟨_,_,_,_,o,_,_,e,_⟩:=x; exact lt_size e
 | set S n=>obtain ⟨o,_,_,_,e,_⟩:=x; exact lt_size e
 | ins C dx fs=>obtain ⟨_,_,_,e,_⟩:=x; exact lt_size e
 | own y=>obtain ⟨_,e⟩:=x; exact lt_size e
 | xd fs=>obtain ⟨_,⟨_,_,_,e,_⟩,_⟩:=x; exact lt_size e
 | rng lo hi=>obtain ⟨_,_,_,e⟩:=x; exact lt_size e
 | frz ob u=>obtain ⟨e,_⟩:=x; exact lt_size e
 | tbl ps=>obtain ⟨_,e,_⟩:=x; exact lt_size e
 | met f y=>exact lt_size (show h.get? a = some _ from x)
 | ext φ=>obtain ⟨_,⟨_,e⟩,_⟩:=x; exact lt_size e
theorem Paired.mapP {α β:Type} {F G:α → β → Prop} {l₁:List α} {l₂:List β} (h:Paired F l₁ l₂) (f:∀ a b,F a b→G a b):Paired G l₁ l₂:=by
 induction h with
 | nil=>exact .nil
 | cons r t ih=>exact .cons (f _ _ r) ih
theorem BO.stay (x:BO P w H h a o) (k:∀ b u,(b = a∨H b = some (.own a))→h.get? b = some u→h'.get? b = some u)
  (ho:∀ b,H b = some (.own a)→H' b = some (.own a)) (ht:∀ b xs,H b = some (.tup xs)→H' b = some (.tup xs)):BO P w H' h' a o:=by
 induction o with
 | lst xs=>obtain ⟨z,its,n,r,e⟩:=x; exact ⟨z,its,n,r,k _ _ (.inl rfl) e⟩
 | tup xs=>obtain ⟨z,its,r,ob,e,c⟩:=x; exact ⟨z,its,r,ob,k _ _ (.inl rfl) e,c⟩
 | dK kvs=>obtain ⟨z,y,vs,r,ob,es,ep,e,c⟩:=x; exact ⟨z,y,vs,r,ob,es,ep,k _ _ (.inl rfl) e,c⟩
 | dT kvs =>
  obtain ⟨z,y,xs,r,ob,es,ep,e,c⟩:=x
  exact ⟨z,y,xs,Paired.mapP r fun p q z=>⟨z.1,ht _ _ z.2.1,z.2.2⟩,ob,es,ep,k _ _ (.inl rfl) e,c⟩
 | set S n=>obtain ⟨ob,es,ep,t,e,c⟩:=x; exact ⟨ob,es,ep,t,k _ _ (.inl rfl) e,c⟩
 | ins C dx fs =>
  obtain ⟨d,z,ne,e,mA,⟨od,es,ep,e2,c⟩,r⟩:=x
  exact ⟨ho _ d,z,ne,k _ _ (.inl rfl) e,mA,⟨od,es,ep,k _ _ (.inr d) e2,c⟩,r⟩
 | own y=>obtain ⟨ob,e⟩:=x; exact ⟨ob,k _ _ (.inl rfl) e⟩
 | xd fs=>obtain ⟨mA,⟨od,es,ep,e,c⟩,r⟩:=x; exact ⟨mA,⟨od,es,ep,k _ _ (.inl rfl) e,c⟩,r⟩
 | rng lo hi=>obtain ⟨t,u,v,e⟩:=x; exact ⟨t,u,v,k _ _ (.inl rfl) e⟩
 | frz ob u ih=>obtain ⟨e,q⟩:=x; exact ⟨k _ _ (.inl rfl) e,ih q⟩
 | tbl ps =>
  obtain ⟨qs,e,tr,f⟩:=x
  refine ⟨qs,k _ _ (.inl rfl) e,tr,fun pos c hc=>?_⟩
  obtain ⟨c',oc,vs,t,q,e1,e2,e3,e4⟩:=f pos c hc
  exact ⟨c',oc,vs,t,q,e1,ho _ e2,k _ _ (.inr e2) e3,e4⟩
 | met f y =>
  have e:h.get? a = some (PySem.W.methodObj (.ref f) (.ref y)):=x
  show h'.get? a = some (PySem.W.methodObj (.ref f) (.ref y))
  exact k a _ (.inl rfl) e
 | ext φ=>obtain ⟨p,⟨o,e⟩,st⟩:=x; exact ⟨st _ _ p fun o q=>k _ _ (.inl rfl) q,⟨o,k _ _ (.inl rfl) e⟩,st⟩
theorem HOk.lt (x:HOk P w H h) (e:H a = some o):a < h.objs.size:=(x a o e).lt
theorem HOk.fresh (x:HOk P w H h) (e:h.objs.size≤a):H a = none:=by
 cases q:H a with
 | none=>rfl
 | some u=>exact absurd (lt_of_lt_of_le (x.lt q) e) (lt_irrefl _)
theorem HOk.kept (x:HOk P w H h) (k:∀ b u,h.get? b = some u→h'.get? b = some u):HOk P w H h':=fun a o e =>
 (x a o e).stay (fun b u _ q=>k b u q) (fun _ q=>q) fun _ _ q=>q
theorem HOk.laid (x:HOk P w H h) (k:∀ b u,h.get? b = some u→h'.get? b = some u) (hp:h.objs.size≤a) (new:BO P w (upd H a o) h' a o):HOk P w (upd H a o) h':=fun b u e=>by
 have hn:=x.fresh hp
 by_cases hb:b = a
 ·subst hb; rw [AK] at e; cases e; exact new
 ·rw [AH hb] at e
  exact (x b u e).stay (fun c v _ q=>k c v q) (fun c q=>by rw [AH (Dc q hn)]; exact q) fun c xs q=>by rw [AH (Dc q hn)]; exact q
end
noncomputable def Rd (H:Hp) (a:Addr) (u:HO):Prop:=H a = some u∨∃ o,H a = some (.frz o u)
theorem Rd.ok {P:Program} {w:World} {H:Hp} {h:Heap} {a:Addr} {u:HO} (r:Rd H a u) (x:HOk P w H h):BO P w H h a u:=by
 rcases r with r | ⟨o,r⟩
 ·exact x a u r
 ·obtain ⟨_,q⟩:=x a _ r
  exact q
noncomputable def Mut:Option HO→Prop
 | some (.lst _)=>True
 | some (.dK _)=>True
 | some (.dT _)=>True
 | some (.set _ _)=>True
 | some (.ins _ _ _)=>True
 | some (.ext _)=>True
 | _=>False
section
variable {P:Program} {w:World} {H:Hp} {h h':Heap} {x e:Addr} {o':HO}
theorem HOk.write (ok:HOk P w H h) (mu:Mut (H x)) (he:e = x∨H e = some (.own x)) (k:∀ b u,b≠e→h.get? b = some u→h'.get? b = some u) (heo:∃ u,h'.get? e = some u)
  (new:BO P w (upd H x o') h' x o'):HOk P w (upd H x o') h':=fun b u q=>by
 have nown:∀ c y,H c = some (.own y)→c≠x:=fun c y r z=>by subst z; rw [r] at mu; exact mu
 have ntup:∀ c xs,H c = some (.tup xs)→c≠x:=fun c xs r z=>by subst z; rw [r] at mu; exact mu
 by_cases hb:b = x
 ·subst hb; rw [AK] at q; cases q; exact new
 ·rw [AH hb] at q
  by_cases hbe:b = e
  ·have q':H b = some (.own x):=by
    rcases he with z | z
    ·exact absurd (hbe.trans z) hb
    ·rw [hbe]; exact z
   rw [q] at q'; cases q'
   obtain ⟨v,hv⟩:=heo
   exact ⟨v,by rw [hbe]; exact hv⟩
  ·refine (ok b u q).stay (fun c v hc r=>k c v ?_ r) (fun c r=>by rw [AH (nown c b r)]; exact r) fun c xs r=>by rw [AH (ntup c xs r)]; exact r
   rcases hc with rfl | hc
   ·exact hbe
   ·rintro rfl
    rcases he with z | z
    ·exact nown c b hc z
    ·rw [hc] at z; cases z; exact hb rfl
end
structure Un (fs ex:List Addr) (H H':Hp) (h h':Heap):Prop where
 keep:∀ b o,h.get? b = some o→H b = none→b ∉ fs→b ∉ ex→h'.get? b = some o
 slot:∀ b o,h.get? b = some o→H b = none→b∈fs→b ∉ ex→∃ sl,h'.get? b = some { o with slots:=sl }
 free:∀ b o,h.get? b = some o→H b = none→b ∉ ex→H' b = none
 there:∀ b o,h.get? b = some o→b ∉ ex→∃ o',h'.get? b = some o'
 tups:∀ b xs,H b = some (.tup xs)→H' b = some (.tup xs)
 frzs:∀ b o u,H b = some (.frz o u)→H' b = some (.frz o u)
 tbls:∀ b ps,H b = some (.tbl ps)→∃ more,H' b = some (.tbl (ps ++ more))
section
variable {fs fs' ex ex':List Addr} {H H1 H2:Hp} {h h1 h2 h':Heap} {a x e:Addr} {o:HO}
theorem Un.any (u:Un fs ex H H1 h h1) {b:Addr} {ob:Obj} (q:h.get? b = some ob) (n:H b = none) (hx:b ∉ ex):∃ sl,h1.get? b = some { ob with slots:=sl }:=by
 by_cases hb:b∈fs
 ·exact u.slot b ob q n hb hx
 ·exact ⟨ob.slots,u.keep b ob q n hb hx⟩
theorem Un.kept (k:∀ b u,h.get? b = some u→h'.get? b = some u):Un fs ex H H h h':=
 ⟨fun b ob q _ _ _=>k b ob q,fun b ob q _ _ _=>⟨ob.slots,k b ob q⟩,fun _ _ _ n _=>n,fun b ob q _=>⟨ob,k b ob q⟩,fun _ _ q=>q,fun _ _ _ q=>q,fun _ ps q=>⟨#[],by rw [q]; simp⟩⟩
theorem Un.refl:Un fs ex H H h h:=Un.kept fun _ _ q=>q
theorem Un.laid (k:∀ b u,h.get? b = some u→h'.get? b = some u) (hp:h.objs.size≤a) (hn:H a = none):Un fs ex H (upd H a o) h h' where
 keep:=fun b u q _ _ _=>k b u q
 slot:=fun b u q _ _ _=>⟨u.slots,k b u q⟩
 free:=fun b u q n _=>by rw [AH (ne_of_lt (lt_of_lt_of_le (lt_size q) hp))]; exact n
 there:=fun b u q _=>⟨u,k b u q⟩
 tups:=fun b xs q=>by rw [AH (Dc q hn)]; exact q
 frzs:=fun b u xs q=>by rw [AH (Dc q hn)]; exact q
 tbls:=fun b ps q=>⟨#[],by rw [AH (Dc q hn),q]; simp⟩
theorem Un.write (mu:Mut (H x)) (he:e = x∨H e = some (.own x)) (k:∀ b u,b≠e→h.get? b = some u→h'.get? b = some u) (heo:∃ u,h'.get? e = some u):Un fs ex H (upd H x o) h h':=by
 have hx:∀ b,H b = none→b≠x:=fun b n z=>by subst z; rw [n] at mu; exact mu
 have hb:∀ b,H b = none→b≠e:=fun b n z=>by
  subst z
  rcases he with r | r
  ·exact hx b n r
  ·rw [n] at r; cases r
 have hm:∀ b u,H b = some u→¬ Mut (some u)→b≠x:=fun b u q nm z=>by subst z; rw [q] at mu; exact nm mu
 refine ⟨fun b u q n _ _=>k b u (hb b n) q,fun b u q n _ _=>⟨u.slots,k b u (hb b n) q⟩,fun b u q n _=>by rw [AH (hx b n)]; exact n,fun b u q _=>?_,
  fun b xs q=>by rw [AH (hm b _ q fun z=>z)]; exact q,fun b u xs q=>by rw [AH (hm b _ q fun z=>z)]; exact q,fun b ps q=>⟨#[],by rw [AH (hm b _ q fun z=>z),q]; simp⟩⟩
 by_cases hbe:b = e
 ·subst hbe; exact heo
 ·exact ⟨u,k b u hbe q⟩
end
noncomputable def trk (h:Heap) (H:Hp):List Addr:=(List.range h.objs.size).filter fun a=>(H a).isSome
noncomputable def Jd (h:Heap) (H:Hp):Heap:=PySem.W.hideAll h (trk h H)
theorem Oo (h:Heap) (H:Hp):(Jd h H).objs.size = h.objs.size:=PySem.W.hideAll_size _ _
theorem Py {h:Heap} {H:Hp} {b:Addr} {o:Obj} (e:h.get? b = some o) (n:H b = none):(Jd h H).get? b = some o:=
 PySem.W.hideAll_get _ e fun hm=>by
  have q:(H b).isSome = true:=(mem_filter.mp hm).2
  rw [n] at q; simp at q
theorem Sa {h:Heap} {H:Hp} {b:Addr} {o:Obj} (e:(Jd h H).get? b = some o):h.get? b = some o∧H b = none:=by
 have e':h.get? b = some o:=PySem.W.of_hideAll (trk h H) e
 refine ⟨e',?_⟩
 cases q:H b with
 | none=>rfl
 | some x =>
  have hm:b∈trk h H:=mem_filter.mpr ⟨mem_range.mpr (lt_size e'),by simp [q]⟩
  have z:(Jd h H).get? b = none:=PySem.W.hideAll_none (trk h H) hm
  rw [z] at e; cases e
noncomputable def Rr (g h:Heap) (L:Addr):List (Addr × Obj):=(List.range h.objs.size).filterMap fun a=>if a = L∨(g.get? a).isSome = true then none else (h.get? a).map fun o=>(a,o)
noncomputable def rest (g h:Heap) (L d:Addr):List (Addr × Obj):=(Rr g h L).filter fun p=>decide (p.1≠d)
end L2
namespace L2
open PySem PySem.Spec PyProof.Rows
structure Mod (K:Frag) (mg:Str→Option Value) (base:Heap):Prop where
 kin:K.In base
 glob:base.Ns mainGlobals mg
 blt:∃ mb,base.Ns builtinsNs mb∧∀ x:Str,x ≠ "__name__" → mb x = bootBuiltins x
 nolimit:base.NoLimit
 bmain:∃ bm ob,mg "__builtins__" = some (.ref bm)∧bm≠builtinsNs∧base.get? bm = some ob∧ob.cls = .type "module" ∧ ob.dict = some builtinsNs∧ob.data = .plain
structure Cx where
 prog:Program
 w:World
 K:Frag
 mg:Str→Option Value
 base:Heap
 A:Around
 N:List Str
 s₀:Shared
 H₀:Hp
 env:Env
 outer:List Env
 stack:List Env
 ex:List Addr
 fn:Str→Bool
 calm:Bool
 pn:List (Addr × Obj)
 xe:Value→Shared→Prop
noncomputable def frs (l:List Env):List Addr:=l.filterMap (·.frame)
noncomputable abbrev Cx.fs (X:Cx):List Addr:=frs X.outer
noncomputable def Vis (sc:Scope) (x:Str):Prop:=sc.names.lookup x = some .local∨sc.names.lookup x = some .cell∨sc.names.lookup x = some .free
noncomputable def Loc (sc:Scope) (x:Str):Prop:=sc.names.lookup x = some .local∨sc.names.lookup x = some .cell
noncomputable def Look (env:Env) (h:Heap) (m:Str→Option Value) (x:Str) (u:Value):Prop:=
 (env.kindOf x = some .local∧m x = some u)∨((env.kindOf x = some .cell∨env.kindOf x = some .free)∧∃ c,env.cells.lookup x = some c∧h.IsCell c (some u))
structure Cx.Ok (X:Cx):Prop where
 mod:Mod X.K X.mg X.base
 kind:X.env.scope.kind = .function
 glob:X.env.globals = mainGlobals
 blt:X.env.builtins = builtinsNs
 above:X.s₀.heap.objs.size≤X.env.locals
 inj:∀ x y c,X.env.cells.lookup x = some c→X.env.cells.lookup y = some c→x = y
 has:∀ x,(X.env.kindOf x = some .cell∨X.env.kindOf x = some .free)→∃ c,X.env.cells.lookup x = some c
 cab:∀ x c,X.fn x = true→X.env.cells.lookup x = some c→X.s₀.heap.objs.size≤c
 hd:X.calm = true→X.A.handled = none
 frames:X.A.frames = some X.stack
 stk:X.stack = X.outer∨(X.stack = X.env :: X.outer∧X.env.frame = some X.env.locals)
 exf:∀ b∈X.ex,b≠X.env.locals∧∀ x c,X.env.cells.lookup x = some c→c≠b
 bs:∀ b o,X.base.get? b = some o→X.s₀.heap.get? b = some o∧X.H₀ b = none
 bsz:X.base.objs.size≤X.s₀.heap.objs.size
 noex:∀ b o,X.base.get? b = some o→b ∉ X.ex
 exfs:∀ b∈X.ex,b ∉ X.fs
 funs:X.s₀.heap.FunFrames X.base X.outer
 frf:∀ b∈X.fs,X.H₀ b = none
 tb:Oc X.K X.H₀
structure Inv (X:Cx) (pins:List (Addr × Obj)) (σ:List (Option V)) (H:Hp) (s:Shared):Prop where
 ok:X.Ok
 os:s.os = X.s₀.os
 bare:AllBare s.gens
 base:Un X.fs X.ex X.H₀ H X.s₀.heap s.heap
 loc:∃ m,s.heap.Ns X.env.locals m∧∀ (i:Nat) (x:Str) (v:V),X.N[i]? = some x → σ[i]? = some (some v)→Vis X.env.scope x→∃ u,RelV v u∧Look X.env s.heap m x u
 cell:∀ x c,X.env.cells.lookup x = some c→∃ v,s.heap.IsCell c v
 free:H X.env.locals = none
 freeC:∀ x c,X.env.cells.lookup x = some c→H c = none
 pin:∀ p∈X.pn ++ pins,s.heap.get? p.1 = some p.2∧H p.1 = none∧p.1≠X.env.locals∧p.1 ∉ X.fs∧∀ v,p.2.data ≠ .cell v
 hok:HOk X.prog X.w H s.heap
 len : σ.length = X.N.length
section
variable {X:Cx} {pins:List (Addr × Obj)} {σ:List (Option V)} {H H':Hp} {s:Shared} {h':Heap}
theorem Cx.Ok.nofr (ok:X.Ok) {b:Addr} {o:Obj} (e:X.base.get? b = some o):b ∉ X.fs:=fun hb=>by
 have:=(ok.funs.mem hb).1
 rw [e] at this; cases this
theorem Oc.grow {K:Frag} {H H':Hp} (x:Oc K H) (h:∀ b ps,H b = some (.tbl ps)→∃ more,H' b = some (.tbl (ps ++ more))):Oc K H':=fun c P e=>by
 obtain ⟨ps,e1,e2⟩:=x c P e
 obtain ⟨more,e3⟩:=h P ps e1
 refine ⟨ps ++ more,e3,?_⟩
 have hl:0 < ps.size:=by
  cases hs:ps[0]? with
  | none=>rw [hs] at e2; cases e2
  | some v=>exact (Array.getElem?_eq_some_iff.mp hs).1
 rw [Array.getElem?_append_left hl]
 exact e2
theorem Inv.tabs (I:Inv X pins σ H s):Oc X.K H:=I.ok.tb.grow I.base.tbls
theorem Inv.bs (I:Inv X pins σ H s):∀ b o,X.base.get? b = some o→s.heap.get? b = some o∧H b = none:=fun b o e =>
 ⟨I.base.keep b o (I.ok.bs b o e).1 (I.ok.bs b o e).2 (I.ok.nofr e) (I.ok.noex b o e),I.base.free b o (I.ok.bs b o e).1 (I.ok.bs b o e).2 (I.ok.noex b o e)⟩
theorem Inv.bk (I:Inv X pins σ H s):∀ b o,X.base.get? b = some o→s.heap.get? b = some o:=fun b o e=>(I.bs b o e).1
theorem Inv.mod (I:Inv X pins σ H s):Mod X.K X.mg X.base:=I.ok.mod
theorem Inv.kIn (I:Inv X pins σ H s):X.K.In s.heap:=I.ok.mod.kin.keeps I.bk
theorem Inv.nolimit (I:Inv X pins σ H s):s.heap.NoLimit:=I.ok.mod.nolimit.keeps I.bk
theorem Inv.lt (I:Inv X pins σ H s):X.env.locals < s.heap.objs.size:=let ⟨_,hn,_⟩:=I.loc; hn.lt
theorem Inv.sz (I:Inv X pins σ H s):X.s₀.heap.objs.size≤s.heap.objs.size:=le_trans I.ok.above (Nat.le_of_lt I.lt)
theorem Inv.nofs (I:Inv X pins σ H s) {a:Addr} (h:s.heap.objs.size≤a):a ∉ X.fs:=fun hb=>by
 obtain ⟨_,o,ho,_⟩:=I.ok.funs.mem hb
 exact absurd (lt_of_lt_of_le (lt_size ho) (le_trans I.sz h)) (lt_irrefl _)
theorem Inv.cne (I:Inv X pins σ H s):∀ x c,X.env.cells.lookup x = some c→c≠X.env.locals:=fun x c e z=>by
 obtain ⟨v,o,ho,hd⟩:=I.cell x c e
 obtain ⟨m,⟨o',es,ep,ho',hd',_⟩,_⟩:=I.loc
 rw [z,ho'] at ho; cases ho; rw [hd'] at hd; cases hd
theorem Inv.funs (I:Inv X pins σ H s):s.heap.FunFrames X.base X.outer:=by
 have all:∀ (l:List Env),(∀ b∈frs l,b∈X.fs)→X.s₀.heap.FunFrames X.base l→s.heap.FunFrames X.base l:=by
  intro l
  induction l with
  | nil=>intro _ _; trivial
  | cons env r ih =>
   intro hs hl
   obtain ⟨hk,⟨L,o,hf,hn,ho,hd⟩,hr⟩:=hl
   have hL:L∈X.fs:=hs L (by unfold frs; rw [List.filterMap_cons,hf]; exact mem_cons_self)
   obtain ⟨sl,e⟩:=I.base.slot L o ho (I.ok.frf L hL) hL fun z=>I.ok.exfs L z hL
   exact ⟨hk,⟨L,_,hf,hn,e,hd⟩,ih (fun b hb=>hs b (by unfold frs; rw [List.filterMap_cons,hf]; exact mem_cons_of_mem _ hb)) hr⟩
 exact all X.outer (fun _ hb=>hb) I.ok.funs
theorem Inv.stack (I:Inv X pins σ H s):s.heap.FunFrames X.base X.stack:=by
 rcases I.ok.stk with e | ⟨e,hf⟩
 ·rw [e]; exact I.funs
 ·rw [e]
  obtain ⟨m,hn,_⟩:=I.loc
  refine .cons (by rw [I.ok.kind]; decide) hf hn ?_ I.funs
  exact Heap.get?_none_of_le (le_trans I.ok.bsz I.ok.above)
theorem Inv.stkSub (I:Inv X pins σ H s):∀ b∈frs X.stack,b∈X.env.locals :: X.fs:=fun b hb=>by
 rcases I.ok.stk with e | ⟨e,hf⟩
 ·rw [e] at hb; exact mem_cons_of_mem _ hb
 ·rw [e] at hb
  unfold frs at hb
  rw [List.filterMap_cons,hf] at hb
  exact hb
theorem Inv.stkFree (I:Inv X pins σ H s):∀ b∈frs X.stack,H b = none:=fun b hb=>by
 rcases mem_cons.mp (I.stkSub b hb) with e | hb
 ·rw [e]; exact I.free
 ·obtain ⟨_,o,ho,_⟩:=I.ok.funs.mem hb
  exact I.base.free b o ho (I.ok.frf b hb) fun z=>I.ok.exfs b z hb
theorem Inv.step {g':Array GenState} {t':Nat} {d':Drawn} {ch:List Addr} (I:Inv X pins σ H s)
  (hch:∀ b∈ch,(b∈X.ex∨X.s₀.heap.objs.size≤b)∧b≠X.env.locals∧(∀ x c,X.env.cells.lookup x = some c→c≠b)∧∀ p∈X.pn ++ pins,p.1≠b)
  (keep:∀ b o,b≠X.env.locals→b ∉ X.fs→b ∉ ch→s.heap.get? b = some o→H b = none→h'.get? b = some o)
  (slot:∀ b o,b≠X.env.locals→b∈X.fs→b ∉ ch→s.heap.get? b = some o→H b = none→∃ sl,h'.get? b = some { o with slots:=sl }) (free:∀ b o,b ∉ ch→s.heap.get? b = some o→H b = none→H' b = none)
  (there:∀ b o,b ∉ ch→s.heap.get? b = some o→∃ o',h'.get? b = some o')
  (tups:∀ b xs,H b = some (.tup xs)→H' b = some (.tup xs)) (frzs:∀ b o u,H b = some (.frz o u)→H' b = some (.frz o u)) (tbls:∀ b ps,H b = some (.tbl ps)→∃ more,H' b = some (.tbl (ps ++ more)))
  (ns:∀ m,s.heap.Ns X.env.locals m→h'.Ns X.env.locals m) (hok:HOk X.prog X.w H' h') (hg:AllBare g') :
  Inv X pins σ H' { s with heap:=h',gens:=g',drawn:=d',toks:=t' }:=by
 have neL:∀ b o,X.s₀.heap.get? b = some o→b≠X.env.locals:=fun b o e=>ne_of_lt (lt_of_lt_of_le (lt_size e) I.ok.above)
 have neC:∀ b o,X.s₀.heap.get? b = some o→b ∉ X.ex→b ∉ ch:=fun b o e hx hb=>by
  rcases (hch b hb).1 with z | z
  ·exact hx z
  ·exact absurd (lt_of_lt_of_le (lt_size e) z) (lt_irrefl _)
 have cellK:∀ x c,X.env.cells.lookup x = some c→∀ v,s.heap.IsCell c v→h'.IsCell c v:=fun x c e v ⟨o,ho,hd⟩=>by
  have nch:c ∉ ch:=fun z=>(hch c z).2.2.1 x c e rfl
  by_cases hc:c∈X.fs
  ·obtain ⟨sl,q⟩:=slot c o (I.cne x c e) hc nch ho (I.freeC x c e)
   exact ⟨_,q,hd⟩
  ·exact ⟨o,keep c o (I.cne x c e) hc nch ho (I.freeC x c e),hd⟩
 refine ⟨I.ok,I.os,hg,⟨fun b o e n hb hx=>?_,fun b o e n hb hx=>?_,fun b o e n hx=>?_,fun b o e hx=>?_,fun b xs e=>tups b xs (I.base.tups b xs e),fun b o xs e=>frzs b o xs (I.base.frzs b o xs e),fun b ps e=>?_⟩,?_,fun x c e=>?_,?_,fun x c e=>?_,fun p hp=>?_,hok,I.len⟩
 ·exact keep b o (neL b o e) hb (neC b o e hx) (I.base.keep b o e n hb hx) (I.base.free b o e n hx)
 ·obtain ⟨sl,e1⟩:=I.base.slot b o e n hb hx
  obtain ⟨sl',e2⟩:=slot b _ (neL b o e) hb (neC b o e hx) e1 (I.base.free b o e n hx)
  exact ⟨sl',e2⟩
 ·obtain ⟨o',e1⟩:=I.base.there b o e hx
  exact free b o' (neC b o e hx) e1 (I.base.free b o e n hx)
 ·obtain ⟨o',e1⟩:=I.base.there b o e hx
  exact there b o' (neC b o e hx) e1
 ·obtain ⟨m1,e1⟩:=I.base.tbls b ps e
  obtain ⟨m2,e2⟩:=tbls b _ e1
  exact ⟨m1 ++ m2,by rw [e2,Array.append_assoc]⟩
 ·obtain ⟨m,hn,hl⟩:=I.loc
  refine ⟨m,ns m hn,fun i x v e1 e2 e3=>?_⟩
  obtain ⟨u,r,l⟩:=hl i x v e1 e2 e3
  refine ⟨u,r,?_⟩
  rcases l with l | ⟨k,c,e,z⟩
  ·exact .inl l
  ·exact .inr ⟨k,c,e,cellK x c e _ z⟩
 ·obtain ⟨v,z⟩:=I.cell x c e
  exact ⟨v,cellK x c e v z⟩
 ·obtain ⟨m,⟨o,_,_,ho,_⟩,_⟩:=I.loc
  exact free _ o (fun z=>(hch _ z).2.1 rfl) ho I.free
 ·obtain ⟨v,o,ho,hd⟩:=I.cell x c e
  exact free c o (fun z=>(hch c z).2.2.1 x c e rfl) ho (I.freeC x c e)
 ·obtain ⟨e,n,ne,nf,d⟩:=I.pin p hp
  have nch:p.1 ∉ ch:=fun z=>(hch p.1 z).2.2.2 p hp rfl
  exact ⟨keep p.1 p.2 ne nf nch e n,free p.1 p.2 nch e n,ne,nf,d⟩
theorem Inv.un {t':Nat} (I:Inv X pins σ H s) (u:Un X.fs [] H H' s.heap h') (hok:HOk X.prog X.w H' h'):Inv X pins σ H' { s with heap:=h',toks:=t' }:=by
 obtain ⟨m,⟨o,es,ep,ho,r⟩,_⟩:=id I.loc
 obtain ⟨sl,hL⟩:=u.any ho I.free (by simp)
 exact I.step (g':=s.gens) (d':=s.drawn) (ch:=[]) (fun _ z=>nomatch z) (fun b o _ hb _ e n=>u.keep b o e n hb (by simp)) (fun b o _ hb _ e n=>u.slot b o e n hb (by simp)) (fun b o _ e n=>u.free b o e n (by simp)) (fun b o _ e=>u.there b o e (by simp)) u.tups u.frzs u.tbls (fun m' hm=>by
  obtain ⟨o',es',ep',ho',r'⟩:=hm
  rw [ho] at ho'; cases ho'
  exact ⟨_,es',ep',hL,r'⟩) hok I.bare
theorem Inv.call {g':Array GenState} {t':Nat} {d':Drawn} {ch:List Addr} (I:Inv X pins σ H s) (u:Un (frs X.stack) ch H H' s.heap h') (hok:HOk X.prog X.w H' h') (hg:AllBare g')
  (hch:∀ b∈ch,(b∈X.ex∨X.s₀.heap.objs.size≤b)∧b≠X.env.locals∧(∀ x c,X.env.cells.lookup x = some c→c≠b)∧∀ p∈X.pn ++ pins,p.1≠b) :
  Inv X pins σ H' { s with heap:=h',gens:=g',drawn:=d',toks:=t' }:=by
 obtain ⟨m,⟨o,es,ep,ho,r⟩,_⟩:=id I.loc
 obtain ⟨sl,hL⟩:=u.any ho I.free fun z=>(hch _ z).2.1 rfl
 exact I.step (ch:=ch) hch (fun b o hL hb hc e n=>u.keep b o e n (fun z=>(mem_cons.mp (I.stkSub b z)).elim hL hb) hc) (fun b o _ _ hc e n=>u.any e n hc) (fun b o hc e n=>u.free b o e n hc) (fun b o hc e=>u.there b o e hc) u.tups u.frzs u.tbls (fun m' hm=>by
  obtain ⟨o',es',ep',ho',r'⟩:=hm
  rw [ho] at ho'; cases ho'
  exact ⟨_,es',ep',hL,r'⟩) hok hg
theorem Inv.turned {t':Nat} {it:Addr} (I:Inv X pins σ H s) (k:∀ b o,b≠it→s.heap.get? b = some o→h'.get? b = some o) (hn:H it = none) (hL:it≠X.env.locals)
  (h1:it∈X.ex∨X.s₀.heap.objs.size≤it) (h2:∀ x c,X.env.cells.lookup x = some c→c≠it) (h3:∀ p∈X.pn ++ pins,p.1≠it):Inv X pins σ H { s with heap:=h',toks:=t' }:=by
 have nit:∀ b u,H b = some u→b≠it:=fun b u e z=>by rw [z,hn] at e; cases e
 refine I.step (g':=s.gens) (d':=s.drawn) (ch:=[it]) (fun b hb=>?_) (fun b o _ _ hc e _=>k b o (fun z=>hc (by simp [z])) e) (fun b o _ _ hc e _=>⟨o.slots,k b o (fun z=>hc (by simp [z])) e⟩) (fun _ _ _ _ n=>n)
  (fun b o hc e=>⟨o,k b o (fun z=>hc (by simp [z])) e⟩) (fun _ _ e=>e) (fun _ _ _ e=>e) (fun b ps e=>⟨#[],by rw [e]; simp⟩) (fun m hm=>?_) (fun b u e=>?_) I.bare
 ·have e:b = it:=by simpa using hb
  subst e
  exact ⟨h1,hL,h2,h3⟩
 ·obtain ⟨o,es,ep,ho,r⟩:=hm
  exact ⟨o,es,ep,k _ o (Ne.symm hL) ho,r⟩
 ·refine (I.hok b u e).stay (fun c v hc q=>k c v ?_ q) (fun _ q=>q) fun _ _ q=>q
  rcases hc with z | z
  ·rw [z]; exact nit b u e
  ·exact nit c _ z
theorem Inv.tok (I:Inv X pins σ H s) (t:Nat):Inv X pins σ H { s with toks:=t }:=I.un (h':=s.heap) (t':=t) Un.refl I.hok
theorem Inv.kept {t':Nat} (I:Inv X pins σ H s) (k:∀ b u,s.heap.get? b = some u→h'.get? b = some u):Inv X pins σ H { s with heap:=h',toks:=t' }:=I.un (Un.kept k) (I.hok.kept k)
theorem Inv.laid {a:Addr} {o:HO} {t':Nat} (I:Inv X pins σ H s) (k:∀ b u,s.heap.get? b = some u→h'.get? b = some u) (hp:s.heap.objs.size≤a) (new:BO X.prog X.w (upd H a o) h' a o) :
  Inv X pins σ (upd H a o) { s with heap:=h',toks:=t' }:=I.un (Un.laid k hp (I.hok.fresh hp)) (I.hok.laid k hp new)
theorem Inv.write {x e:Addr} {o:HO} {t':Nat} (I:Inv X pins σ H s) (mu:Mut (H x)) (he:e = x∨H e = some (.own x)) (k:∀ b u,b≠e→s.heap.get? b = some u→h'.get? b = some u) (heo:∃ u,h'.get? e = some u)
  (new:BO X.prog X.w (upd H x o) h' x o):Inv X pins σ (upd H x o) { s with heap:=h',toks:=t' }:=I.un (Un.write mu he k heo) (I.hok.write mu he k heo new)
theorem Inv.pins_of {pins':List (Addr × Obj)} (I:Inv X pins σ H s) (h:∀ p∈pins',s.heap.get? p.1 = some p.2∧H p.1 = none∧p.1≠X.env.locals∧p.1 ∉ X.fs∧∀ v,p.2.data ≠ .cell v):Inv X pins' σ H s:=
 ⟨I.ok,I.os,I.bare,I.base,I.loc,I.cell,I.free,I.freeC,fun p hp=>(mem_append.mp hp).elim (fun z=>I.pin p (mem_append_left _ z)) (h p),I.hok,I.len⟩
theorem LA {N:List Str} (hN:N.Nodup) {i j:Nat} {x:Str} (a:N[i]? = some x) (b:N[j]? = some x):i = j:=by
 obtain ⟨h1,e1⟩:=List.getElem?_eq_some_iff.mp a
 obtain ⟨h2,e2⟩:=List.getElem?_eq_some_iff.mp b
 exact (List.getElem_inj hN).mp (e1.trans e2.symm)
theorem O0 {M:Model} {A:Around} {E:Value→Shared→Prop} {i:Nat} {x:Str} {v:V} {u:Value} {Q:Unit→Shared→Prop} (I:Inv X pins σ H s) (hN:X.N.Nodup) (hi:X.N[i]? = some x) (hx:Loc X.env.scope x) (r:RelV v u)
  (h:∀ s',Inv X pins (σ.set i (some v)) H s'→(∃ a,Heap.SameBut a s.heap s'.heap∧(a = X.env.locals∨X.env.cells.lookup x = some a))→Q () s') (hf:X.fn x = true∨X.env.scope.names.lookup x = some .local:=by first | exact .inl rfl | exact .inr rfl | assumption):wpAny M A (storeName X.env x u) Q E s:=by
 obtain ⟨m,hn,hl⟩:=id I.loc
 have hcls:(X.env.scope.kind == .class || (X.env.scope.kind == .module && X.env.locals != X.env.globals)) = false:=by rw [I.ok.kind]; rfl
 have hiσ:i < σ.length:=by rw [I.len]; exact (List.getElem?_eq_some_iff.mp hi).1
 have cne:=I.cne
 have tracked:∀ {a:Addr} {h':Heap},(∃ o,s.heap.get? a = some o∧H a = none)→Heap.SameBut a s.heap h'→HOk X.prog X.w H h':=fun {a h'} ha hs b ob e=>by
  obtain ⟨_,_,hfree⟩:=ha
  refine (I.hok b ob e).stay (fun c w' hc q=>(hs.2 c ?_).trans q) (fun _ q=>q) fun _ _ q=>q
  rintro rfl
  rcases hc with rfl | hc
  ·rw [hfree] at e; cases e
  ·rw [hfree] at hc; cases hc
 rcases hx with hk | hk
 ·refine wpAny_storeName_local hk hn (fun h' hn' hs=>?_) hcls
  obtain ⟨oL,_,_,hoL,_⟩:=id hn
  refine h _ ⟨I.ok,I.os,I.bare,⟨fun b o e n hb hx=>?_,fun b o e n hb hx=>?_,I.base.free,fun b o e hx=>?_,I.base.tups,I.base.frzs,I.base.tbls⟩,⟨_,hn',fun j y v' e1 e2 e3=>?_⟩,fun y c e=>?_,I.free,I.freeC,fun p hp=>?_,tracked ⟨oL,hoL,I.free⟩ hs,by simpa using I.len⟩ ⟨_,hs,.inl rfl⟩
  ·exact (hs.2 b (ne_of_lt (lt_of_lt_of_le (lt_size e) I.ok.above))).trans (I.base.keep b o e n hb hx)
  ·obtain ⟨sl,e1⟩:=I.base.slot b o e n hb hx
   exact ⟨sl,(hs.2 b (ne_of_lt (lt_of_lt_of_le (lt_size e) I.ok.above))).trans e1⟩
  ·obtain ⟨o',e1⟩:=I.base.there b o e hx
   exact ⟨o',(hs.2 b (ne_of_lt (lt_of_lt_of_le (lt_size e) I.ok.above))).trans e1⟩
  ·by_cases hj:j = i
   ·subst hj
    rw [hi] at e1; cases e1
    rw [getElem?_set_self hiσ] at e2
    cases e2
    exact ⟨u,r,.inl ⟨hk,by simp⟩⟩
   ·rw [getElem?_set_ne (Ne.symm hj)] at e2
    obtain ⟨u',r',q⟩:=hl j y v' e1 e2 e3
    refine ⟨u',r',?_⟩
    rcases q with ⟨k,e⟩ | ⟨k,c,e,z⟩
    ·refine .inl ⟨k,?_⟩
     have:y≠x:=fun e=>hj (LA hN e1 (e ▸ hi))
     simp [this,e]
    ·exact .inr ⟨k,c,e,z.sameBut hs (cne y c e)⟩
  ·obtain ⟨w',z⟩:=I.cell y c e
   exact ⟨w',z.sameBut hs (cne y c e)⟩
  ·obtain ⟨e,n,ne,nf,d⟩:=I.pin p hp
   exact ⟨(hs.2 p.1 ne).trans e,n,ne,nf,d⟩
 ·have hfn:X.fn x = true:=by
   rcases hf with z | z
   ·exact z
   ·rw [z] at hk; cases hk
  obtain ⟨c,hc⟩:=I.ok.has x (.inl hk)
  obtain ⟨w',z⟩:=I.cell x c hc
  refine wpAny_storeName_cell I.ok.kind hk hc z (fun h' hc' hs=>?_)
  obtain ⟨oc,hoc,hocd⟩:=id z
  refine h { s with heap:=h' } ⟨I.ok,I.os,I.bare,⟨fun b o e n hb hx=>?_,fun b o e n hb hx=>?_,I.base.free,fun b o e hx=>?_,I.base.tups,I.base.frzs,I.base.tbls⟩,⟨m,hn.sameBut hs (Ne.symm (cne x c hc)),fun j y v' e1 e2 e3=>?_⟩,fun y c' e=>?_,I.free,I.freeC,fun p hp=>?_,tracked ⟨oc,hoc,I.freeC x c hc⟩ hs,by simpa using I.len⟩ ⟨c,hs,.inr hc⟩
  ·exact (hs.2 b (ne_of_lt (lt_of_lt_of_le (lt_size e) (I.ok.cab x c hfn hc)))).trans (I.base.keep b o e n hb hx)
  ·obtain ⟨sl,e1⟩:=I.base.slot b o e n hb hx
   exact ⟨sl,(hs.2 b (ne_of_lt (lt_of_lt_of_le (lt_size e) (I.ok.cab x c hfn hc)))).trans e1⟩
  ·obtain ⟨o',e1⟩:=I.base.there b o e hx
   exact ⟨o',(hs.2 b (ne_of_lt (lt_of_lt_of_le (lt_size e) (I.ok.cab x c hfn hc)))).trans e1⟩
  ·by_cases hj:j = i
   ·subst hj
    rw [hi] at e1; cases e1
    rw [getElem?_set_self hiσ] at e2
    cases e2
    exact ⟨u,r,.inr ⟨.inl hk,c,hc,hc'⟩⟩
   ·rw [getElem?_set_ne (Ne.symm hj)] at e2
    obtain ⟨u',r',q⟩:=hl j y v' e1 e2 e3
    refine ⟨u',r',?_⟩
    rcases q with q | ⟨k,c',e,z'⟩
    ·exact .inl q
    ·refine .inr ⟨k,c',e,z'.sameBut hs ?_⟩
     rintro rfl
     exact hj (LA hN e1 (I.ok.inj _ _ _ e hc ▸ hi))
  ·by_cases hcc:c' = c
   ·subst hcc; exact ⟨_,hc'⟩
   ·obtain ⟨w2,z2⟩:=I.cell y c' e
    exact ⟨w2,z2.sameBut hs hcc⟩
  ·obtain ⟨e,n,ne,nf,d⟩:=I.pin p hp
   refine ⟨(hs.2 p.1 ?_).trans e,n,ne,nf,d⟩
   intro q
   rw [q,hoc] at e
   have q':oc = p.2:=Option.some.inj e
   exact d w' (by rw [← q']; exact hocd)
theorem GJ {M:Model} {A:Around} {E:Value→Shared→Prop} {i:Nat} {x:Str} {v:V} {u:Value} {Q:Unit→Shared→Prop} (I:Inv X pins σ H s) (hN:X.N.Nodup) (hi:X.N[i]? = some x) (hx:Loc X.env.scope x) (r:RelV v u)
  (h:∀ s',Inv X pins (σ.set i (some v)) H s'→Q () s') (hf:X.fn x = true∨X.env.scope.names.lookup x = some .local:=by first | exact .inl rfl | exact .inr rfl | assumption):wpAny M A (storeName X.env x u) Q E s:=
 O0 I hN hi hx r (fun s' I' _=>h s' I') hf
theorem Inv.call' {s':Shared} {ch:List Addr} (I:Inv X pins σ H s) (ho:s'.os = s.os) (u:Un (frs X.stack) ch H H' s.heap s'.heap) (hok:HOk X.prog X.w H' s'.heap) (hg:AllBare s'.gens)
  (hch:∀ b∈ch,(b∈X.ex∨X.s₀.heap.objs.size≤b)∧b≠X.env.locals∧(∀ x c,X.env.cells.lookup x = some c→c≠b)∧∀ p∈X.pn ++ pins,p.1≠b):Inv X pins σ H' s':=by
 obtain ⟨h',g',d',t',o'⟩:=s'
 have e:o' = s.os:=ho
 subst e
 exact I.call (g':=g') (t':=t') (d':=d') u hok hg hch
end
noncomputable abbrev XK:=Value→Option Addr→Hp→Prop
noncomputable abbrev St:=List (Option V)
noncomputable abbrev VK:=V→Hp→Prop
noncomputable abbrev TE:=St→Hp→VK→Prop
noncomputable abbrev TT:=St→Hp→(Bool→Hp→Prop)→Prop
noncomputable abbrev TA:=St→Hp→(List V→Hp→Prop)→Prop
structure Ends where
 nx:St→Hp→Prop
 rt:VK
 bk:St→Hp→Prop:=fun _ _=>False
 ct:St→Hp→Prop:=fun _ _=>False
noncomputable abbrev TS:=Ends→St→Hp→Prop
noncomputable def EP (X:Cx) (pins:List (Addr × Obj)) (σ:St) (Q:VK) (u:Value) (s':Shared):Prop:=∃ v H',Inv X pins σ H' s'∧RelV v u∧Q v H'
noncomputable def TP (X:Cx) (pins:List (Addr × Obj)) (σ:St) (Q:Bool→Hp→Prop) (b:Bool) (s':Shared):Prop:=∃ H',Inv X pins σ H' s'∧Q b H'
noncomputable def AP (X:Cx) (pins:List (Addr × Obj)) (σ:St) (Q:List V→Hp→Prop) (us:List Value) (s':Shared):Prop:=∃ vs H',Inv X pins σ H' s'∧Vals vs us∧Q vs H'
noncomputable def SP (X:Cx) (pins:List (Addr × Obj)) (D:Ends) (f:Flow) (s':Shared):Prop:=
 match f with
 | .next=>∃ σ' H',Inv X pins σ' H' s'∧D.nx σ' H'
 | .brk=>∃ σ' H',Inv X pins σ' H' s'∧D.bk σ' H'
 | .cont=>∃ σ' H',Inv X pins σ' H' s'∧D.ct σ' H'
 | .ret u=>∃ v σ' H',Inv X pins σ' H' s'∧RelV v u∧D.rt v H'
noncomputable def PE (X:Cx) (e:Expr) (t:TE):Prop:=
 ∀ (pins:List (Addr × Obj)) (s:Shared) (σ:St) (H:Hp) (Q:VK),Inv X pins σ H s→t σ H Q→wpAny (model X.prog X.w) X.A (eval e X.env) (EP X pins σ Q) X.xe s
noncomputable def PT (X:Cx) (e:Expr) (t:TT):Prop:=
 ∀ (pins:List (Addr × Obj)) (s:Shared) (σ:St) (H:Hp) (Q:Bool→Hp→Prop),Inv X pins σ H s→t σ H Q→wpAny (model X.prog X.w) X.A (isTrue e X.env (eval e X.env)) (TP X pins σ Q) X.xe s
noncomputable def PW (X:Cx) (e:Expr) (t:TT):Prop:=
 ∀ (whole:Sem Value) (pins:List (Addr × Obj)) (s:Shared) (σ:St) (H:Hp) (Q:Bool→Hp→Prop),Inv X pins σ H s→t σ H Q→wpAny (model X.prog X.w) X.A (isTrue e X.env whole) (TP X pins σ Q) X.xe s
theorem PW.pt {X:Cx} {e:Expr} {t:TT} (h:PW X e t):PT X e t:=h _
noncomputable def PA (X:Cx) (es:List Expr) (t:TA):Prop:=
 ∀ (pos:Pos) (pins:List (Addr × Obj)) (s:Shared) (σ:St) (H:Hp) (Q:List V→Hp→Prop),Inv X pins σ H s→t σ H Q→wpAny (model X.prog X.w) X.A (spliced (backTo pos (starEach es X.env))) (AP X pins σ Q) X.xe s
noncomputable def PS (X:Cx) (st:Stmt) (t:TS):Prop:=
 ∀ (pins:List (Addr × Obj)) (s:Shared) (σ:St) (H:Hp) (D:Ends),Inv X pins σ H s→t D σ H→wpAny (model X.prog X.w) X.A (exec st X.env) (SP X pins D) X.xe s
noncomputable def PSs (X:Cx) (st:List Stmt) (t:TS):Prop:=
 ∀ (pins:List (Addr × Obj)) (s:Shared) (σ:St) (H:Hp) (D:Ends),Inv X pins σ H s→t D σ H→wpAny (model X.prog X.w) X.A (execs st X.env) (SP X pins D) X.xe s
theorem thn {α:Type} {t:Sem α} {Q Q':α → Shared→Prop} {M:Model} {A:Around} {E:Value→Shared→Prop} {s:Shared} (h:wpAny M A t Q E s) (hQ:∀ a s,Q a s→Q' a s):wpAny M A t Q' E s:=wpAny_mono h hQ fun _ _ x=>x
end L2
namespace L2
open PySem PySem.Spec PyProof.Rows
section
variable {X:Cx}
noncomputable def Nc (i:Nat):TE:=fun σ H Q=>∃ v,σ[i]? = some (some v)∧Q v H
noncomputable def tC (v:V):TE:=fun _ H Q=>Q v H
theorem F0 {i:Nat} {x:Str} {pos:Pos} (hN:X.N[i]? = some x) (hv:Vis X.env.scope x) (hd:(x == ("__debug__" : Str)) = false:=by decide) (hcd:(x == ("__classdict__" : Str)) = false:=by decide):PE X (.Name x pos) (Nc i):=by
 intro pins s σ H Q I h
 obtain ⟨v,e,h⟩:=h
 obtain ⟨m,hn,hl⟩:=I.loc
 obtain ⟨u,r,l⟩:=hl i x v hN e hv
 have fin:EP X pins σ Q u s:=⟨v,H,I,r,h⟩
 rcases l with ⟨hk,hm⟩ | ⟨hk,c,hc,hcell⟩
 ·exact wpAny_Name (wpAny_loadName_local I.ok.kind hk hn hm fin) hd
 ·rcases hk with hk | hk
  ·exact wpAny_Name (wpAny_loadName_cell I.ok.kind hk hc hcell fin) hd
  ·exact wpAny_Name (wpAny_loadName_free I.ok.kind hk hc hcell fin hcd) hd
theorem Qp {i j pos}:PE X (.Constant (.int i) j pos) (tC (.int i)):=fun _ _ _ H _ I h=>wpAny_Constant_int ⟨.int i,H,I.tok _,⟨_,rfl⟩,h⟩
theorem Xf {b j pos}:PE X (.Constant (.bool b) j pos) (tC (.bl b)):=fun _ _ _ H _ I h=>Constant_bool ⟨.bl b,H,I,rfl,h⟩
theorem Vz {j pos}:PE X (.Constant .none j pos) (tC .non):=fun _ _ _ H _ I h=>Constant_none ⟨.non,H,I,rfl,h⟩
theorem VE {x j pos}:PE X (.Constant (.str x) j pos) (tC (.str x)):=fun _ _ _ H _ I h=>Calls.Constant_str ⟨.str x,H,I.tok _,⟨_,rfl⟩,h⟩
noncomputable def Gl (X:Cx) (x:Str):Prop:=X.env.kindOf x = some .globalImplicit
theorem ND {E:Value→Shared→Prop} {pins:List (Addr × Obj)} {s:Shared} {σ:St} {H:Hp} {x:Str} {u:Value} {pos:Pos} {Q:Value→Shared→Prop} (I:Inv X pins σ H s) (hg:Gl X x) (hm:X.mg x = some u) (h:Q u s)
  (hd:(x == ("__debug__" : Str)) = false:=by decide):wpAny (model X.prog X.w) X.A (eval (.Name x pos) X.env) Q E s:=
 Calls.Name_function_global I.ok.kind hg (Calls.loadGlobal_global (by rw [I.ok.glob]; exact I.mod.glob.keeps I.bk) hm h) hd
theorem G0 {E:Value→Shared→Prop} {pins:List (Addr × Obj)} {s:Shared} {σ:St} {H:Hp} {x:Str} {u:Value} {pos:Pos} {Q:Value→Shared→Prop} (I:Inv X pins σ H s) (hg:Gl X x) (hm:X.mg x = none) (hv:bootBuiltins x = some u) (h:Q u s)
  (hn:x ≠ "__name__" := by decide) (hd:(x == ("__debug__" : Str)) = false:=by decide):wpAny (model X.prog X.w) X.A (eval (.Name x pos) X.env) Q E s:=by
 obtain ⟨mb,h1,h2⟩:=I.mod.blt
 exact Calls.Name_function_global I.ok.kind hg (Calls.loadGlobal_builtin (by rw [I.ok.glob]; exact I.mod.glob.keeps I.bk) hm (by rw [I.ok.blt]; exact h1.keeps I.bk) ((h2 x hn).trans hv) h) hd
theorem Sy {x:Str} {v:V} {u:Value} {pos:Pos} (hg:Gl X x) (hm:X.mg x = some u) (r:RelV v u) (hd:(x == ("__debug__" : Str)) = false:=by decide):PE X (.Name x pos) (tC v):=
 fun _ _ _ H _ I h=>ND I hg hm ⟨v,H,I,r,h⟩ hd
theorem GC {x:Str} {v:V} {u:Value} {pos:Pos} (hg:Gl X x) (hm:X.mg x = none) (hv:bootBuiltins x = some u) (r:RelV v u) (hn:x ≠ "__name__" := by decide) (hd:(x == ("__debug__" : Str)) = false:=by decide):PE X (.Name x pos) (tC v):=
 fun _ _ _ H _ I h=>G0 I hg hm hv ⟨v,H,I,r,h⟩ hn hd
variable {a b:Expr} {ta tb:TE} {pos:Pos}
noncomputable def PC (X:Cx) (op:CmpOp) (a b:Expr) (t:TE):Prop:=
 ∀ (pins:List (Addr × Obj)) (s:Shared) (σ:St) (H:Hp) (Q:VK),Inv X pins σ H s→t σ H Q →
  wpAny (model X.prog X.w) X.A (eval a X.env) (fun v s₁=>wpAny (model X.prog X.w) X.A (eval b X.env) (fun u s₂=>wpAny (model X.prog X.w) X.A (compareOp op v u) (EP X pins σ Q) X.xe s₂) X.xe s₁) X.xe s
noncomputable def tB (t:TE):TT:=fun σ H Q=>t σ H fun x H1=>∃ c,x = .bl c∧Q c H1
theorem Vp {op:CmpOp} {t:TE} (h:PC X op a b t) (h1:behindInMarks op b = false:=by first | exact nobehind _ (by decide) (by decide) | rfl):PE X (.Compare a [op] [b] pos) t:=fun pins s σ H Q I hw=>wpAny_Compare1 (h pins s σ H Q I hw) h1
theorem VP {op:CmpOp} {t:TE} (h:PC X op a b t) (h1:behindInMarks op b = false:=by first | exact nobehind _ (by decide) (by decide) | rfl):PT X (.Compare a [op] [b] pos) (tB t):=by
 intro pins s σ H Q I hw
 refine wpAny_isTrue_Compare1 (thn (h pins s σ H _ I hw) fun v s1 h1=>thn h1 fun u s2 h2=>thn h2 fun c s3 yy=>?_) h1
 obtain ⟨x,H1,I1,r1,q1⟩:=yy
 obtain ⟨d,rfl,q⟩:=q1
 cases r1
 exact wpAny_truthy_bool ⟨H1,I1,q⟩
theorem VR {e:Expr} {t:TE} (h:PE X e t) (he:∀ whole,isTrue e X.env whole = (do let v ← whole; standAt e.pos; holding [v] (truthy v)):=by intro _; rfl):PT X e (tB t):=by
 intro pins s σ H Q I hw
 refine isTrue_plain (thn (h pins s σ H _ I hw) fun v s1 ⟨x,H1,I1,r1,q1⟩=>?_) (he _)
 obtain ⟨d,rfl,q⟩:=q1
 cases r1
 exact wpAny_truthy_bool ⟨H1,I1,q⟩
variable {tA tB':TT} {rest:List Expr}
noncomputable def X3 (t u:TT):TT:=fun σ H Q=>t σ H fun c H1=>if c = true then u σ H1 Q else Q false H1
noncomputable def tOr (t u:TT):TT:=fun σ H Q=>t σ H fun c H1=>if c = true then Q true H1 else u σ H1 Q
noncomputable def X7 (t:TT):TT:=fun σ H Q=>t σ H fun c H1=>Q (!c) H1
theorem SR (ha:PT X a tA):PW X (.BoolOp .And [a] pos) tA:=by
 intro wh pins s σ H Q I h
 refine isTrue_and (thn (ha pins s σ H Q I h) fun c s1 e=>?_)
 cases c with
 | true=>exact isTrue_and_nil e
 | false=>exact e
theorem VW (ha:PT X a tA):PW X (.BoolOp .Or [a] pos) tA:=by
 intro wh pins s σ H Q I h
 refine isTrue_or (thn (ha pins s σ H Q I h) fun c s1 e=>?_)
 cases c with
 | false=>exact isTrue_or_nil e
 | true=>exact e
theorem VU (ha:PT X a tA) (hb:PW X (.BoolOp .And (b :: rest) pos) tB'):PW X (.BoolOp .And (a :: b :: rest) pos) (X3 tA tB'):=by
 intro wh pins s σ H Q I h
 refine isTrue_and (thn (ha pins s σ H _ I h) fun c s1 yy=>?_)
 obtain ⟨H1,I1,q1⟩:=yy
 cases c with
 | true=>exact hb wh pins s1 σ H1 Q I1 q1
 | false=>exact ⟨H1,I1,q1⟩
theorem Xl (ha:PT X a tA) (hb:PW X (.BoolOp .Or (b :: rest) pos) tB'):PW X (.BoolOp .Or (a :: b :: rest) pos) (tOr tA tB'):=by
 intro wh pins s σ H Q I h
 refine isTrue_or (thn (ha pins s σ H _ I h) fun c s1 yy=>?_)
 obtain ⟨H1,I1,q1⟩:=yy
 cases c with
 | true=>exact ⟨H1,I1,q1⟩
 | false=>exact hb wh pins s1 σ H1 Q I1 q1
theorem VQ (ha:PT X a tA):PT X (.UnaryOp .Not a pos) (X7 tA):=by
 intro pins s σ H Q I h
 exact isTrue_not (ha pins s σ H (fun c H1=>Q (!c) H1) I h)
noncomputable def Xy (ta tb:TE):TE:=fun σ H Q=>ta σ H fun x H1=>∃ c,x = .bl c∧if c = true then tb σ H1 Q else Q (.bl false) H1
noncomputable def XE (ta:TE):TE:=fun σ H Q=>ta σ H fun x H1=>∃ c,x = .bl c∧Q (.bl (!c)) H1
theorem VB {op} {t:TE} (h:PE X a t):PE X (.BoolOp op [a] pos) t:=fun pins s σ H Q I hw=>BoolOp_one (h pins s σ H Q I hw)
theorem Vo (ha:PE X a ta) (hb:PE X (.BoolOp .And (b :: rest) pos) tb):PE X (.BoolOp .And (a :: b :: rest) pos) (Xy ta tb):=by
 intro pins s σ H Q I h
 refine BoolOp_and (thn (ha pins s σ H _ I h) fun v s1 yy=>?_)
 obtain ⟨x,H1,I1,r1,q1⟩:=yy
 obtain ⟨c,rfl,q1⟩:=q1
 cases r1
 refine wpAny_truthy_bool ?_
 cases c with
 | true=>exact hb pins s1 σ H1 Q I1 q1
 | false=>exact ⟨.bl false,H1,I1,rfl,q1⟩
theorem VA (ha:PE X a ta):PE X (.UnaryOp .Not a pos) (XE ta):=by
 intro pins s σ H Q I h
 refine UnaryOp_ (thn (ha pins s σ H _ I h) fun v s1 yy=>?_)
 obtain ⟨x,H1,I1,r1,q1⟩:=yy
 obtain ⟨c,rfl,q1⟩:=q1
 cases r1
 exact not_of (wpAny_truthy_bool ⟨.bl (!c),H1,I1,rfl,q1⟩)
end
end L2
namespace L2
open PySem PySem.Spec PyProof.Rows
noncomputable def SqL (K:Frag) (H:Hp) (a:Addr) (xs:List V):Prop:=
 Rd H a (.lst xs) ∨
  ∃ (o:Obj) (its:Array Value) (n:Nat),K.lookup a = some o∧o.cls = .type "list" ∧ o.dict = none∧o.data = .seq its n∧its.size≤sizeLine∧Vals xs its.toList
noncomputable def SqT (K:Frag) (H:Hp) (a:Addr) (xs:List V):Prop:=
 Rd H a (.tup xs) ∨
  ∃ (o:Obj) (its:Array Value) (n:Nat),K.lookup a = some o∧o.cls = .type "tuple" ∧ o.data = .seq its n∧its.size≤sizeLine∧Vals xs its.toList
noncomputable def XU:Value→Option V
 | .none=>some .non
 | .bool b=>some (.bl b)
 | .int i _=>some (.int i)
 | .str x _=>some (.str x)
 | .bytes b _=>some (.byt b)
 | .float b _=>some (.flt b)
 | .ref a=>some (.ref a)
 | .type n=>some (.ty n)
 | _=>none
theorem RelV.abs {x:V} {u:Value} (r:RelV x u):XU u = some x:=by
 cases x with
 | non=>cases r; rfl
 | bl _=>cases r; rfl
 | int _=>obtain ⟨t,rfl⟩:=r; rfl
 | str _=>obtain ⟨t,rfl⟩:=r; rfl
 | byt _=>obtain ⟨t,rfl⟩:=r; rfl
 | flt _=>obtain ⟨t,rfl⟩:=r; rfl
 | ref _=>cases r; rfl
 | ty _=>cases r; rfl
theorem RelV.inj {x y:V} {u:Value} (r:RelV x u) (q:RelV y u):x = y:=Option.some.inj (r.abs.symm.trans q.abs)
theorem Vals.inj {xs ys:List V} {us:List Value} (h:Vals xs us):Vals ys us→xs = ys:=by
 induction h generalizing ys with
 | nil=>intro q; cases q; rfl
 | cons r t ih =>
  intro q
  cases q with
  | cons r' t'=>rw [r.inj r',ih t']
section
variable {X:Cx} {pins:List (Addr × Obj)} {σ:St} {H:Hp} {s:Shared} {a:Addr} {xs ys:List V}
theorem Inv.list (I:Inv X pins σ H s) (h:SqL X.K H a xs):∃ its:List Value,Vals xs its∧PlainL s.heap a its.toArray∧xs.length≤sizeLine:=by
 rcases h with h | ⟨o,its,n,hk,hc,hd,hs,hz,r⟩
 ·obtain ⟨z,its,n,r,e⟩:=h.ok I.hok
  exact ⟨its,r,⟨_,n,e,rfl,rfl,rfl⟩,z⟩
 ·refine ⟨its.toList,r,⟨o,n,I.kIn a o hk,hc,hd,by simpa using hs⟩,?_⟩
  have e:=r.length
  simp only [Array.length_toList] at e
  lia
theorem Inv.tuple (I:Inv X pins σ H s) (h:SqT X.K H a xs):∃ its:List Value,Vals xs its∧IsTup s.heap a its.toArray∧xs.length≤sizeLine:=by
 rcases h with h | ⟨o,its,n,hk,hc,hs,hz,r⟩
 ·obtain ⟨z,its,r,p⟩:=h.ok I.hok
  exact ⟨its,r,p,z⟩
 ·refine ⟨its.toList,r,⟨o,I.kIn a o hk,hc,n,by simpa using hs⟩,?_⟩
  have e:=r.length
  simp only [Array.length_toList] at e
  lia
theorem Inv.list_inj (I:Inv X pins σ H s) (h:SqL X.K H a xs) (h':SqL X.K H a ys):xs = ys:=by
 obtain ⟨its,r,⟨o,n,e,_,_,d⟩,_⟩:=I.list h
 obtain ⟨its',r',⟨o',n',e',_,_,d'⟩,_⟩:=I.list h'
 rw [e] at e'; cases e'
 rw [d] at d'
 injection d' with d1 _
 have:its = its':=by simpa using congrArg Array.toList d1
 subst this
 exact r.inj r'
theorem Inv.tuple_inj (I:Inv X pins σ H s) (h:SqT X.K H a xs) (h':SqT X.K H a ys):xs = ys:=by
 obtain ⟨its,r,⟨o,e,_,n,d⟩,_⟩:=I.tuple h
 obtain ⟨its',r',⟨o',e',_,n',d'⟩,_⟩:=I.tuple h'
 rw [e] at e'; cases e'
 rw [d] at d'
 injection d' with d1 _
 have:its = its':=by simpa using congrArg Array.toList d1
 subst this
 exact r.inj r'
end
noncomputable abbrev Cx.wish (X:Cx) (E:Value→Shared→Prop):Cx:={ X with xe:=E }
noncomputable abbrev Cx.nox (X:Cx):Cx:=X.wish fun _ _=>False
theorem Cx.Ok.wish {X:Cx} (ok:X.Ok) (E:Value→Shared→Prop):(X.wish E).Ok:=
 ⟨ok.mod,ok.kind,ok.glob,ok.blt,ok.above,ok.inj,ok.has,ok.cab,ok.hd,ok.frames,ok.stk,ok.exf,ok.bs,ok.bsz,ok.noex,ok.exfs,ok.funs,ok.frf,ok.tb⟩
theorem Cx.Ok.unwish {X:Cx} {E:Value→Shared→Prop} (ok:(X.wish E).Ok):X.Ok:=
 ⟨ok.mod,ok.kind,ok.glob,ok.blt,ok.above,ok.inj,ok.has,ok.cab,ok.hd,ok.frames,ok.stk,ok.exf,ok.bs,ok.bsz,ok.noex,ok.exfs,ok.funs,ok.frf,ok.tb⟩
section
variable {X:Cx} {pins:List (Addr × Obj)} {σ:St} {H:Hp} {s:Shared} {E:Value→Shared→Prop}
theorem Inv.wish (I:Inv X pins σ H s) (E:Value→Shared→Prop):Inv (X.wish E) pins σ H s:=⟨I.ok.wish E,I.os,I.bare,I.base,I.loc,I.cell,I.free,I.freeC,I.pin,I.hok,I.len⟩
theorem Inv.unwish (I:Inv (X.wish E) pins σ H s):Inv X pins σ H s:=⟨I.ok.unwish,I.os,I.bare,I.base,I.loc,I.cell,I.free,I.freeC,I.pin,I.hok,I.len⟩
theorem SP.unwish {D:Ends} {f:Flow} {s':Shared} (h:SP (X.wish E) pins D f s'):SP X pins D f s':=by
 cases f with
 | next=>obtain ⟨σ',H',I,q⟩:=h; exact ⟨σ',H',I.unwish,q⟩
 | brk=>obtain ⟨σ',H',I,q⟩:=h; exact ⟨σ',H',I.unwish,q⟩
 | cont=>obtain ⟨σ',H',I,q⟩:=h; exact ⟨σ',H',I.unwish,q⟩
 | ret u=>obtain ⟨v,σ',H',I,r,q⟩:=h; exact ⟨v,σ',H',I.unwish,r,q⟩
theorem PSs.nox {st:List Stmt} {t:TS} (h:PSs X.nox st t):PSs X st t:=fun pins s σ H D I hw =>
 wpAny_mono (h pins s σ H D (I.wish _) hw) (fun _ _ q=>q.unwish) fun _ _ z=>False.elim z
end
section
variable {X:Cx} {st:Stmt} {rest:List Stmt} {t u:TS} {e:Expr} {te:TE} {pos:Pos}
noncomputable def Ue:TS:=fun D σ H=>D.nx σ H
noncomputable def XI (t u:TS):TS:=fun D σ H=>t { D with nx:=u D } σ H
theorem SJ:PSs X [] Ue:=fun _ _ σ H _ I h=>wpAny_execs_nil ⟨σ,H,I,h⟩
theorem Qy (h1:PS X st t) (h2:PSs X rest u):PSs X (st :: rest) (XI t u):=by
 intro pins s σ H D I h
 refine wpAny_execs_cons (thn (h1 pins s σ H { D with nx:=u D } I h) fun f s1 q=>?_)
 cases f with
 | next =>
  obtain ⟨σ',H',I',q⟩:=q
  exact h2 pins s1 σ' H' D I' q
 | ret v=>exact q
 | brk=>exact q
 | cont=>exact q
theorem SK (h1:PS X st t):PSs X [st] t:=by
 intro pins s σ H D I h
 refine wpAny_execs_cons (thn (h1 pins s σ H D I h) fun f s1 q=>?_)
 cases f with
 | next=>exact wpAny_execs_nil q
 | ret v=>exact q
 | brk=>exact q
 | cont=>exact q
theorem Inv.quiet {pins:List (Addr × Obj)} {σ:St} {H:Hp} {s:Shared} (I:Inv X pins σ H s):interactive X.env = false:=by simp [interactive,I.ok.kind]
noncomputable def N8 (te:TE):TS:=fun D σ H=>te σ H fun _ H1=>D.nx σ H1
theorem Kx (he:PE X e te) (hs:swapsWith e none pos.line X.env = pure false:=by rfl):PS X (.Expr e pos) (N8 te):=by
 intro pins s σ H D I h
 exact wpAny_Expr_any (thn (he pins s σ H _ I h) fun v s1 ⟨x,H1,I1,r1,q1⟩=>⟨σ,H1,I1,q1⟩) I.quiet hs
noncomputable def XG (te:TE):TS:=fun D σ H=>te σ H D.rt
theorem VN (he:PE X e te):PS X (.Return (some e) pos) (XG te):=by
 intro pins s σ H D I h
 exact wpAny_Return_some (thn (he pins s σ H _ I h) fun v s1 ⟨x,H1,I1,r1,q1⟩=>⟨x,σ,H1,I1,r1,q1⟩)
noncomputable def XC (c:TT) (t u:TS):TS:=fun D σ H=>c σ H fun b H1=>if b = true then t D σ H1 else u D σ H1
theorem Xk {c:Expr} {a b:List Stmt} {tc:TT} (hc:PT X c tc) (ha:PSs X a t) (hb:PSs X b u):PS X (.If c a b pos) (XC tc t u):=by
 intro pins s σ H D I h
 refine wpAny_If (thn (hc pins s σ H _ I h) fun d s1 yy=>?_)
 obtain ⟨H1,I1,q1⟩:=yy
 cases d with
 | true=>exact ha pins s1 σ H1 D I1 q1
 | false=>exact hb pins s1 σ H1 D I1 q1
end
noncomputable abbrev TG:=V→St→Hp→(St→Hp→Prop)→Prop
noncomputable abbrev TGs:=List V→St→Hp→(St→Hp→Prop)→Prop
noncomputable def PG (X:Cx) (target:Expr) (t:TG):Prop:=
 ∀ (pins:List (Addr × Obj)) (s:Shared) (σ:St) (H:Hp) (v:V) (u:Value) (Q:St→Hp→Prop),Inv X pins σ H s→RelV v u→t v σ H Q →
  wpAny (model X.prog X.w) X.A (assign target X.env u) (fun _ s'=>∃ σ' H',Inv X pins σ' H' s'∧Q σ' H') X.xe s
noncomputable def PGs (X:Cx) (ts:List Expr) (t:TGs):Prop:=
 ∀ (pins:List (Addr × Obj)) (s:Shared) (σ:St) (H:Hp) (vs:List V) (us:List Value) (Q:St→Hp→Prop),Inv X pins σ H s→Vals vs us→t vs σ H Q →
  wpAny (model X.prog X.w) X.A (assignInOrder ((assignEach ts X.env).map (·.2)) us) (fun _ s'=>∃ σ' H',Inv X pins σ' H' s'∧Q σ' H') X.xe s
noncomputable abbrev Uk:=V→V→V→Hp→(Hp→Prop)→Prop
noncomputable def WI (X:Cx) (t:Uk):Prop:=
 ∀ (pins:List (Addr × Obj)) (s:Shared) (σ:St) (H:Hp) (o i v:V) (ov iv u:Value) (Q:Hp→Prop),Inv X pins σ H s→RelV o ov→RelV i iv→RelV v u→t o i v H Q →
  wpAny (model X.prog X.w) X.A (setItem ov iv u) (fun _ s'=>∃ H',Inv X pins σ H' s'∧Q H') X.xe s
noncomputable abbrev TIp:=V→V→Hp→VK→Prop
noncomputable def PIp (X:Cx) (op:Operator) (t:TIp):Prop:=
 ∀ (pins:List (Addr × Obj)) (s:Shared) (σ:St) (H:Hp) (x y:V) (v u:Value) (Q:VK),Inv X pins σ H s→RelV x v→RelV y u→t x y H Q →
  wpAny (model X.prog X.w) X.A (inplaceOp op v u) (EP X pins σ Q) X.xe s
section
variable {X:Cx} {pos:Pos}
noncomputable def Lh (i:Nat):TG:=fun v σ H Q=>Q (σ.set i (some v)) H
theorem HG {i:Nat} {x:Str} (hN:X.N.Nodup) (hi:X.N[i]? = some x) (hx:Loc X.env.scope x) (hf:X.fn x = true∨X.env.scope.names.lookup x = some .local:=by first | exact .inl rfl | exact .inr rfl | assumption):PG X (.Name x pos) (Lh i):=by
 intro pins s σ H v u Q I r h
 exact wpAny_assign_Name (GJ I hN hi hx r (fun s' I'=>⟨_,H,I',h⟩) hf)
noncomputable def WU:TGs:=fun vs σ H Q=>vs = []∧Q σ H
noncomputable def TV (t:TG) (u:TGs):TGs:=fun vs σ H Q=>∃ v r,vs = v :: r∧t v σ H fun σ' H'=>u r σ' H' Q
theorem NQ:PGs X [] WU:=by
 intro pins s σ H vs us Q I r h
 obtain ⟨e,h⟩:=h
 subst e
 cases r
 exact assignInOrder_nil ⟨σ,H,I,h⟩
theorem IE {e:Expr} {es:List Expr} {t:TG} {u:TGs} (h1:PG X e t) (h2:PGs X es u)
  (hs:(assignEach (e :: es) X.env).map (·.2) = assign e X.env :: (assignEach es X.env).map (·.2):=by rfl):PGs X (e :: es) (TV t u):=by
 intro pins s σ H vs us Q I r h
 obtain ⟨v,vr,e1,h⟩:=h
 subst e1
 cases r with
 | cons r rr =>
  rw [hs]
  refine assignInOrder_cons (thn (h1 pins s σ H _ _ _ I r h) fun _ s1 yy=>?_)
  obtain ⟨σ1,H1,I1,q1⟩:=yy
  exact h2 pins s1 σ1 H1 _ _ Q I1 rr q1
noncomputable def UE (K:Frag) (n:Nat) (t:TGs):TG:=fun v σ H Q=>∃ a xs,v = .ref a∧SqT K H a xs∧xs.length = n∧t xs σ H Q
theorem Qq {es:List Expr} {k:Nat} {t:TGs} {n:Nat} (hc:X.calm = true) (h:PGs X es t)
  (hn:(assignEach es X.env).length = n:=by rfl) (hst:(assignEach es X.env).findIdx? (·.1) = none:=by rfl):PG X (.Tuple es k pos) (UE X.K n t):=by
 intro pins s σ H v u Q I r hw
 obtain ⟨a,xs,e1,hq,hl,hw⟩:=hw
 subst e1
 cases r
 obtain ⟨its,rv,ht,hz⟩:=I.tuple hq
 refine assign_Tuple_tuple (I.ok.hd hc) ht (by simp [hn,← hl,rv.length]) hst fun h' hx=>?_
 have I1:Inv X pins σ H { s with heap:=h' }:=I.kept (t':=s.toks) fun b o e=>hx b o (ne_of_lt (lt_size e)) e
 exact h pins _ σ H xs _ Q I1 (by simpa using rv) hw
noncomputable def WV (to ti:TE) (t:Uk):TG:=fun v σ H Q=>to σ H fun o H1=>ti σ H1 fun i H2=>t o i v H2 fun H3=>Q σ H3
theorem VG {o i:Expr} {to ti:TE} {t:Uk} (ho:PE X o to) (hi:PE X i ti) (hs:WI X t)
  (ha:∀ v,assign (.Subscript o i pos) X.env v = (do
   let ov ← holding [v] (eval o X.env)
   let iv ← holding [v,ov] (eval i X.env)
   standAt pos
   holding [v,ov,iv] (setItem ov iv v)
   release [v,ov,iv] []):=by intro _; rfl):PG X (.Subscript o i pos) (WV to ti t):=by
 intro pins s σ H v u Q I r h
 rw [ha]
 refine wpAny_bind (wpAny_holding (thn (ho pins s σ H _ I h) fun ov s1 yy=>?_))
 obtain ⟨x,H1,I1,r1,q1⟩:=yy
 refine wpAny_bind (wpAny_holding (thn (hi pins s1 σ H1 _ I1 q1) fun iv s2 yy=>?_))
 obtain ⟨y,H2,I2,r2,q2⟩:=yy
 refine wpAny_bind (wpAny_standAt (wpAny_bind (wpAny_holding (thn (hs pins s2 σ H2 x y v ov iv u _ I2 r1 r2 r q2) fun _ s3 yy=>?_))))
 obtain ⟨H3,I3,q3⟩:=yy
 exact wpAny_release ⟨σ,H3,I3,q3⟩
noncomputable def Q6 (te:TE) (g:TG):TS:=fun D σ H=>te σ H fun x H1=>g x σ H1 D.nx
theorem Qw {tg e:Expr} {te:TE} {g:TG} (he:PE X e te) (hg:PG X tg g) (hs:swapsWithSole [tg] e pos.line X.env = pure false:=by rfl) (hw:swappedStores [tg] e X.env = pure none:=by rfl)
  (h1:(assignEach [tg] X.env).map (·.2) = [assign tg X.env]:=by rfl):PS X (.Assign [tg] e pos) (Q6 te g):=by
 intro pins s σ H D I h
 refine wpAny_Assign_stores (thn (he pins s σ H _ I h) fun v s1 yy=>?_) hs hw
 obtain ⟨x,H1,I1,r1,q1⟩:=yy
 rw [h1]
 exact thn (hg pins s1 σ H1 x v _ I1 r1 q1) fun _ s2 q=>q
theorem VO {i:Nat} {x:Str} {e:Expr} {te:TE} {pos':Pos} (hN:X.N.Nodup) (hi:X.N[i]? = some x) (hx:Loc X.env.scope x) (he:PE X e te) (hs:swapsWith e (some (.Name x pos')) pos.line X.env = pure false:=by rfl) (hf:X.fn x = true∨X.env.scope.names.lookup x = some .local:=by first | exact .inl rfl | exact .inr rfl | assumption) :
  PS X (.Assign [.Name x pos'] e pos) (Q6 te (Lh i)):=by
 intro pins s σ H D I h
 refine wpAny_Assign_Name (thn (he pins s σ H _ I h) fun v s1 yy=>?_) hs
 obtain ⟨y,H1,I1,r1,q1⟩:=yy
 exact GJ I1 hN hi hx r1 (fun s2 I2=>⟨_,H1,I2,q1⟩) hf
noncomputable def X4 (i:Nat) (te:TE) (ti:TIp):TS:=fun D σ H=>∃ x,σ[i]? = some (some x)∧te σ H fun y H1=>ti x y H1 fun z H2=>D.nx (σ.set i (some z)) H2
theorem VL {i:Nat} {x:Str} {e:Expr} {te:TE} {op:Operator} {ti:TIp} {pos':Pos} (hN:X.N.Nodup) (hi:X.N[i]? = some x) (hx:Loc X.env.scope x) (he:PE X e te) (ho:PIp X op ti) (hf:X.fn x = true∨X.env.scope.names.lookup x = some .local:=by first | exact .inl rfl | exact .inr rfl | assumption) :
  PS X (.AugAssign (.Name x pos') op e pos) (X4 i te ti):=by
 intro pins s σ H D I h
 obtain ⟨v,e1,h⟩:=h
 obtain ⟨m,hn,hl⟩:=I.loc
 have vis:Vis X.env.scope x:=by rcases hx with k | k; exact .inl k; exact .inr (.inl k)
 obtain ⟨u,r,l⟩:=hl i x v hi e1 vis
 refine wpAny_AugAssign_Name ?_
 have go:wpAny (model X.prog X.w) X.A (eval e X.env) (fun w s₂=>wpAny (model X.prog X.w) X.A (inplaceOp op u w) (fun r s₃=>wpAny (model X.prog X.w) X.A (storeName X.env x r) (fun _=>SP X pins D .next) X.xe s₃) X.xe s₂) X.xe s:=by
  refine thn (he pins s σ H _ I h) fun w s1 yy=>?_
  obtain ⟨y,H1,I1,r1,q1⟩:=yy
  refine thn (ho pins s1 σ H1 v y u w _ I1 r r1 q1) fun z s2 yy=>?_
  obtain ⟨zv,H2,I2,r2,q2⟩:=yy
  exact GJ I2 hN hi hx r2 (fun s3 I3=>⟨_,H2,I3,q2⟩) hf
 rcases l with ⟨hk,hm⟩ | ⟨hk,c,hc,hcell⟩
 ·exact wpAny_loadName_local I.ok.kind hk hn hm go
 ·rcases hk with hk | hk
  ·exact wpAny_loadName_cell I.ok.kind hk hc hcell go
  ·rcases hx with k | k
   ·have:X.env.scope.names.lookup x = some .free:=hk
    rw [k] at this; cases this
   ·have:X.env.scope.names.lookup x = some .free:=hk
    rw [k] at this; cases this
noncomputable def ipI (f:Int→Int→Int):TIp:=fun x y H Q=>∃ i j,x = .int i∧y = .int j∧Q (.int (f i j)) H
theorem UH:PIp X .Add (ipI fun i j=>i + j):=by
 intro pins s σ H x y v u Q I r1 r2 h
 obtain ⟨i,j,e1,e2,q⟩:=h
 subst e1; subst e2
 obtain ⟨t,rfl⟩:=r1
 obtain ⟨t',rfl⟩:=r2
 exact iadd_int ⟨.int _,H,I.tok _,⟨_,rfl⟩,q⟩
end
section
variable {X:Cx} {pos:Pos}
noncomputable def Rf (c:TT) (tb:TS):TS:=fun D σ H=>∃ W:Nat→St→Hp→Prop,(∃ m,W m σ H)∧∀ m σ H,W m σ H →
 c σ H fun b H1=>if b = true then ∃ N:St→Hp→Prop,(∀ σ' H',N σ' H'→∃ m',m' < m∧W m' σ' H')∧tb { D with nx:=N,ct:=N,bk:=D.nx } σ H1 else D.nx σ H1
theorem Qx {c:Expr} {body:List Stmt} {tc:TT} {tb:TS} (hp:PassesOwn (model X.prog X.w) X.A X.env X.xe) (hc:PT X c tc) (hb:PSs X body tb):PS X (.While c body [] pos) (Rf tc tb):=by
 intro pins s σ H D I h
 obtain ⟨W,⟨m0,w0⟩,turn⟩:=h
 refine wpAny_While (codeAny_whileLoop (fun n s'=>∃ σ' H',Inv X pins σ' H' s'∧W n σ' H') ?_ m0 ⟨σ,H,I,w0⟩)
 rintro n s1 ⟨σ1,H1,I1,w1⟩
 refine wpAny_passesOwn hp (thn (hc pins s1 σ1 H1 _ I1 (turn n σ1 H1 w1)) fun b s2 yy=>?_)
 obtain ⟨H2,I2,q2⟩:=yy
 cases b with
 | true =>
  obtain ⟨N,hN,q2⟩:=q2
  rw [if_pos rfl]
  refine wpAny_passesOwn hp (thn (hb pins s2 σ1 H2 _ I2 q2) fun f s3 q3=>?_)
  cases f with
  | next =>
   obtain ⟨σ3,H3,I3,n3⟩:=q3
   obtain ⟨m',hm,w3⟩:=hN σ3 H3 n3
   exact ⟨m',hm,σ3,H3,I3,w3⟩
  | cont =>
   obtain ⟨σ3,H3,I3,n3⟩:=q3
   obtain ⟨m',hm,w3⟩:=hN σ3 H3 n3
   exact ⟨m',hm,σ3,H3,I3,w3⟩
  | brk=>exact q3
  | ret v=>exact q3
 | false =>
  rw [if_neg Bool.false_ne_true]
  exact wpAny_execs_nil ⟨σ1,H2,I2,q2⟩
end
structure It where
 go:Nat→Hp→Prop
 yld:Nat→Hp→V→Hp→Prop
 stop:Nat→Hp→Prop
noncomputable def Ga (X:Cx) (pins:List (Addr × Obj)) (H:Hp) (b:Addr):Prop:=
 H b = none∧b≠X.env.locals∧b ∉ X.fs∧(b∈X.ex∨X.s₀.heap.objs.size≤b)∧(∀ x c,X.env.cells.lookup x = some c→c≠b)∧∀ p∈X.pn ++ pins,p.1≠b
theorem Inv.fpOk {X:Cx} {pins:List (Addr × Obj)} {σ:St} {H H':Hp} {s:Shared} {b:Addr} (I:Inv X pins σ H s) (hb:s.heap.objs.size≤b) (hn:H' b = none):Ga X pins H' b:=by
 refine ⟨hn,Nat.ne_of_gt (lt_of_lt_of_le I.lt hb),I.nofs hb,.inr (le_trans I.sz hb),fun x c e z=>?_,fun p hp z=>?_⟩
 ·obtain ⟨v,q⟩:=I.cell x c e
  exact absurd (lt_of_lt_of_le q.lt (by rw [z]; exact hb)) (lt_irrefl _)
 ·exact absurd (lt_of_lt_of_le (lt_size (I.pin p hp).1) (by rw [z]; exact hb)) (lt_irrefl _)
structure Turn (P:Program) (w:World) (K:Frag) (tg:Expr) (J:It) (fp:List Addr) (it:Addr) (tn:Nat→Heap→Prop):Prop where
 mem:it∈fp
 obj:∀ i h,tn i h→∀ b∈fp,∃ o,h.get? b = some o∧∀ v,o.data ≠ .cell v
 keep:∀ i h h',tn i h→(∀ b∈fp,∀ o,h.get? b = some o→h'.get? b = some o)→tn i h'
 item:∀ (X:Cx),X.prog = P→X.w = w→X.K = K→X.calm = true→∀ (i:Nat) (pins:List (Addr × Obj)) (s:Shared) (σ:St) (H:Hp) (E:Value→Shared→Prop),Inv X pins σ H s→(∀ b∈fp,Ga X pins H b)→tn i s.heap→J.go i H →
  wpAny (model P w) X.A (pyNext (.ref it)) (fun r s1=>∃ u,r = some u ∧
   wpAny (model P w) X.A (letOwnedTupleGo tg (.ref it) u) (fun _ s2=>∃ x H',Inv X pins σ H' s2∧RelV x u∧J.yld i H x H'∧tn (i + 1) s2.heap∧∀ b∈fp,H' b = none) E s1) E s
 done:∀ (X:Cx),X.prog = P→X.w = w→X.K = K→X.calm = true→∀ (i:Nat) (pins:List (Addr × Obj)) (s:Shared) (σ:St) (H:Hp) (E:Value→Shared→Prop),Inv X pins σ H s→(∀ b∈fp,Ga X pins H b)→tn i s.heap→J.stop i H →
  wpAny (model P w) X.A (pyNext (.ref it)) (fun r s1=>r = none∧Inv X pins σ H s1) E s
 self:∀ (A:Around) (i:Nat) (s:Shared) (Q:Value→Shared→Prop) (E:Value→Shared→Prop),tn i s.heap→Q (.ref it) s→wpAny (model P w) A (pyIter (.ref it)) Q E s
noncomputable abbrev TI:=St→Hp→(It→Hp→Prop)→Prop
noncomputable def PIE (X:Cx) (pins:List (Addr × Obj)) (σ:St) (tg:Expr) (R:It→Hp→Prop) (itv:Value) (s2:Shared):Prop:=
 ∃ (it:Addr) (fp:List Addr) (tn:Nat→Heap→Prop) (J:It) (H':Hp),itv = .ref it∧Inv X pins σ H' s2∧Turn X.prog X.w X.K tg J fp it tn∧tn 0 s2.heap∧(∀ b∈fp,Ga X pins H' b)∧R J H'
noncomputable def PI (X:Cx) (tg iter:Expr) (wi:TI):Prop:=
 ∀ (pins:List (Addr × Obj)) (s:Shared) (σ:St) (H:Hp) (R:It→Hp→Prop),Inv X pins σ H s→wi σ H R →
  wpAny (model X.prog X.w) X.A (eval iter X.env) (fun v s1=>wpAny (model X.prog X.w) X.A (pyIter v) (PIE X pins σ tg R) X.xe s1) X.xe s
theorem Nv {M:Model} {A:Around} {E:Value→Shared→Prop} {s:Shared} {tg:Expr} {it:Addr} {u:Value} {o:Obj} {n:String} {vs:Array Value} {Q:Unit→Shared→Prop} (ho:s.heap.get? it = some o) (hc:o.cls = .type n) (hd:o.data = .fields vs)
  (hn:["enumerate","zip","dict_itemiterator","dict_reverseitemiterator","odict_iterator","itertools.zip_longest","itertools.pairwise"].contains n = false) (hQ:Q () s):wpAny M A (letOwnedTupleGo tg (.ref it) u) Q E s:=by
 unfold letOwnedTupleGo
 cases tg <;> first
  | exact wpAny_pure hQ
  | (cases u <;> first
    | exact wpAny_pure hQ
    | (refine wpAny_bind (wpAny_load ho ?_)
       rw [hc,hd]
       show wpAny M A (if (["enumerate","zip","dict_itemiterator","dict_reverseitemiterator","odict_iterator","itertools.zip_longest","itertools.pairwise"].contains n && vs[0]? == some (rawInt _)) = true then _ else _) Q E s
       rw [if_neg (by intro h; rw [hn,Bool.false_and] at h; cases h)]
       exact wpAny_pure hQ))
noncomputable def Itl (K:Frag) (a:Addr):It:=
 ⟨fun i H=>∃ xs x,SqL K H a xs∧xs[i]? = some x,fun i H x H'=>H' = H∧∀ xs,SqL K H a xs→xs[i]? = some x,fun i H=>∃ xs,SqL K H a xs∧xs.length≤i⟩
noncomputable def Itt (K:Frag) (a:Addr):It:=
 ⟨fun i H=>∃ xs x,SqT K H a xs∧xs[i]? = some x,fun i H x H'=>H' = H∧∀ xs,SqT K H a xs→xs[i]? = some x,fun i H=>∃ xs,SqT K H a xs∧xs.length≤i⟩
noncomputable def Itr (lo:Int) (n:Nat):It:=⟨fun i _=>i < n,fun i H x H'=>H' = H∧x = .int (lo + i),fun i _=>n≤i⟩
theorem O3 {P:Program} {w:World} {K:Frag} {tg:Expr} (a it:Addr):Turn P w K tg (Itl K a) [it] it (fun i h=>h.IsListIter it a i) where
 mem:=by simp
 obj:=fun i h st b hb=>by
  have e:b = it:=by simpa using hb
  subst e
  obtain ⟨o,e,c,d⟩:=st
  exact ⟨o,e,fun v z=>by rw [d] at z; cases z⟩
 keep:=fun i h h' st k=>st.at fun o e=>k it (by simp) o e
 item:=by
  intro X hP hw hK hc i pins s σ H E I hf st hg
  subst hP hw hK
  obtain ⟨xs,x,hq,hx⟩:=hg
  obtain ⟨its,rv,p,hz⟩:=I.list hq
  obtain ⟨u,hu,ru⟩:=rv.get hx
  obtain ⟨f0,f1,f2,f3,f4,f5⟩:=hf it (by simp)
  refine wpAny_pyNext_list_item st p.isList (x:=u) (by simpa using hu) fun h' st' sb=>?_
  have I1:Inv X pins σ H { s with heap:=h' }:=I.turned (t':=s.toks) (fun b o hb e=>(sb.2 b hb).trans e) f0 f1 f3 f4 f5
  obtain ⟨o,e,c,d⟩:=id st'
  exact ⟨u,rfl,Nv (s:={ s with heap:=h' }) e c d (by decide) ⟨x,H,I1,ru,⟨rfl,fun ys hy=>by rw [I.list_inj hy hq]; exact hx⟩,st',fun b hb=>(hf b hb).1⟩⟩
 done:=by
  intro X hP hw hK hc i pins s σ H E I hf st hg
  subst hP hw hK
  obtain ⟨xs,hq,hx⟩:=hg
  obtain ⟨its,rv,p,hz⟩:=I.list hq
  obtain ⟨f0,f1,f2,f3,f4,f5⟩:=hf it (by simp)
  have hl:=rv.length
  exact wpAny_pyNext_list_end (I.ok.hd hc) st p.isList (by simp; lia) fun h' eb=>⟨rfl,I.turned (t':=s.toks) (fun b o hb e=>eb b o hb e) f0 f1 f3 f4 f5⟩
 self:=fun _ _ _ _ _ st h=>wpAny_pyIter_listiter st h
theorem Nf {P:Program} {w:World} {K:Frag} {tg:Expr} (a it:Addr):Turn P w K tg (Itt K a) [it] it (fun i h=>h.IsTupleIter it a i) where
 mem:=by simp
 obj:=fun i h st b hb=>by
  have e:b = it:=by simpa using hb
  subst e
  obtain ⟨o,e,c,d⟩:=st
  exact ⟨o,e,fun v z=>by rw [d] at z; cases z⟩
 keep:=fun i h h' st k=>st.at fun o e=>k it (by simp) o e
 item:=by
  intro X hP hw hK hc i pins s σ H E I hf st hg
  subst hP hw hK
  obtain ⟨xs,x,hq,hx⟩:=hg
  obtain ⟨its,rv,p,hz⟩:=I.tuple hq
  obtain ⟨u,hu,ru⟩:=rv.get hx
  obtain ⟨f0,f1,f2,f3,f4,f5⟩:=hf it (by simp)
  refine wpAny_pyNext_tuple_item st (show s.heap.IsTuple a its.toArray from p) (x:=u) (by simpa using hu) fun h' st' sb=>?_
  have I1:Inv X pins σ H { s with heap:=h' }:=I.turned (t':=s.toks) (fun b o hb e=>(sb.2 b hb).trans e) f0 f1 f3 f4 f5
  obtain ⟨o,e,c,d⟩:=id st'
  exact ⟨u,rfl,Nv (s:={ s with heap:=h' }) e c d (by decide) ⟨x,H,I1,ru,⟨rfl,fun ys hy=>by rw [I.tuple_inj hy hq]; exact hx⟩,st',fun b hb=>(hf b hb).1⟩⟩
 done:=by
  intro X hP hw hK hc i pins s σ H E I hf st hg
  subst hP hw hK
  obtain ⟨xs,hq,hx⟩:=hg
  obtain ⟨its,rv,p,hz⟩:=I.tuple hq
  obtain ⟨f0,f1,f2,f3,f4,f5⟩:=hf it (by simp)
  have hl:=rv.length
  exact wpAny_pyNext_tuple_end (I.ok.hd hc) st (show s.heap.IsTuple a its.toArray from p) (by simp; lia) fun h' eb=>⟨rfl,I.turned (t':=s.toks) (fun b o hb e=>eb b o hb e) f0 f1 f3 f4 f5⟩
 self:=fun _ _ _ _ _ st h=>wpAny_pyIter_tupleiter st h
theorem Nd {P:Program} {w:World} {K:Frag} {tg:Expr} (it:Addr) (lo:Int) (n:Nat):Turn P w K tg (Itr lo n) [it] it (fun i h=>IsRangeIter h it (lo + (i:Nat) * 1) ((n:Int) - (i:Nat)) 1) where
 mem:=by simp
 obj:=fun i h st b hb=>by
  have e:b = it:=by simpa using hb
  subst e
  exact ⟨_,st,fun v z=>by
   have z':Data.fields _ = Data.cell v:=z
   cases z'⟩
 keep:=fun i h h' st k=>k it (by simp) _ st
 item:=by
  intro X hP hw hK hc i pins s σ H E I hf st hg
  subst hP hw hK
  obtain ⟨f0,f1,f2,f3,f4,f5⟩:=hf it (by simp)
  have W:=Walks.range (prog:=X.prog) (w:=X.w) (I.ok.hd hc) it lo 1 n
  refine W.item i s _ _ hg st fun v h' tk hv st' kk=>?_
  obtain ⟨t,rfl⟩:=hv
  have I1:Inv X pins σ H { s with heap:=h',toks:=tk }:=I.turned (fun b o hb e=>kk b o (by simpa using hb) e) f0 f1 f3 f4 f5
  refine ⟨_,rfl,Nv (s:={ s with heap:=h',toks:=tk }) (n := "range_iterator") st' rfl rfl (by decide) ⟨.int (lo + i),H,I1,⟨t,?_⟩,⟨rfl,rfl⟩,st',fun b hb=>(hf b hb).1⟩⟩
  rw [Int.mul_one]
 done:=by
  intro X hP hw hK hc i pins s σ H E I hf st hg
  subst hP hw hK
  obtain ⟨f0,f1,f2,f3,f4,f5⟩:=hf it (by simp)
  exact wpAny_pyNext_range_end (I.ok.hd hc) st (by have:n≤i:=hg; lia) fun h' eb=>⟨rfl,I.turned (t':=s.toks) (fun b o hb e=>eb b o hb e) f0 f1 f3 f4 f5⟩
 self:=fun _ _ _ _ _ st h=>wpAny_pyIter_rangeiter st h
end L2
namespace L2
open PySem PySem.Spec PyProof.Rows
section
variable {X:Cx} {tg:Expr}
theorem QE {pins:List (Addr × Obj)} {σ:St} {H:Hp} {s:Shared} {R:It→Hp→Prop} {E:Value→Shared→Prop} {lo hi:Int} {t u v:Tok} {tk:Nat} (I:Inv X pins σ H s) (h1 : -(2 ^ 62)≤lo) (h2:lo < 2 ^ 62) (h3 : -(2 ^ 62)≤hi) (h4:hi < 2 ^ 62)
  (q:R (Itr lo (hi - lo).toNat) H):wpAny (model X.prog X.w) X.A (pyIter (.ref s.heap.objs.size)) (PIE X pins σ tg R) E { s with heap:=s.heap.push { cls:=.type "range",data:=.fields #[.int lo t,.int hi u,.int 1 v] },toks:=tk }:=by
 refine wpAny_pyIter_range (IsRange.new ..) (small_one h1 h2 h3 h4) ?_
 have I1:Inv X pins σ H { s with heap:=s.heap.push { cls:=.type "range",data:=.fields #[.int lo t,.int hi u,.int 1 v] },toks:=tk }:=I.kept fun b o e=>get?_push_of_some _ e
 refine ⟨(s.heap.push { cls:=.type "range",data:=.fields #[.int lo t,.int hi u,.int 1 v] }).objs.size,[(s.heap.push { cls:=.type "range",data:=.fields #[.int lo t,.int hi u,.int 1 v] }).objs.size],_,_,H,rfl,
  I1.kept (t':=tk) fun b o e=>get?_push_of_some _ e,Nd _ lo (hi - lo).toNat,?_,fun b hb=>?_,q⟩
 ·have e1:lo + ((0:Nat):Int) * 1 = lo:=by simp
  have e2:(((hi - lo).toNat:Nat):Int) - ((0:Nat):Int) = Builtin.Range.rangeSize lo hi 1:=by rw [rangeSize_one]; split <;> lia
  show IsRangeIter _ _ (lo + ((0:Nat):Int) * 1) ((((hi - lo).toNat:Nat):Int) - ((0:Nat):Int)) 1
  rw [e1,e2]
  exact get?_push_size _ rfl
 ·have e:b = (s.heap.push { cls:=.type "range",data:=.fields #[.int lo t,.int hi u,.int 1 v] }).objs.size:=by simpa using hb
  subst e
  exact I1.fpOk (le_refl _) (I1.hok.fresh (le_refl _))
noncomputable def TY (ta:TA):TI:=fun σ H R=>ta σ H fun vs H1=>∃ j:Int,vs = [.int j] ∧ -(2 ^ 62)≤j∧j < 2 ^ 62∧R (Itr 0 j.toNat) H1
theorem OR {a:Expr} {ta:TA} {p pos:Pos} (hg:Gl X "range") (hm:X.mg "range" = none) (ha:PA X [a] ta) (hs:starEach [a] X.env = [(false,eval a X.env)]:=by rfl):PI X tg (.Call (.Name "range" p) [a] [] pos) (TY ta):=by
 intro pins s σ H R I h
 refine Call_ (G0 I hg hm boot_range (PyProof.Rows.callWith_type1 (thn (ha pos pins s σ H _ I h) fun us s1 ⟨vs,H1,I1,r1,q1⟩=>?_) hs rfl))
 obtain ⟨j,e,q1,q2,q⟩:=q1
 subst e
 cases r1 with
 | cons r rr =>
  cases rr
  obtain ⟨t,rfl⟩:=r
  exact call_range_1 (QE I1 (by lia) (by lia) q1 q2 (by simpa using q))
noncomputable def XB (wi:TI) (g:TG) (tb:TS):TS:=fun D σ H=>wi σ H fun J H1=>∃ W:Nat→Nat→St→Hp→Prop,(∃ m,W 0 m σ H1)∧∀ i m σ H,W i m σ H →
 (J.stop i H∧D.nx σ H)∨(J.go i H∧∃ N:St→Hp→Prop,(∀ σ' H',N σ' H'→∃ m',m' < m∧W (i + 1) m' σ' H')∧∀ x H',J.yld i H x H'→g x σ H' fun σ2 H2=>tb { D with nx:=N,ct:=N,bk:=D.nx } σ2 H2)
noncomputable def IF (fp:List Addr) (h:Heap):List (Addr × Obj):=fp.filterMap fun b=>(h.get? b).map fun o=>(b,o)
theorem EO {fp:List Addr} {h:Heap} {b:Addr} {o:Obj} (hb:b∈fp) (e:h.get? b = some o):(b,o)∈IF fp h:=List.mem_filterMap.mpr ⟨b,hb,by rw [e]; rfl⟩
theorem OH {fp:List Addr} {h:Heap} {p:Addr × Obj} (hp:p∈IF fp h):p.1∈fp∧h.get? p.1 = some p.2:=by
 obtain ⟨b,hb,e⟩:=List.mem_filterMap.mp hp
 cases q:h.get? b with
 | none=>rw [q] at e; cases e
 | some o =>
  rw [q] at e
  have e':(b,o) = p:=Option.some.inj e
  subst e'
  exact ⟨hb,q⟩
theorem Inv.pinned {pins:List (Addr × Obj)} {σ:St} {H:Hp} {s:Shared} {fp:List Addr} (I:Inv X pins σ H s) (hf:∀ b∈fp,Ga X pins H b) (ho:∀ b∈fp,∃ o,s.heap.get? b = some o∧∀ v,o.data ≠ .cell v):Inv X (pins ++ IF fp s.heap) σ H s:=
 I.pins_of fun p hp=>(mem_append.mp hp).elim (fun z=>I.pin p (mem_append_right _ z)) fun z=>by
  obtain ⟨hb,e⟩:=OH z
  obtain ⟨f0,f1,f2,_⟩:=hf p.1 hb
  obtain ⟨o,e',d⟩:=ho p.1 hb
  rw [e] at e'; cases e'
  exact ⟨e,f0,f1,f2,d⟩
theorem Inv.unpinned {pins pl:List (Addr × Obj)} {σ:St} {H:Hp} {s:Shared} (I:Inv X (pins ++ pl) σ H s):Inv X pins σ H s:=I.pins_of fun p hp=>I.pin p (mem_append_right _ (mem_append_left _ hp))
theorem VM {iter:Expr} {body:List Stmt} {wi:TI} {g:TG} {tb:TS} {pos:Pos} (hp:PassesOwn (model X.prog X.w) X.A X.env X.xe) (hc:X.calm = true) (hi:PI X tg iter wi) (hg:PG X tg g) (hb:PSs X body tb)
  (hs:∀ x,foldedSetIterable iter X.env x = pure x:=by intro _; rfl):PS X (.For tg iter body [] pos) (XB wi g tb):=by
 intro pins s σ H D I h
 refine wpAny_For (thn (hi pins s σ H _ I h) fun v s1 h1=>thn h1 fun itv s2 h2=>?_) hs
 obtain ⟨it,fp,tn,J,H2,e,I2,T,st2,f2,W,⟨m0,w0⟩,turn⟩:=h2
 subst e
 -- what stays true of the iterator's objects through the loop
 have stat:∀ {H':Hp},(∀ b∈fp,H' b = none)→∀ b∈fp,Ga X pins H' b:=fun hn b hb=>⟨hn b hb,(f2 b hb).2⟩
 refine codeAny_forLoop_any (fun n s'=>∃ i σ' H',Inv X pins σ' H' s'∧tn i s'.heap∧(∀ b∈fp,H' b = none)∧W i n σ' H') ?_ m0 ⟨0,σ,H2,I2,st2,fun b hb=>(f2 b hb).1,w0⟩
 rintro n s3 ⟨i,σ3,H3,I3,st3,fr3,w3⟩
 rcases turn i n σ3 H3 w3 with ⟨stop,qn⟩ | ⟨go,N,hN,step⟩
 ·refine wpAny_passesOwn hp (thn (T.done X rfl rfl rfl hc i pins s3 σ3 H3 X.xe I3 (stat fr3) st3 stop) fun r s4 yy=>?_)
  obtain ⟨hr,I4⟩:=yy
  subst hr
  exact wpAny_execs_nil ⟨σ3,H3,I4,qn⟩
 ·refine wpAny_passesOwn hp (thn (T.item X rfl rfl rfl hc i pins s3 σ3 H3 X.xe I3 (stat fr3) st3 go) fun r s4 yy=>?_)
  obtain ⟨u,hr,h4⟩:=yy
  subst hr
  refine wpAny_passesOwn hp (thn h4 fun _ s5 yy=>?_)
  obtain ⟨x,H5,I5,r5,y5,st5,fr5⟩:=yy
  have I5':=I5.pinned (stat fr5) (T.obj _ _ st5)
  refine wpAny_passesOwn hp (thn (hg _ s5 σ3 H5 x u _ I5' r5 (step x H5 y5)) fun _ s6 yy=>?_)
  obtain ⟨σ6,H6,I6,q6⟩:=yy
  refine wpAny_passesOwn hp (thn (hb _ s6 σ6 H6 _ I6 q6) fun f s7 q7=>?_)
  have again:∀ {σ7:St} {H7:Hp},Inv X (pins ++ IF fp s5.heap) σ7 H7 s7→N σ7 H7→∃ m,m < n∧∃ i σ' H',Inv X pins σ' H' s7∧tn i s7.heap∧(∀ b∈fp,H' b = none)∧W i m σ' H':=fun {σ7 H7} I7 n7=>by
   obtain ⟨m',hm,w7⟩:=hN σ7 H7 n7
   refine ⟨m',hm,i + 1,σ7,H7,I7.unpinned,T.keep _ _ _ st5 fun b hb o e=>(I7.pin (b,o) (mem_append_right _ (mem_append_right _ (EO hb e)))).1,fun b hb=>?_,w7⟩
   obtain ⟨o,e,d⟩:=T.obj _ _ st5 b hb
   exact (I7.pin (b,o) (mem_append_right _ (mem_append_right _ (EO hb e)))).2.1
  cases f with
  | next=>obtain ⟨σ7,H7,I7,n7⟩:=q7; exact again I7 n7
  | cont=>obtain ⟨σ7,H7,I7,n7⟩:=q7; exact again I7 n7
  | brk=>obtain ⟨σ7,H7,I7,q7⟩:=q7; exact ⟨σ7,H7,I7.unpinned,q7⟩
  | ret v=>obtain ⟨x7,σ7,H7,I7,r7,q7⟩:=q7; exact ⟨x7,σ7,H7,I7.unpinned,r7,q7⟩
end
end L2
namespace L2
open PySem PySem.Spec PyProof.Rows
noncomputable abbrev R2:=V→V→Hp→VK→Prop
noncomputable def OpR (X:Cx) (f:Value→Value→Sem Value) (r:R2):Prop:=
 ∀ (pins:List (Addr × Obj)) (s:Shared) (σ:St) (H:Hp) (x y:V) (v u:Value) (Q:VK),Inv X pins σ H s→RelV x v→RelV y u→r x y H Q →
  wpAny (model X.prog X.w) X.A (f v u) (EP X pins σ Q) X.xe s
noncomputable def UnR (X:Cx) (f:Value→Sem Value) (r:V→Hp→VK→Prop):Prop:=
 ∀ (pins:List (Addr × Obj)) (s:Shared) (σ:St) (H:Hp) (x:V) (v:Value) (Q:VK),Inv X pins σ H s→RelV x v→r x H Q →
  wpAny (model X.prog X.w) X.A (f v) (EP X pins σ Q) X.xe s
noncomputable def BX (X:Cx) (f:Value) (r:List V→Hp→VK→Prop):Prop:=
 ∀ (pins:List (Addr × Obj)) (s:Shared) (σ:St) (H:Hp) (xs:List V) (us:List Value) (Q:VK),Inv X pins σ H s→Vals xs us→r xs H Q →
  wpAny (model X.prog X.w) X.A (call f us) (EP X pins σ Q) X.xe s
noncomputable def XS (X:Cx) (r:V→Hp→(Bool→Hp→Prop)→Prop):Prop:=
 ∀ (pins:List (Addr × Obj)) (s:Shared) (σ:St) (H:Hp) (x:V) (v:Value) (Q:Bool→Hp→Prop),Inv X pins σ H s→RelV x v→r x H Q →
  wpAny (model X.prog X.w) X.A (truthy v) (TP X pins σ Q) X.xe s
noncomputable def tOp (r:R2) (ta tb:TE):TE:=fun σ H Q=>ta σ H fun x H1=>tb σ H1 fun y H2=>r x y H2 Q
noncomputable def tUn (r:V→Hp→VK→Prop) (ta:TE):TE:=fun σ H Q=>ta σ H fun x H1=>r x H1 Q
noncomputable def rI (C:Int→Int→Prop) (g:Int→Int→V):R2:=fun x y H Q=>∃ i j,x = .int i∧y = .int j∧C i j∧Q (g i j) H
noncomputable def rI0 (g:Int→Int→V):R2:=fun x y H Q=>∃ i j,x = .int i∧y = .int j∧Q (g i j) H
noncomputable def rU (g:Int→V):V→Hp→VK→Prop:=fun x H Q=>∃ i,x = .int i∧Q (g i) H
section
variable {X:Cx} {a b c:Expr} {ta tb tc:TE} {pos:Pos}
theorem Us (ha:PE X a ta) (hb:PE X b tb) {pins:List (Addr × Obj)} {s:Shared} {σ:St} {H:Hp} {R:V→V→Hp→Prop} (I:Inv X pins σ H s)
  (h:ta σ H fun x H1=>tb σ H1 fun y H2=>R x y H2) {Q:Value→Shared→Prop} {f:Value→Value→Sem Value}
  (hf:∀ v u s2 x y H2,Inv X pins σ H2 s2→RelV x v→RelV y u→R x y H2→wpAny (model X.prog X.w) X.A (f v u) Q X.xe s2) :
  wpAny (model X.prog X.w) X.A (eval a X.env) (fun v s₁=>wpAny (model X.prog X.w) X.A (eval b X.env) (fun u s₂=>wpAny (model X.prog X.w) X.A (f v u) Q X.xe s₂) X.xe s₁) X.xe s:=by
 refine thn (ha pins s σ H _ I h) fun v s1 yy=>?_
 obtain ⟨x,H1,I1,r1,q1⟩:=yy
 refine thn (hb pins s1 σ H1 _ I1 q1) fun u s2 yy=>?_
 obtain ⟨y,H2,I2,r2,q2⟩:=yy
 exact hf v u s2 x y H2 I2 r1 r2 q2
theorem Xh {op:Operator} {r:R2} (ho:OpR X (binaryOp op) r) (ha:PE X a ta) (hb:PE X b tb):PE X (.BinOp a op b pos) (tOp r ta tb):=by
 intro pins s σ H Q I h
 exact wpAny_BinOp (Us ha hb I h fun v u s2 x y H2 I2 rx ry q=>ho pins s2 σ H2 x y v u Q I2 rx ry q)
theorem Xi {op:UnaryOp} {r:V→Hp→VK→Prop} (ho:UnR X (unaryOp op) r) (ha:PE X a ta):PE X (.UnaryOp op a pos) (tUn r ta):=by
 intro pins s σ H Q I h
 exact UnaryOp_ (thn (ha pins s σ H _ I h) fun v s1 ⟨x,H1,I1,r1,q1⟩=>ho pins s1 σ H1 x v Q I1 r1 q1)
theorem opI {f:Value→Value→Sem Value} {C:Int→Int→Prop} {g:Int→Int→Int}
  (rule:∀ (i j:Int) (t u:Tok) (s:Shared) (Q:Value→Shared→Prop) (E:Value→Shared→Prop),C i j→Q (.int (g i j) s.toks) { s with toks:=s.toks + 1 }→wpAny (model X.prog X.w) X.A (f (.int i t) (.int j u)) Q E s) :
  OpR X f (rI C fun i j=>.int (g i j)):=by
 intro pins s σ H x y v u Q I rx ry h
 obtain ⟨i,j,rfl,rfl,hc,q⟩:=h
 obtain ⟨t,rfl⟩:=rx
 obtain ⟨t',rfl⟩:=ry
 exact rule i j t t' s _ _ hc ⟨.int (g i j),H,I.tok _,⟨_,rfl⟩,q⟩
theorem Sm {f:Value→Value→Sem Value} {g:Int→Int→Int}
  (rule:∀ (i j:Int) (t u:Tok) (s:Shared) (Q:Value→Shared→Prop) (E:Value→Shared→Prop),Q (.int (g i j) s.toks) { s with toks:=s.toks + 1 }→wpAny (model X.prog X.w) X.A (f (.int i t) (.int j u)) Q E s) :
  OpR X f (rI0 fun i j=>.int (g i j)):=by
 intro pins s σ H x y v u Q I rx ry h
 obtain ⟨i,j,rfl,rfl,q⟩:=h
 obtain ⟨t,rfl⟩:=rx
 obtain ⟨t',rfl⟩:=ry
 exact rule i j t t' s _ _ ⟨.int (g i j),H,I.tok _,⟨_,rfl⟩,q⟩
theorem Sl {f:Value→Value→Sem Value} {g:Int→Int→Bool}
  (rule:∀ (i j:Int) (t u:Tok) (s:Shared) (Q:Value→Shared→Prop) (E:Value→Shared→Prop),Q (.bool (g i j)) s→wpAny (model X.prog X.w) X.A (f (.int i t) (.int j u)) Q E s) :
  OpR X f (rI0 fun i j=>.bl (g i j)):=by
 intro pins s σ H x y v u Q I rx ry h
 obtain ⟨i,j,rfl,rfl,q⟩:=h
 obtain ⟨t,rfl⟩:=rx
 obtain ⟨t',rfl⟩:=ry
 exact rule i j t t' s _ _ ⟨.bl (g i j),H,I,rfl,q⟩
noncomputable def Ui (i j:Int):Prop:=0 < j∧j < 1073741824
noncomputable def Ob (i j:Int):Prop:=0≤j∧j≤1000000∧i.natAbs < 2 ^ 64
noncomputable def Rp (i j:Int):Prop:=(-(2 ^ 64) < i∧i < 2 ^ 64)∨(-(2 ^ 64) < j∧j < 2 ^ 64)
theorem Rp.ok {i j:Int} (h:Rp i j):IntMulOk i j:=by
 rcases h with ⟨h1,h2⟩ | ⟨h1,h2⟩
 ·exact .of_left (intBits_le_64 h1 h2)
 ·exact .of_right (intBits_le_64 h1 h2)
theorem Ng (k:Nat):(0:Int)≤2 ^ k:=by
 rw [two_pow_cast]
 exact Int.natCast_nonneg _
theorem Vg:OpR X (binaryOp .Add) (rI0 fun i j=>.int (i + j)):=Sm fun _ _ _ _ _ _ _ q=>add_int q
theorem Fm:OpR X (binaryOp .Sub) (rI0 fun i j=>.int (i - j)):=Sm fun _ _ _ _ _ _ _ q=>sub_int q
theorem Ku:OpR X (binaryOp .Mult) (rI Rp fun i j=>.int (i * j)):=opI fun _ _ _ _ _ _ _ hc q=>mul_int q hc.ok
theorem NK:OpR X (binaryOp .FloorDiv) (rI Ui fun i j=>.int (i / j)):=opI fun i j _ _ _ _ _ hc q=>by
 have h1:(0:Int) < j:=hc.1
 have h2:j < 1073741824:=hc.2
 exact floordiv_int (by lia) (by rw [Int.fdiv_eq_ediv_of_nonneg i (by lia)]; exact q) (.inl (PyProof.noPylong_small (by lia)))
theorem G5:OpR X (binaryOp .Mod) (rI (fun _ j=>0 < j) fun i j=>.int (i % j)):=opI fun i j _ _ _ _ _ hc q=>by
 have h1:(0:Int) < j:=hc
 exact mod_int' (by lia) (by rw [Int.fmod_eq_emod_of_nonneg i (by lia)]; exact q)
theorem Vk:OpR X (binaryOp .Pow) (rI Ob fun i j=>.int (i ^ j.toNat)):=opI fun _ _ _ _ _ _ _ hc q=>pow_int_small hc.1 hc.2.1 hc.2.2 q
theorem MN:OpR X (binaryOp .LShift) (rI Ob fun i j=>.int (i * 2 ^ j.toNat)):=opI fun _ _ _ _ _ _ _ hc q=>lshift_int_small hc.1 hc.2.1 hc.2.2 q
theorem Vl:OpR X (binaryOp .RShift) (rI (fun _ j=>0≤j) fun i j=>.int (i / 2 ^ j.toNat)):=opI fun i j _ _ _ _ _ hc q =>
 rshift_int hc (by rw [Int.fdiv_eq_ediv_of_nonneg i (Ng _)]; exact q)
theorem Vh:OpR X (binaryOp .BitAnd) (rI0 fun i j=>.int (Builtin.bitAnd i j)):=Sm fun _ _ _ _ _ _ _ q=>and_int q
theorem Xd:OpR X (binaryOp .BitOr) (rI0 fun i j=>.int (Builtin.bitOr i j)):=Sm fun _ _ _ _ _ _ _ q=>or_int q
theorem unI {f:Value→Sem Value} {g:Int→Int}
  (rule:∀ (i:Int) (t:Tok) (s:Shared) (Q:Value→Shared→Prop) (E:Value→Shared→Prop),Q (.int (g i) s.toks) { s with toks:=s.toks + 1 }→wpAny (model X.prog X.w) X.A (f (.int i t)) Q E s) :
  UnR X f (rU fun i=>.int (g i)):=by
 intro pins s σ H x v Q I rx h
 obtain ⟨i,rfl,q⟩:=h
 obtain ⟨t,rfl⟩:=rx
 exact rule i t s _ _ ⟨.int (g i),H,I.tok _,⟨_,rfl⟩,q⟩
theorem Nh:UnR X (unaryOp .USub) (rU fun i=>.int (-i)):=unI fun _ _ _ _ _ q=>neg_int q
end
section
variable {X:Cx} {a b c:Expr} {ta tb tc:TE} {pos:Pos}
theorem HY {pins:List (Addr × Obj)} {σ:St} {H:Hp} {s:Shared} {Q:VK} {k k':Bool} (I:Inv X pins σ H s) (q:Q (.bl k) H) (e:k = k'):EP X pins σ Q (.bool k') s:=by
 subst e
 exact ⟨.bl k,H,I,rfl,q⟩
theorem Xc:OpR X (compareOp .Lt) (rI0 fun i j=>.bl (decide (i < j))):=Sl fun _ _ _ _ _ _ _ q=>lt_int q
theorem Xb:OpR X (compareOp .LtE) (rI0 fun i j=>.bl (decide (i≤j))):=Sl fun _ _ _ _ _ _ _ q=>le_int q
theorem T1:OpR X (compareOp .Gt) (rI0 fun i j=>.bl (decide (j < i))):=Sl fun _ _ _ _ _ _ _ q=>gt_int q
theorem Xa:OpR X (compareOp .GtE) (rI0 fun i j=>.bl (decide (j≤i))):=Sl fun _ _ _ _ _ _ _ q=>ge_int q
theorem OM:OpR X (compareOp .Lt) (fun x y H Q=>∃ i j,x = .str i∧y = .str j∧Q (.bl (decide (i.cps.toList < j.cps.toList))) H):=by
 intro pins s σ H x y v u Q I rx ry h
 obtain ⟨i,j,rfl,rfl,q⟩:=h
 obtain ⟨t,rfl⟩:=rx
 obtain ⟨t',rfl⟩:=ry
 exact lt_str (HY I q rfl)
theorem OK:OpR X (compareOp .In) (fun x y H Q=>∃ i j,x = .str i∧y = .str j∧Q (.bl (!(Builtin.Str.occurrences j i 0 j.length 1).isEmpty)) H):=by
 intro pins s σ H x y v u Q I rx ry h
 obtain ⟨i,j,rfl,rfl,q⟩:=h
 obtain ⟨t,rfl⟩:=rx
 obtain ⟨t',rfl⟩:=ry
 exact in_str (HY I q rfl)
theorem Vj:OpR X (compareOp .Is) (fun x y H Q=>y = .non∧Q (.bl (decide (x = .non))) H):=by
 intro pins s σ H x y v u Q I rx ry h
 obtain ⟨rfl,q⟩:=h
 cases ry
 refine is_none_gen (HY I q ?_)
 cases x <;> first
  | (cases rx; rfl)
  | (obtain ⟨t,rfl⟩:=rx; rfl)
theorem Sn:OpR X (compareOp .IsNot) (fun x y H Q=>y = .non∧Q (.bl (!decide (x = .non))) H):=by
 intro pins s σ H x y v u Q I rx ry h
 obtain ⟨rfl,q⟩:=h
 cases ry
 refine isnot_none_gen (HY I q ?_)
 cases x <;> first
  | (cases rx; rfl)
  | (obtain ⟨t,rfl⟩:=rx; rfl)
theorem OpR.or {f:Value→Value→Sem Value} {r r':R2} (h:OpR X f r) (h':OpR X f r'):OpR X f (fun x y H Q=>r x y H Q∨r' x y H Q):=by
 intro pins s σ H x y v u Q I rx ry q
 rcases q with q | q
 ·exact h pins s σ H x y v u Q I rx ry q
 ·exact h' pins s σ H x y v u Q I rx ry q
theorem Bd (b:Expr) {op:CmpOp} (h:op ≠ .In:=by decide) (h2:op ≠ .NotIn:=by decide):behindInMarks op b = false:=by
 have e1:(op == CmpOp.In) = false:=by cases op <;> first | rfl | exact absurd rfl h
 have e2:(op == CmpOp.NotIn) = false:=by cases op <;> first | rfl | exact absurd rfl h2
 cases b with
 | Set elts k pos =>
  show (k == 0 && (op == .In || op == .NotIn) && elts.all (constantsAlone 8)) = false
  rw [e1,e2,Bool.or_self,Bool.and_false,Bool.false_and]
 | _=>rfl
theorem Ss {op:CmpOp} {r:R2} (ho:OpR X (compareOp op) r) (ha:PE X a ta) (hb:PE X b tb) (hm:behindInMarks op b = false):PE X (.Compare a [op] [b] pos) (tOp r ta tb):=by
 intro pins s σ H Q I h
 exact wpAny_Compare1 (Us ha hb I h fun v u s2 x y H2 I2 rx ry q=>ho pins s2 σ H2 x y v u Q I2 rx ry q) hm
noncomputable def Uh (t:TE):TT:=fun σ H Q=>t σ H fun x H'=>∃ k,x = .bl k∧Q k H'
theorem SM {op:CmpOp} {r:R2} (ho:OpR X (compareOp op) r) (ha:PE X a ta) (hb:PE X b tb) (hm:behindInMarks op b = false):PT X (.Compare a [op] [b] pos) (Uh (tOp r ta tb)):=by
 intro pins s σ H Q I h
 refine wpAny_isTrue_Compare1 (thn (ha pins s σ H _ I h) fun v s1 yy=>?_) hm
 obtain ⟨x,H1,I1,r1,q1⟩:=yy
 refine thn (hb pins s1 σ H1 _ I1 q1) fun u s2 yy=>?_
 obtain ⟨y,H2,I2,r2,q2⟩:=yy
 refine thn (ho pins s2 σ H2 x y v u _ I2 r1 r2 q2) fun c s3 yy=>?_
 obtain ⟨z,H3,I3,r3,k,e,q3⟩:=yy
 subst e
 cases r3
 exact wpAny_truthy_bool ⟨H3,I3,q3⟩
noncomputable def Na (r r':R2) (ta tb tc:TE):TE:=fun σ H Q=>ta σ H fun x H1=>tb σ H1 fun y H2=>r x y H2 fun z H3=>∃ k,z = .bl k ∧
 (if k = true then tc σ H3 fun w' H4=>r' y w' H4 Q else Q (.bl false) H3)
theorem Qn {op op':CmpOp} {r r':R2} (ho:OpR X (compareOp op) r) (ho':OpR X (compareOp op') r') (ha:PE X a ta) (hb:PE X b tb) (hc:PE X c tc)
  (hm:lastMarks [op,op'] [b,c] = false:=by with_unfolding_all rfl):PE X (.Compare a [op,op'] [b,c] pos) (Na r r' ta tb tc):=by
 intro pins s σ H Q I h
 refine Compare_chain (thn (ha pins s σ H _ I h) fun v s1 yy=>?_) hm
 obtain ⟨x,H1,I1,r1,q1⟩:=yy
 refine chain_link (thn (hb pins s1 σ H1 _ I1 q1) fun u s2 yy=>?_)
 obtain ⟨y,H2,I2,r2,q2⟩:=yy
 refine thn (ho pins s2 σ H2 x y v u _ I2 r1 r2 q2) fun d s3 yy=>?_
 obtain ⟨z,H3,I3,r3,k,e,q3⟩:=yy
 subst e
 cases r3
 refine wpAny_truthy_bool ?_
 cases k with
 | false=>exact ite_ff ⟨.bl false,H3,I3,rfl,q3⟩
 | true=>exact ite_tt (chain_last (thn (hc pins s3 σ H3 _ I3 q3) fun w' s4 ⟨z',H4,I4,r4,q4⟩=>ho' pins s4 σ H4 y z' u w' Q I4 r2 r4 q4))
theorem Qz {op op':CmpOp} {r r':R2} (ho:OpR X (compareOp op) r) (ho':OpR X (compareOp op') r') (ha:PE X a ta) (hb:PE X b tb) (hc:PE X c tc)
  (hm:lastMarks [op,op'] [b,c] = false:=by with_unfolding_all rfl):PT X (.Compare a [op,op'] [b,c] pos) (Uh (Na r r' ta tb tc)):=by
 intro pins s σ H Q I h
 refine isTrue_chain (thn (ha pins s σ H _ I h) fun v s1 yy=>?_) hm
 obtain ⟨x,H1,I1,r1,q1⟩:=yy
 refine test_link (thn (hb pins s1 σ H1 _ I1 q1) fun u s2 yy=>?_)
 obtain ⟨y,H2,I2,r2,q2⟩:=yy
 refine thn (ho pins s2 σ H2 x y v u _ I2 r1 r2 q2) fun d s3 yy=>?_
 obtain ⟨z,H3,I3,r3,k,e,q3⟩:=yy
 subst e
 cases r3
 refine wpAny_truthy_bool ?_
 cases k with
 | false =>
  obtain ⟨k',e',q'⟩:=q3
  cases e'
  exact ite_ff ⟨H3,I3,q'⟩
 | true =>
  refine ite_tt (test_last (thn (hc pins s3 σ H3 _ I3 q3) fun w' s4 ⟨z',H4,I4,r4,q4⟩=>thn (ho' pins s4 σ H4 y z' u w' _ I4 r2 r4 q4) fun d' s5 yy=>?_))
  obtain ⟨z2,H5,I5,r5,k2,e2,q5⟩:=yy
  subst e2
  cases r5
  exact wpAny_truthy_bool ⟨H5,I5,q5⟩
noncomputable def Ul (K:Frag) (x:V) (H:Hp) (k:Bool):Prop:=
 match x with
 | .non=>k = false
 | .bl b=>k = b
 | .int i=>k = (i != 0)
 | .str y=>y.length≤sizeLine∧k = ((y.length:Int) != 0)
 | .byt y=>y.size≤sizeLine∧k = ((y.size:Int) != 0)
 | .ref p=>(∃ xs,SqL K H p xs∧k = !xs.isEmpty)∨(∃ xs,SqT K H p xs∧k = !xs.isEmpty)∨∃ kvs,H p = some (.dK kvs)∧k = !kvs.isEmpty
 | _=>False
theorem Mu {κ:Type} {kvs:List (κ × V)} {vs:List (κ × Value)} (r:KV kvs vs):(!vs.isEmpty) = !kvs.isEmpty:=by
 cases r <;> rfl
theorem Ig {xs:List V} {its:List Value} (r:Vals xs its):(!its.toArray.isEmpty) = !xs.isEmpty:=by
 cases r <;> simp
theorem Fd:(sizeLine:Nat) < 2 ^ 63:=by rw [sizeLine_eq]; decide
theorem Wv:XS X (fun x H Q=>∃ k,Ul X.K x H k∧Q k H):=by
 intro pins s σ H x v Q I rx h
 obtain ⟨k,e,q⟩:=h
 have hl:=Fd
 have hs:sizeLine = 16777216:=sizeLine_eq
 cases x with
 | non =>
  cases rx
  have e':k = false:=e
  subst e'
  exact truthy_none ⟨H,I,q⟩
 | bl b =>
  cases rx
  have e':k = b:=e
  subst e'
  exact wpAny_truthy_bool ⟨H,I,q⟩
 | int i =>
  obtain ⟨t,rfl⟩:=rx
  have e':k = (i != 0):=e
  subst e'
  exact PySem.P.truthy_int ⟨H,I,q⟩
 | str y =>
  obtain ⟨t,rfl⟩:=rx
  obtain ⟨hy,e'⟩:y.length≤sizeLine∧k = ((y.length:Int) != 0):=e
  subst e'
  exact PySem.P.truthy_str (by lia) ⟨H,I.tok _,q⟩
 | byt y =>
  obtain ⟨t,rfl⟩:=rx
  obtain ⟨hy,e'⟩:y.size≤sizeLine∧k = ((y.size:Int) != 0):=e
  subst e'
  exact PySem.W.truthy_bytes (by lia) ⟨H,I.tok _,q⟩
 | ref p =>
  cases rx
  have e':(∃ xs,SqL X.K H p xs∧k = !xs.isEmpty)∨(∃ xs,SqT X.K H p xs∧k = !xs.isEmpty)∨∃ kvs,H p = some (.dK kvs)∧k = !kvs.isEmpty:=e
  rcases e' with ⟨xs,hx,e'⟩ | ⟨xs,hx,e'⟩ | ⟨kvs,hx,e'⟩
  ·subst e'
   obtain ⟨its,r,pl,hz⟩:=I.list hx
   have hlen:=r.length
   exact wpAny_truthy_list pl.isList (by simp only [size_toArray]; lia) ⟨H,I.tok _,by rw [Ig r]; exact q⟩
  ·subst e'
   obtain ⟨its,r,pl,hz⟩:=I.tuple hx
   have hlen:=r.length
   exact truthy_tuple pl (by simp only [size_toArray]; lia) ⟨H,I.tok _,by rw [Ig r]; exact q⟩
  ·subst e'
   obtain ⟨hz,hS,vs,r,m⟩:kvs.length≤sizeLine∧(p == sysModules) = false∧∃ vs,KV kvs vs∧s.heap.DictOf (Bm X.prog X.w) p vs:=I.hok p _ hx
   have hlen:kvs.length = vs.length:=Paired.length r
   exact wpAny_truthy_dict hS m (by lia) ⟨H,I.tok _,by rw [Mu r]; exact q⟩
 | _=>exact (show False from e).elim
theorem QA (ha:PE X a ta) (he:∀ whole,isTrue a X.env whole = (do let v ← whole; standAt a.pos; holding [v] (truthy v))) :
  PT X a (fun σ H Q=>ta σ H fun x H'=>∃ k,Ul X.K x H' k∧Q k H'):=by
 intro pins s σ H Q I h
 exact isTrue_plain (thn (ha pins s σ H _ I h) fun v s1 ⟨x,H1,I1,r1,q1⟩=>Wv pins s1 σ H1 x v Q I1 r1 q1) (he _)
theorem ML:OpR X (binaryOp .Add) (fun x y H Q=>∃ i j,x = .str i∧y = .str j∧i.length + j.length≤sizeLine∧Q (.str (i ++ j)) H):=by
 intro pins s σ H x y v u Q I rx ry h
 obtain ⟨i,j,rfl,rfl,hz,q⟩:=h
 obtain ⟨t,rfl⟩:=rx
 obtain ⟨t',rfl⟩:=ry
 exact add_str (fun t' tk=>⟨.str (i ++ j),H,I.tok _,⟨_,rfl⟩,q⟩) hz
theorem vals1 {x:V} {us:List Value} (r:Vals [x] us):∃ u,us = [u]∧RelV x u:=by
 cases r with
 | cons r1 r2=>cases r2; exact ⟨_,rfl,r1⟩
theorem K5:BX X (.builtin "abs") (fun xs H Q=>∃ i,xs = [.int i]∧Q (.int (if i < 0 then -i else i)) H):=by
 intro pins s σ H xs us Q I r h
 obtain ⟨i,rfl,q⟩:=h
 obtain ⟨u,rfl,t,rfl⟩:=vals1 r
 exact call_abs_int fun u tk=>⟨.int (if i < 0 then -i else i),H,I.tok _,⟨_,rfl⟩,q⟩
end
end L2
namespace L2
open PySem PySem.Spec PyProof.Rows
structure ObjM (h:Heap) (x dx C:Addr) (mA:Str→Option Value):Prop where
 obj:h.get? x = some (PySem.W.instObj C dx)
 ns:h.Ns1 dx mA
 ne:dx≠x
theorem OB {h:Heap} {dx:Addr} {mA:Str→Option Value} (n:h.Ns1 dx mA):∃ od,h.get? dx = some od∧∀ name,PySem.W.lookIn name od = some (mA name):=by
 obtain ⟨o,es,ep,ho,hd,hk,_,hm⟩:=n
 refine ⟨o,ho,fun name=>?_⟩
 have e:=hm name
 unfold nsFind findBy at e
 rw [← Array.find?_toList] at e
 unfold PySem.W.lookIn
 rw [hd]
 dsimp only
 split
 ·rename_i y q
  rw [q] at e
  exact congrArg some e
 ·rename_i q
  rw [q] at e
  have a:es.toList.any (·.refKey) = false:=by
   rw [List.any_eq_false]
   intro y hy
   obtain ⟨z,t,hkey⟩:=hk y (Array.mem_toList_iff.mp hy)
   simp [DictEntry.refKey,hkey]
  have a':¬ es.toList.any (·.refKey) = true:=by rw [a]; exact Bool.false_ne_true
  rw [if_neg a']
  exact congrArg some e
theorem ObjM.look {h:Heap} {x dx C:Addr} {mA:Str→Option Value} (I:ObjM h x dx C mA):∃ od,PySem.W.InstAt h x (PySem.W.instObj C dx) C (some od)∧∀ name,PySem.W.lookIn name od = some (mA name):=
 let ⟨od,ho,hl⟩:=OB I.ns
 ⟨od,⟨I.obj,rfl,rfl,ho⟩,hl⟩
section
variable {prog:Program} {w:World} {A:Around} {E:Value→Shared→Prop} {s:Shared} {K:Frag} {x dx C f:Addr} {mA:Str→Option Value} {name:Str} {v:Value}
end
theorem HM.some_of {v:V} {o:Option Value} (r:HM (some v) o):∃ u,o = some u∧RelV v u:=by
 cases o with
 | none=>exact (show False from r).elim
 | some u=>exact ⟨u,rfl,r⟩
section
variable {P:Program} {w:World} {H H':Hp} {h h':Heap} {a C dx:Addr} {fs fs':List (Str × V)}
theorem RQ (hok:HOk P w H h) (e:H a = some (.ins C dx fs)):∃ mA,ObjM h a dx C mA∧(∀ f,HM (fs.lookup f) (mA f))∧PySem.Within mA (fs.map (·.1))∧fs.length≤1000∧H dx = some (.own a):=by
 obtain ⟨d,z,ne,ob,mA,n,r,q⟩:=(show BO P w H h a (.ins C dx fs) from hok a _ e)
 exact ⟨mA,⟨ob,n,ne⟩,r,q,z,d⟩
end
structure Cls (K:Frag) (C:Addr):Prop where
 pg:PySem.W.plainGet K C Str.empty = true
 hd:PySem.W.hasDictIn K C = true
 po:PySem.W.plainOver K C = true
 sa:PySem.W.findIn K (.ref C) "__setattr__" = some (some (.builtin "object.__setattr__"))
theorem Cls.get {K:Frag} {C:Addr} (c:Cls K C) (f:Str):PySem.W.plainGet K C f = true:=c.pg
section
variable {X:Cx} {pins:List (Addr × Obj)} {σ:St} {H:Hp} {s:Shared} {a C dx:Addr} {fs:List (Str × V)} {f:Str} {v:V} {A:Around} {E:Value→Shared→Prop}
end
section
variable {X:Cx} {o e value:Expr} {f:Str} {pos pos' tpos:Pos} {ta tv:TE}
end
section
variable {X:Cx} {pins:List (Addr × Obj)} {σ:St} {H:Hp} {s:Shared} {A:Around} {E:Value→Shared→Prop} {Q:Value→Shared→Prop} {c:Value} {b:Bool}
inductive TyOf (K:Frag) (H:Hp):V→Value→Prop where
 | non:TyOf K H .non (.type "NoneType")
 | bl (x:Bool):TyOf K H (.bl x) (.type "bool")
 | int (i:Int):TyOf K H (.int i) (.type "int")
 | str (x:Str):TyOf K H (.str x) (.type "str")
 | flt (x:UInt64):TyOf K H (.flt x) (.type "float")
 | lst {a:Addr} {xs:List V} (e:H a = some (.lst xs)):TyOf K H (.ref a) (.type "list")
 | frz {a:Addr} {o:Obj} {xs:List V} (e:H a = some (.frz o (.lst xs))):TyOf K H (.ref a) (.type "list")
 | tup {a:Addr} {xs:List V} (e:H a = some (.tup xs)):TyOf K H (.ref a) (.type "tuple")
 | dK {a:Addr} {kvs:List (Key × V)} (e:H a = some (.dK kvs)):TyOf K H (.ref a) (.type "dict")
 | dT {a:Addr} {kvs:List (List Key × V)} (e:H a = some (.dT kvs)):TyOf K H (.ref a) (.type "dict")
 | ins {a C dx:Addr} {fs:List (Str × V)} (e:H a = some (.ins C dx fs)) (cl:Cls K C) (ha:PySem.W.findIn K (.ref C) "__class__" = some (some (.builtin "object.__class__")))
   (hn:PySem.W.specialIn K (.builtin "object.__class__") "__get__" = some (some (.builtin "getset_descriptor.__get__"))) (htk:PySem.W.takesIn K (.builtin "object.__class__") = some true)
   (hm:PySem.W.mroIn K C (.type "object") = some true):TyOf K H (.ref a) (.ref C)
theorem Ox {x:V} {u t:Value} (I:Inv X pins σ H s) (rx:RelV x u) (ty:TyOf X.K H x t) (e:PySem.W.kitOne X.K t c = some b) (h:∀ tk,Q (.bool b) { s with toks:=tk }) :
  wpAny (model X.prog X.w) A (call (.builtin "isinstance") [u,c]) Q E s:=by
 cases ty with
 | non=>cases (show u = Value.none from rx); exact PySem.W.kia_one PySem.W.kitx_none I.kIn True.intro e (fun z=>nomatch z) h
 | bl y=>cases (show u = Value.bool y from rx); exact PySem.W.kia_one PySem.W.kitx_bool I.kIn True.intro e (fun z=>nomatch z) h
 | int i=>obtain ⟨t,q⟩:=(show ∃ t,u = Value.int i t from rx); cases q; exact PySem.W.kia_one PySem.W.kitx_int I.kIn True.intro e (fun z=>nomatch z) h
 | str y=>obtain ⟨t,q⟩:=(show ∃ t,u = Value.str y t from rx); cases q; exact PySem.W.kia_one PySem.W.kitx_str I.kIn True.intro e (fun z=>nomatch z) h
 | flt y=>obtain ⟨t,q⟩:=(show ∃ t,u = Value.float y t from rx); cases q; exact PySem.W.kia_one PySem.W.kitx_float I.kIn True.intro e (fun z=>nomatch z) h
 | @lst a xs ea =>
  cases (show u = Value.ref a from rx)
  obtain ⟨_,_,n,_,h1⟩:=(show BO X.prog X.w H s.heap a (.lst xs) from I.hok a _ ea)
  exact PySem.W.kia_one PySem.W.kitx_list I.kIn ⟨_,h1,rfl⟩ e (fun z=>nomatch z) h
 | @frz a ob xs ea =>
  cases (show u = Value.ref a from rx)
  obtain ⟨_,_,_,n,_,h1⟩:=(show BO X.prog X.w H s.heap a (.frz ob (.lst xs)) from I.hok a _ ea)
  exact PySem.W.kia_one PySem.W.kitx_list I.kIn ⟨_,h1,rfl⟩ e (fun z=>nomatch z) h
 | @tup a xs ea =>
  cases (show u = Value.ref a from rx)
  obtain ⟨_,_,_,p⟩:=(show BO X.prog X.w H s.heap a (.tup xs) from I.hok a _ ea)
  obtain ⟨o,h1,h2,_⟩:=p
  exact PySem.W.kia_one PySem.W.kitx_tuple I.kIn ⟨o,h1,h2⟩ e (fun z=>nomatch z) h
 | @dK a kvs ea =>
  cases (show u = Value.ref a from rx)
  obtain ⟨_,_,vs,_,p⟩:=(show BO X.prog X.w H s.heap a (.dK kvs) from I.hok a _ ea)
  obtain ⟨o,es,ep,h1,h2,_⟩:=p
  exact PySem.W.kia_one PySem.W.kitx_dict I.kIn ⟨o,h1,h2.1⟩ e (fun z=>nomatch z) h
 | @dT a kvs ea =>
  cases (show u = Value.ref a from rx)
  obtain ⟨_,_,xs,_,o,es,ep,h1,h2,_⟩:=(show BO X.prog X.w H s.heap a (.dT kvs) from I.hok a _ ea)
  exact PySem.W.kia_one PySem.W.kitx_dict I.kIn ⟨o,h1,h2.1⟩ e (fun z=>nomatch z) h
 | @ins a C dx fs ea cl ha hn htk hm =>
  cases (show u = Value.ref a from rx)
  obtain ⟨mA,O,_⟩:=RQ I.hok ea
  obtain ⟨od,J,_⟩:=O.look
  exact PySem.W.kia_one (PySem.W.kitx_own (cl.get _) cl.hd ha hn htk hm) I.kIn J e (fun z=>nomatch z) h
end
end L2
namespace L2
open PySem PySem.Spec PyProof.Rows
structure Room (k:Nat) (A:Around):Prop where
 hd:A.handled = none
 dp:A.depth + 3 * k + 5 < recursionLimit
 un:A.units + 16 * k + 200 < cLine
theorem Room.mono {j k:Nat} {A:Around} (r:Room k A) (h:j≤k):Room j A:=⟨r.hd,by have:=r.dp; lia,by have:=r.un; lia⟩
theorem Room.deeper {k:Nat} {A:Around} (r:Room (k + 1) A) (env:Env):Room k (A.deeper env):=
 ⟨r.hd,by have:=r.dp; show A.depth + 1 + 3 * k + 5 < _; lia,by have:=r.un; show A.units + 3 + 16 * k + 200 < _; lia⟩
theorem Room.depth {k:Nat} {A:Around} (r:Room k A):A.depth < recursionLimit:=by have:=r.dp; lia
theorem Room.units {k:Nat} {A:Around} (r:Room k A):A.units + 64 < cLine:=by have:=r.un; lia
noncomputable def F7:TA:=fun _ H Q=>Q [] H
noncomputable def Cc (ta:TE) (tr:TA):TA:=fun σ H Q=>ta σ H fun x H1=>tr σ H1 fun xs H2=>Q (x :: xs) H2
section
variable {X:Cx} {e:Expr} {es:List Expr} {te:TE} {t:TA} {pos:Pos}
theorem Ei:PA X [] F7:=fun _ _ _ _ H Q I h=>Calls.spliced_nil ⟨[],H,I,.nil,h⟩
theorem C1 (ha:PE X e te) (hr:PA X es t) (hs:starEach (e :: es) X.env = (false,eval e X.env) :: starEach es X.env:=by rfl):PA X (e :: es) (Cc te t):=by
 intro pos pins s σ H Q I h
 rw [hs]
 show wpAny _ _ (spliced ((false,eval e X.env) :: backTo pos (starEach es X.env))) _ _ s
 refine Calls.spliced_cons (thn (ha pins s σ H _ I h) fun u s1 yy=>?_)
 obtain ⟨x,H1,I1,r1,q1⟩:=yy
 exact thn (hr pos pins s1 σ H1 _ I1 q1) fun us s2 ⟨xs,H2,I2,r2,q2⟩=>⟨x :: xs,H2,I2,.cons r1 r2,q2⟩
noncomputable def XM (t:TA):TE:=fun σ H Q=>t σ H fun xs H1=>xs.length≤sizeLine∧∀ p,H1 p = none→Q (.ref p) (upd H1 p (.tup xs))
noncomputable def XD (t:TA):TE:=fun σ H Q=>t σ H fun xs H1=>xs.length≤sizeLine∧∀ p,H1 p = none→Q (.ref p) (upd H1 p (.lst xs))
theorem VF {x1} (h:PA X es t):PE X (.Tuple es x1 pos) (XM t):=by
 intro pins s σ H Q I hq
 refine wpAny_Tuple_spliced (thn (h pos pins s σ H _ I hq) fun us s1 ⟨xs,H1,I1,r,z,q⟩=>⟨by rw [← r.length]; exact z,?_⟩)
 have hf:H1 s1.heap.objs.size = none:=I1.hok.fresh (le_refl _)
 refine ⟨.ref s1.heap.objs.size,upd H1 s1.heap.objs.size (.tup xs),I1.laid (t':=s1.toks) (fun b u e=>get?_push_of_some _ e) (le_refl _) ?_,rfl,q _ hf⟩
 exact ⟨z,us,r,⟨_,get?_push_size _ rfl,rfl,_,rfl⟩⟩
theorem Vy (h:PA X es t):PE X (.List es pos) (XD t):=by
 intro pins s σ H Q I hq
 refine wpAny_List_spliced (thn (h pos pins s σ H _ I hq) fun us s1 ⟨xs,H1,I1,r,z,q⟩=>⟨by rw [← r.length]; exact z,?_⟩)
 have hf:H1 s1.heap.objs.size = none:=I1.hok.fresh (le_refl _)
 refine ⟨.ref s1.heap.objs.size,upd H1 s1.heap.objs.size (.lst xs),I1.laid (t':=s1.toks) (fun b u e=>get?_push_of_some _ e) (le_refl _) ?_,rfl,q _ hf⟩
 exact ⟨z,us,0,r,get?_push_size _ rfl⟩
end
noncomputable abbrev Sp:=List V→Hp→VK→XK→Prop
noncomputable abbrev CXT:=List Env→Hp→Shared→XK→Value→Shared→Prop
structure Env0 (P:Program) (w:World) (K:Frag) (mg:Str→Option Value) (base:Heap) (A:Around) (outer:List Env) (s:Shared) (H:Hp):Prop where
 frames:A.frames = some outer
 mod:Mod K mg base
 bs:∀ b o,base.get? b = some o→s.heap.get? b = some o∧H b = none
 bsz:base.objs.size≤s.heap.objs.size
 funs:s.heap.FunFrames base outer
 frf:∀ b∈frs outer,H b = none
 hok:HOk P w H s.heap
 bare:AllBare s.gens
 tb:Oc K H
noncomputable def CE (outer:List Env) (P:Program) (w:World) (H:Hp) (s:Shared) (Q:VK) (u:Value) (s':Shared):Prop:=
 ∃ v H',s'.os = s.os∧AllBare s'.gens∧Un (frs outer) [] H H' s.heap s'.heap∧HOk P w H' s'.heap∧RelV v u∧Q v H'
noncomputable def CR (CX:CXT) (outer:List Env) (P:Program) (w:World) (H:Hp) (s:Shared) (Q:VK) (E:XK) (r:Result) (s':Shared):Prop:=
 match r with
 | .ok (.ret u)=>CE outer P w H s Q u s'
 | .ok _=>False
 | .error e=>CX outer H s E e s'
structure FnOk (P:Program) (w:World) (K:Frag) (mg:Str→Option Value) (base:Heap) (CX:CXT) (k:Nat) (f:Addr) (fd:FuncData) (ps:List Str) (sp:Sp):Prop where
 len:∀ vs H Q E,sp vs H Q E→vs.length = ps.length
 run:∀ (A:Around) (outer:List Env) (s:Shared) (H:Hp) (args:Args) (us:List Value) (vs:List V) (Q:VK) (E:XK),Room k A→Env0 P w K mg base A outer s H→BindsTo s fd args (ps.zip us)→Vals vs us→sp vs H Q E →
  codeAny (model P w) A (.call (.ref f) args) (CR CX outer P w H s Q E) s
section
variable {X:Cx} {pins:List (Addr × Obj)} {σ:St} {H:Hp} {s s':Shared}
theorem Inv.env0 (I:Inv X pins σ H s):Env0 X.prog X.w X.K X.mg X.base X.A X.stack s H:=
 ⟨I.ok.frames,I.ok.mod,I.bs,le_trans I.ok.bsz I.sz,I.stack,I.stkFree,I.hok,I.bare,I.tabs⟩
theorem Inv.after {Q:VK} {u:Value} (I:Inv X pins σ H s) (h:CE X.stack X.prog X.w H s Q u s'):EP X pins σ Q u s':=by
 obtain ⟨v,H',os,bare,un,hok,r,q⟩:=h
 obtain ⟨hh,g,d,t,os'⟩:=s'
 obtain rfl:os' = s.os:=os
 exact ⟨v,H',I.call (h':=hh) (g':=g) (d':=d) (t':=t) (ch:=[]) un hok bare (fun b z=>absurd z (by simp)),r,q⟩
end
noncomputable def Q7 (sp:Sp) (dvs:List V) (E:XK) (t:TA):TE:=fun σ H Q=>t σ H fun vs H1=>sp (vs ++ dvs) H1 Q E
noncomputable def Binds (K:Frag) (fd:FuncData) (ps:List Str) (ds:List Value):Prop:=
 ∀ (s:Shared) (us:List Value),K.In s.heap→(us ++ ds).length = ps.length→BindsTo s fd ⟨us,[]⟩ (ps.zip (us ++ ds))
theorem Binds.all {K:Frag} {fd:FuncData} {ps:List Str} (h:∀ us:List Value,us.length = ps.length→bindArgs fd ⟨us,[]⟩ = pure (ps.zip us)):Binds K fd ps []:=fun s us _ hl=>by
 rw [append_nil] at hl ⊢
 exact .of_eq (h us hl)
noncomputable def Passes (CX:CXT) (X:Cx) (E:XK):Prop:=∀ (pins:List (Addr × Obj)) (σ:St) (H:Hp) (s:Shared) (e:Value) (s':Shared),Inv X pins σ H s→CX X.stack H s E e s'→X.xe e s'
section
variable {X:Cx} {CX:CXT} {k:Nat} {f C:Addr} {fd:FuncData} {ps:List Str} {sp:Sp} {dvs:List V} {ds:List Value} {E:XK} {x m:Str} {p pos apos:Pos} {e o:Expr} {es:List Expr} {ta:TE} {t:TA}
theorem V2 {pins:List (Addr × Obj)} {σ:St} {H:Hp} {s:Shared} {Q:VK} {us:List Value} {vs:List V} (F:FnOk X.prog X.w X.K X.mg X.base CX k f fd ps sp) (hr:Room k X.A) (hb:Binds X.K fd ps ds) (hd:Vals dvs ds) (hx:Passes CX X E)
  (I:Inv X pins σ H s) (r:Vals vs us) (h:sp (vs ++ dvs) H Q E):wpAny (model X.prog X.w) X.A (call (.ref f) us) (EP X pins σ Q) X.xe s:=by
 have r2:Vals (vs ++ dvs) (us ++ ds):=r.append hd
 have hl:(us ++ ds).length = ps.length:=by rw [← r2.length]; exact F.len _ _ _ _ h
 refine wpAny_call (codeAny_mono (F.run X.A X.stack s H ⟨us,[]⟩ (us ++ ds) (vs ++ dvs) Q E hr I.env0 (hb s us I.kIn hl) r2 h) fun r s' hq=>?_)
 cases r with
 | error e=>exact hx pins σ H s e s' I hq
 | ok fl =>
  cases fl with
  | ret u=>exact I.after hq
  | next=>exact False.elim hq
  | brk=>exact False.elim hq
  | cont=>exact False.elim hq
theorem Sr (F:FnOk X.prog X.w X.K X.mg X.base CX k f fd ps sp) (hr:Room k X.A) (hg:Gl X x) (hm:X.mg x = some (.ref f)) (hk:PySem.W.keepIn X.K (.ref f) = true) (hb:Binds X.K fd ps ds) (hd:Vals dvs ds) (hx:Passes CX X E)
  (ha:PA X (e :: es) t) (hdb:(x == ("__debug__" : Str)) = false:=by decide) (he:starEach (e :: es) X.env = (false,eval e X.env) :: starEach es X.env:=by rfl) (hpl:(backTo pos (starEach es X.env)).any (·.1) = false:=by rfl) :
  PE X (.Call (.Name x p) (e :: es) [] pos) (Q7 sp dvs E t):=by
 intro pins s σ H Q I h
 refine wpAny_Call_Name_kw (ND I hg hm ?_ hdb)
 refine PySem.W.callWith_K (h₀:=X.base) I.ok.mod.kin hk (thn (ha pos pins s σ H _ I h) fun us s1 ⟨vs,H1,I1,r,q⟩=>⟨I1.kIn,?_⟩) he hpl
 exact V2 F hr hb hd hx I1 r q
end
section
variable {X:Cx} {CX:CXT} {k:Nat} {f C:Addr} {fd:FuncData} {ps ks:List Str} {sp:Sp} {E:XK} {x m:Str} {p pos apos kpos:Pos} {e o:Expr} {es:List Expr} {kws:List Keyword} {te ta:TE} {t tk:TA} {nm:Option Str}
variable {g:List Value→List Value→List Value} {gV:List V→List V→List V}
end
structure FnScope (N P:List Str) (sc:Scope):Prop where
 kind:sc.kind = .function
 co:sc.isCoroutine = false
 gen:sc.isGenerator = false
 nd:N.Nodup
 pre:N.take P.length = P
 par:∀ x∈P,sc.names.lookup x = some .local∨sc.names.lookup x = some .cell
 nofree:∀ y∈sc.names,y.2 ≠ .free
theorem Ju {kindOf:Str→Option NameKind} {x:Str}:∀ {binds:List (Str × Value)} {m:Str→Option Value},(∀ v,(x,v) ∉ binds)→bindL kindOf binds m x = m x
 | [],_,_=>rfl
 | (n,v) :: r,m,h=>by
  unfold bindL
  rw [Ju fun w hw=>h w (mem_cons_of_mem _ hw)]
  split
  ·have:x≠n:=by rintro rfl; exact h v mem_cons_self
   simp [this]
  ·rfl
theorem Js {kindOf:Str→Option NameKind} {x:Str}:∀ {binds:List (Str × Value)} {m:Str→Option Value},(∀ v,(x,v) ∉ binds)→bindC kindOf binds m x = m x
 | [],_,_=>rfl
 | (n,v) :: r,m,h=>by
  unfold bindC
  rw [Js fun w hw=>h w (mem_cons_of_mem _ hw)]
  split
  ·rfl
  ·have:x≠n:=by rintro rfl; exact h v mem_cons_self
   simp [this]
theorem Jt {kindOf:Str→Option NameKind} {x:Str} {v:Value}:∀ {P:List Str} {vs:List Value} {i:Nat} {m:Str→Option Value},P.Nodup→P[i]? = some x→vs[i]? = some v→kindOf x = some .local →
  bindL kindOf (P.zip vs) m x = some v
 | [],_,_,_,_,h,_,_=>by simp at h
 | _ :: _,[],_,_,_,_,h,_=>by simp at h
 | p :: P,w :: vs,0,m,nd,h1,h2,hk=>by
  simp at h1 h2; subst h1; subst h2
  show bindL kindOf ((p,w) :: P.zip vs) m p = _
  unfold bindL
  rw [Ju fun v hv=>(nodup_cons.mp nd).1 (List.of_mem_zip hv).1,if_pos hk]
  simp
 | p :: P,w :: vs,i + 1,m,nd,h1,h2,hk=>by
  show bindL kindOf ((p,w) :: P.zip vs) m x = _
  unfold bindL
  exact Jt (i:=i) (nodup_cons.mp nd).2 (by simpa using h1) (by simpa using h2) hk
theorem Jr {kindOf:Str→Option NameKind} {x:Str} {v:Value}:∀ {P:List Str} {vs:List Value} {i:Nat} {m:Str→Option Value},P.Nodup→P[i]? = some x→vs[i]? = some v→kindOf x≠some .local →
  bindC kindOf (P.zip vs) m x = some v
 | [],_,_,_,_,h,_,_=>by simp at h
 | _ :: _,[],_,_,_,_,h,_=>by simp at h
 | p :: P,w :: vs,0,m,nd,h1,h2,hk=>by
  simp at h1 h2; subst h1; subst h2
  show bindC kindOf ((p,w) :: P.zip vs) m p = _
  unfold bindC
  rw [Js fun v hv=>(nodup_cons.mp nd).1 (List.of_mem_zip hv).1,if_neg hk]
  simp
 | p :: P,w :: vs,i + 1,m,nd,h1,h2,hk=>by
  show bindC kindOf ((p,w) :: P.zip vs) m x = _
  unfold bindC
  exact Jr (i:=i) (nodup_cons.mp nd).2 (by simpa using h1) (by simpa using h2) hk
noncomputable def start (N:List Str) (vs:List V):St:=vs.map some ++ List.replicate (N.length - vs.length) none
noncomputable def La (CX:CXT) (P:Program) (w:World) (K:Frag) (mg:Str→Option Value) (base:Heap) (N:List Str) (qual:Str) (scope:Scope) (f:Addr) (cd:Value) (A:Around) (outer:List Env) (s:Shared) (H:Hp) (E:XK):Cx where
 prog:=P
 w:=w
 K:=K
 mg:=mg
 base:=base
 A:=A.deeper (envOfC qual scope s.heap.objs.size f cd)
 N:=N
 s₀:=s
 H₀:=H
 env:=envOfC qual scope s.heap.objs.size f cd
 outer:=outer
 stack:=envOfC qual scope s.heap.objs.size f cd :: outer
 ex:=[]
 calm:=true
 fn:=fun _=>true
 pn:=[]
 xe:=fun e s'=>wpAny (model P w) (A.deeper (envOfC qual scope s.heap.objs.size f cd)) (leaving (envOfC qual scope s.heap.objs.size f cd) e) (fun _ s''=>CX outer H s E e s'') (fun e' s''=>CX outer H s E e' s'') s'
theorem K6 {sc:Scope} {n:Nat} {x:Str} (h:sc.names.lookup x = some .cell):∃ c,(cellsFrom n sc.names []).lookup x = some c:=by
 have q:=PySem.W.cellsFrom_some sc.names n [] (.inl h)
 exact Option.isSome_iff_exists.mp q
theorem Ov {CX:CXT} {P:Program} {w:World} {K:Frag} {mg:Str→Option Value} {base:Heap} {N ps:List Str} {qual:Str} {scope:Scope} {f:Addr} {cd:Value} {A:Around} {outer:List Env} {s s1:Shared} {H:Hp} {E:XK} {us:List Value} {vs:List V}
  (S:FnScope N ps scope) (hd:A.handled = none) (e0:Env0 P w K mg base A outer s H) (hl:vs.length = ps.length) (r:Vals vs us)
  (x:InCallC s s.heap.objs.size (bindL (envOfC qual scope s.heap.objs.size f cd).kindOf (ps.zip us) fun _=>none) (cellsFrom (s.heap.objs.size + 1) scope.names []) (bindC (envOfC qual scope s.heap.objs.size f cd).kindOf (ps.zip us) fun _=>none) s1) :
  Inv (La CX P w K mg base N qual scope f cd A outer s H E) [] (start N vs) H s1:=by
 have hpl:ps.length≤N.length:=by have:=congrArg List.length S.pre; rw [length_take] at this; lia
 obtain ⟨h1,tk,rfl,hk⟩:=x.done
 have noA:∀ b:Addr,b ∉ (La CX P w K mg base N qual scope f cd A outer s H E).ex:=fun b z=>absurd (show b∈([]:List Addr) from z) (by simp)
 refine ⟨⟨e0.mod,S.kind,rfl,rfl,le_refl _,fun y z c h1 h2=>?_,fun y hy=>?_,fun y c _ h=>?_,fun _=>hd,Around.frames_deeper e0.frames,.inr ⟨rfl,rfl⟩,fun b z=>absurd z (noA b),e0.bs,e0.bsz,fun b _ _=>noA b,fun b z=>absurd z (noA b),e0.funs,e0.frf,e0.tb⟩,
  rfl,e0.bare,Un.kept hk,⟨_,x.toInCall.ns,fun i y v h1 h2 h3=>?_⟩,fun y c h=>⟨_,x.cell y c h⟩,e0.hok.fresh (le_refl _),fun y c h=>?_,fun p hp=>absurd (show p∈([]:List (Addr × Obj)) from hp) (by simp),e0.hok.kept hk,?_⟩
 ·exact name_of_addr x.apart (PySem.mem_of_lookup h1) (PySem.mem_of_lookup h2)
 ·have hy:scope.names.lookup y = some .cell∨scope.names.lookup y = some .free:=hy
  rcases hy with hy | hy
  ·exact K6 hy
  ·exact absurd rfl (S.nofree _ (PySem.mem_of_lookup hy))
 ·exact Nat.le_of_lt (x.above y c (PySem.mem_of_lookup h))
 ·have hi:i < vs.length:=by
   unfold start at h2
   by_cases hi:i < vs.length
   ·exact hi
   ·rw [getElem?_append_right (by simpa using hi)] at h2
    rw [List.getElem?_replicate] at h2
    split at h2 <;> cases h2
  have ha:vs[i]? = some v:=by
   unfold start at h2
   rw [getElem?_append_left (by simpa using hi),getElem?_map] at h2
   cases e:vs[i]? with
   | none=>rw [e] at h2; cases h2
   | some a=>rw [e] at h2; cases h2; rfl
  obtain ⟨u,hu,rv⟩:=r.get ha
  have hp:ps[i]? = some y:=by
   rw [← S.pre,List.getElem?_take_of_lt (by lia)]; exact h1
  have ndP:ps.Nodup:=by rw [← S.pre]; exact S.nd.sublist (List.take_sublist _ _)
  refine ⟨u,rv,?_⟩
  rcases S.par y (mem_of_getElem? hp) with k | k
  ·exact .inl ⟨k,Jt ndP hp hu k⟩
  ·obtain ⟨c,e⟩:=K6 (n:=s.heap.objs.size + 1) k
   refine .inr ⟨.inl k,c,e,?_⟩
   have q:=x.cell y c e
   rw [Jr ndP hp hu (by show scope.names.lookup y≠_; rw [k]; decide)] at q
   exact q
 ·exact e0.hok.fresh (Nat.le_of_lt (x.above y c (PySem.mem_of_lookup h)))
 ·unfold start
  show _ = N.length
  rw [length_append,length_map,List.length_replicate]
  lia
theorem TR {CX:CXT} {P:Program} {w:World} {K:Frag} {mg:Str→Option Value} {base:Heap} {k:Nat} {f:Addr} {name qual:Str} {params:Arguments} {body:List Stmt} {scope:Scope} {dV kV doc pm cdv ct oc:Value} {an od:Option Addr}
  {osl:Array (Option Value)} {N ps:List Str} {sp:Sp} (lk:K.lookup f = some ⟨oc,od,.func (PySem.W.fnOf name qual params body scope dV kV doc pm an cdv ct),osl⟩) (hcd:PySem.W.codeIn K cdv qual = true) (S:FnScope N ps scope)
  (len:∀ vs H Q E,sp vs H Q E→vs.length = ps.length)
  (hbody:∀ (A:Around) (outer:List Env) (s:Shared) (H:Hp) (vs:List V) (Q:VK) (E:XK),Room k (A.deeper (envOfC qual scope s.heap.objs.size f cdv))→sp vs H Q E →
   ∃ t,PSs (La CX P w K mg base N qual scope f cdv A outer s H E) body t∧t { nx:=fun _ H'=>Q .non H',rt:=Q } (start N vs) H) :
  FnOk P w K mg base CX (k + 1) f (PySem.W.fnOf name qual params body scope dV kV doc pm an cdv ct) ps sp:=by
 refine ⟨len,fun A outer s H args us vs Q E hr e0 hb r hsp=>?_⟩
 have hl:=len _ _ _ _ hsp
 have KX:K.In s.heap:=e0.mod.kin.keeps fun b o e=>(e0.bs b o e).1
 have lim:s.heap.NoLimit:=e0.mod.nolimit.keeps fun b o e=>(e0.bs b o e).1
 have hkind:∀ y∈ps.zip us,scope.names.lookup y.1 = some .local∨(scope.names.lookup y.1 = some .cell∧((cellsFrom (s.heap.objs.size + 1) scope.names []).lookup y.1).isSome = true):=fun ⟨n,v⟩ hy=>by
  rcases S.par n (List.of_mem_zip hy).1 with q | q
  ·exact .inl q
  ·exact .inr ⟨q,PySem.W.cellsFrom_some _ _ _ (.inl q)⟩
 refine codeAny_call_function hr.depth (KX _ _ lk) rfl S.co S.gen rfl (PySem.W.codeRec_of KX hcd) (hb _ _ _ _ ?_)
 refine wpAny_newFunctionEnv_cells S.kind hkind fun env he s1 x=>?_
 subst he
 refine ⟨lim.keeps x.toInCall.keep,codeAny_func ?_⟩
 obtain ⟨t,ht,hq⟩:=hbody A outer s H vs Q E (hr.deeper _) hsp
 have I:Inv (La CX P w K mg base N qual scope f cdv A outer s H E) [] (start N vs) H s1:=Ov S hr.hd e0 hl r x
 refine wpAny_mono (ht [] s1 (start N vs) H _ I hq) (fun fl s' hs=>?_) fun e s' hs=>hs
 have fin:∀ {σ':St} {H':Hp} {v:V} {u:Value},Inv (La CX P w K mg base N qual scope f cdv A outer s H E) [] σ' H' s'→RelV v u→Q v H'→CE outer P w H s Q u s':=
  fun {σ' H' v u} J rv q=>⟨v,H',J.os,J.bare,J.base,J.hok,rv,q⟩
 cases fl with
 | ret u =>
  obtain ⟨v,σ',H',J,rv,q⟩:=hs
  exact fin J rv q
 | next =>
  obtain ⟨σ',H',J,q⟩:=hs
  exact fin (v:=V.non) (u:=Value.none) J rfl q
 | brk =>
  obtain ⟨_,_,_,q⟩:=hs
  exact False.elim q
 | cont =>
  obtain ⟨_,_,_,q⟩:=hs
  exact False.elim q
end L2
namespace L2
open PySem PySem.Spec PyProof.Rows
section
variable {X:Cx} {x:Str} {p pos:Pos} {e:Expr} {es:List Expr} {t:TA} {id T:String} {r:List V→Hp→VK→Prop}
noncomputable def tCB (r:List V→Hp→VK→Prop) (t:TA):TE:=fun σ H Q=>t σ H fun vs H1=>r vs H1 Q
theorem LN (hc:BX X (.builtin id) r) (hg:Gl X x) (hm:X.mg x = none) (hv:bootBuiltins x = some (.builtin id)) (ha:PA X (e :: es) t) (hn:x ≠ "__name__" := by decide) (hdb:(x == ("__debug__" : Str)) = false:=by decide)
  (he:starEach (e :: es) X.env = (false,eval e X.env) :: starEach es X.env:=by rfl) (hpl:(backTo pos (starEach es X.env)).any (·.1) = false:=by rfl):PE X (.Call (.Name x p) (e :: es) [] pos) (tCB r t):=by
 intro pins s σ H Q I h
 refine wpAny_Call_Name_kw (G0 I hg hm hv ?_ hn hdb)
 exact PyProof.Rows.callWith_builtin1 (thn (ha pos pins s σ H _ I h) fun us s1 ⟨vs,H1,I1,r1,q1⟩=>hc pins s1 σ H1 vs us Q I1 r1 q1) he hpl
theorem OQ (hc:BX X (.type T) r) (hg:Gl X x) (hm:X.mg x = none) (hv:bootBuiltins x = some (.type T)) (ha:PA X (e :: es) t) (hn:x ≠ "__name__" := by decide) (hdb:(x == ("__debug__" : Str)) = false:=by decide)
  (he:starEach (e :: es) X.env = (false,eval e X.env) :: starEach es X.env:=by rfl) (hpl:(backTo pos (starEach es X.env)).any (·.1) = false:=by rfl):PE X (.Call (.Name x p) (e :: es) [] pos) (tCB r t):=by
 intro pins s σ H Q I h
 refine wpAny_Call_Name_kw (G0 I hg hm hv ?_ hn hdb)
 exact PyProof.Rows.callWith_type1 (thn (ha pos pins s σ H _ I h) fun us s1 ⟨vs,H1,I1,r1,q1⟩=>hc pins s1 σ H1 vs us Q I1 r1 q1) he hpl
end
end L2
namespace HT
open PySem PyProof.Rows
section
open PySem.SeqAt
open PySem.AutoSeq1 (wpAny_loadPart')
open PySem.MeetsSeq PySem.MeetsSeq2 PySem.MeetsSeq3
end
section
variable {prog:Program} {w:World} {A:Around} {E:Value→Shared→Prop} {s:Shared}
end
end HT
namespace L2
open PySem PySem.Spec PyProof.Rows
noncomputable abbrev TO:=St→Hp→(Option Int→Hp→Prop)→Prop
noncomputable def PO (X:Cx) (e:Option Expr) (t:TO):Prop:=
 ∀ (pins:List (Addr × Obj)) (s:Shared) (σ:St) (H:Hp) (Q:Option Int→Hp→Prop),Inv X pins σ H s→t σ H Q →
  wpAny (model X.prog X.w) X.A (evalPart e X.env) (fun u s'=>∃ o H',Inv X pins σ H' s'∧IsPart u o∧Q o H') X.xe s
noncomputable def Tx:TO:=fun _ H Q=>Q none H
noncomputable def XF (t:TE):TO:=fun σ H Q=>t σ H fun x H1=>∃ i,x = .int i∧Q (some i) H1
section
variable {X:Cx} {e:Expr} {te:TE} {lo hi:Option Expr} {tl th:TO} {pos p2:Pos}
theorem NS:PO X none Tx:=by
 intro pins s σ H Q I h
 rw [evalPart_none]
 exact wpAny_pure ⟨none,H,I,.none,h⟩
theorem NT (h:PE X e te):PO X (some e) (XF te):=by
 intro pins s σ H Q I hw
 rw [evalPart_some]
 refine thn (h pins s σ H _ I hw) fun u s1 yy=>?_
 obtain ⟨x,H1,I1,r1,q1⟩:=yy
 obtain ⟨i,rfl,q⟩:=q1
 obtain ⟨t,rfl⟩:=r1
 exact ⟨some i,H1,I1,.int i t,q⟩
noncomputable def SlR (X:Cx) (r:V→Option Int→Option Int→Hp→VK→Prop):Prop:=
 ∀ (pins:List (Addr × Obj)) (s:Shared) (σ:St) (H:Hp) (x:V) (v vl vu:Value) (lo hi:Option Int) (sl:Addr) (Q:VK),Inv X pins σ H s→RelV x v→s.heap.IsSliceOf sl vl vu .none→IsPart vl lo→IsPart vu hi→r x lo hi H Q →
  ∃ T id,typeLookup (.type T) "__getitem__" = pure (some (.builtin id))∧s.TypeIs v T∧wpAny (model X.prog X.w) X.A (getItem v (.ref sl)) (EP X pins σ Q) X.xe s
noncomputable def tSl (r:V→Option Int→Option Int→Hp→VK→Prop) (te:TE) (tl th:TO):TE:=fun σ H Q=>te σ H fun x H1=>tl σ H1 fun l H2=>th σ H2 fun u H3=>r x l u H3 Q
theorem LO {r:V→Option Int→Option Int→Hp→VK→Prop} (hr:SlR X r) (he:PE X e te) (hl:PO X lo tl) (hu:PO X hi th):PE X (.Subscript e (.Slice lo hi none p2) pos) (tSl r te tl th):=by
 intro pins s σ H Q I h
 refine Subscript_ (thn (he pins s σ H _ I h) fun v s1 yy=>?_)
 obtain ⟨x,H1,I1,r1,q1⟩:=yy
 refine wpAny_Slice (thn (hl pins s1 σ H1 _ I1 q1) fun vl s2 ⟨l,H2,I2,pl,q2⟩=>thn (hu pins s2 σ H2 _ I2 q2) fun vu s3 yy=>?_)
 obtain ⟨u,H3,I3,pu,q3⟩:=yy
 rw [evalPart_none]
 refine wpAny_pure ?_
 have I4:Inv X pins σ H3 { s3 with heap:=s3.heap.push { cls:=.type "slice",data:=.fields #[vl,vu,.none] } }:=I3.kept (t':=s3.toks) fun b ob q=>get?_push_of_some _ q
 obtain ⟨T,id,hT,ht,hg⟩:=hr pins { s3 with heap:=s3.heap.push { cls:=.type "slice",data:=.fields #[vl,vu,.none] } } σ H3 x v vl vu l u s3.heap.objs.size Q I4 r1 (Heap.IsSliceOf.new ..) pl pu q3
 show wpAny (model X.prog X.w) X.A (subscriptTail e (.Slice lo hi none p2) v (.ref s3.heap.objs.size)) (EP X pins σ Q) X.xe { s3 with heap:=s3.heap.push { cls:=.type "slice",data:=.fields #[vl,vu,.none] } }
 exact tail_any (ops:=[.ref s3.heap.objs.size,v]) ht hT hg (by with_unfolding_all rfl)
end
end L2
namespace L2
open PySem PySem.Spec PyProof.Rows
noncomputable def ixN (n:Nat) (i:Int):Option Nat:=if 0≤i then (if i < n then some i.toNat else none) else if -(n:Int)≤i then some (i + n).toNat else none
noncomputable def atI {α:Type} (xs:List α) (i:Int):Option α:=(ixN xs.length i).bind fun j=>xs[j]?
theorem Nz {n:Nat} {i:Int} {j:Nat} (h:ixN n i = some j):seqIndex? i n = some j∧j < n ∧ -(n:Int)≤i∧i < n:=by
 unfold ixN at h
 by_cases h0:0≤i
 ·rw [if_pos h0] at h
  by_cases h1:i < n
  ·rw [if_pos h1] at h
   have e:i.toNat = j:=Option.some.inj h
   exact ⟨by rw [seqIndex_of h0 h1,e],by lia,by lia,h1⟩
  ·rw [if_neg h1] at h; cases h
 ·rw [if_neg h0] at h
  by_cases h1 : -(n:Int)≤i
  ·rw [if_pos h1] at h
   have e:(i + n).toNat = j:=Option.some.inj h
   exact ⟨by rw [seqIndex_neg (by lia) h1,e],by lia,h1,by lia⟩
  ·rw [if_neg h1] at h; cases h
theorem BH {α:Type} {xs:List α} {i:Int} {v:α} (h:atI xs i = some v):∃ j,seqIndex? i xs.length = some j∧xs[j]? = some v∧j < xs.length ∧ -(xs.length:Int)≤i∧i < xs.length:=by
 unfold atI at h
 cases e:ixN xs.length i with
 | none=>rw [e] at h; cases h
 | some j =>
  rw [e] at h
  obtain ⟨h1,h2,h3,h4⟩:=Nz e
  exact ⟨j,h1,h,h2,h3,h4⟩
noncomputable def Nj (b:Expr):Prop:=∀ o i,subscripted b false o i = operate [o,i] (getItem o i)
noncomputable def IxR (X:Cx) (r:R2):Prop:=
 ∀ (value slice:Expr) (pins:List (Addr × Obj)) (s:Shared) (σ:St) (H:Hp) (x y:V) (v u:Value) (Q:VK),Inv X pins σ H s→RelV x v→RelV y u→r x y H Q →
  subscripted slice false v u = operate [v,u] (getItem v u)→wpAny (model X.prog X.w) X.A (subscriptTail value slice v u) (EP X pins σ Q) X.xe s
noncomputable def MtR (X:Cx) (id:String) (r:V→List V→Hp→VK→Prop):Prop:=
 ∀ (pins:List (Addr × Obj)) (s:Shared) (σ:St) (H:Hp) (x:V) (xs:List V) (v:Value) (us:List Value) (Q:VK),Inv X pins σ H s→RelV x v→Vals xs us→r x xs H Q →
  wpAny (model X.prog X.w) X.A (call (.builtin id) (v :: us)) (EP X pins σ Q) X.xe s
section
variable {X:Cx} {a b:Expr} {ta tb:TE} {pos:Pos}
theorem IxR.or {r r':R2} (h:IxR X r) (h':IxR X r'):IxR X (fun x y H Q=>r x y H Q∨r' x y H Q):=by
 intro value slice pins s σ H x y v u Q I rx ry q hs
 rcases q with q | q
 ·exact h value slice pins s σ H x y v u Q I rx ry q hs
 ·exact h' value slice pins s σ H x y v u Q I rx ry q hs
theorem Xg {r:R2} (hr:IxR X r) (ha:PE X a ta) (hb:PE X b tb) (hs:Nj b):PE X (.Subscript a b pos) (tOp r ta tb):=by
 intro pins s σ H Q I h
 exact Subscript_ (Us ha hb I h fun v u s2 x y H2 I2 rx ry q=>hr a b pins s2 σ H2 x y v u Q I2 rx ry q (hs _ _))
noncomputable def Xm (K:Frag):R2:=fun x y H Q=>∃ p xs i v,x = .ref p∧y = .int i∧SqL K H p xs∧atI xs i = some v∧Q v H
noncomputable def Xo (K:Frag):R2:=fun x y H Q=>∃ p xs i v,x = .ref p∧y = .int i∧SqT K H p xs∧atI xs i = some v∧Q v H
noncomputable def Xn:R2:=fun x y H Q=>∃ z i c,x = .str z∧y = .int i∧z.length≤sizeLine∧atI z.cps.toList i = some c∧Q (.str ⟨#[c]⟩) H
theorem RV:IxR X (Xm X.K):=by
 intro value slice pins s σ H x y v u Q I rx ry h hs
 obtain ⟨p,xs,i,z,rfl,rfl,hq,he,q⟩:=h
 cases rx
 obtain ⟨t,rfl⟩:=ry
 obtain ⟨its,r,pl,hz⟩:=I.list hq
 obtain ⟨j,h1,h2,h3,h4,h5⟩:=BH he
 obtain ⟨w,ew,rw'⟩:=r.get h2
 have hl:=r.length
 have hn:=Fd
 have fin:EP X pins σ Q w s:=⟨z,H,I,rw',q⟩
 by_cases h0:0≤i
 ·have hj:i.toNat = j:=by
   rw [seqIndex_of h0 h5] at h1
   exact Option.some.inj h1
  exact item_listR pl.isList h0 (by lia) (by rw [hj]; simpa using ew) fin hs
 ·have hj:(i + (its.toArray.size:Int)).toNat = j:=by
   rw [seqIndex_neg (by lia) h4] at h1
   rw [size_toArray,← hl]
   exact Option.some.inj h1
  exact subscriptTail_builtinR (x:=w) pl.isList.typeIs slot_list_getitem.lookup
   (wpAny_getItem_list_neg (Q:=fun r s'=>r = w∧EP X pins σ Q r s') pl.isList (by lia) (by rw [size_toArray] <;> lia) (by lia) (by rw [hj]; simpa using ew) ⟨rfl,fin⟩) hs
theorem UJ:IxR X (Xo X.K):=by
 intro value slice pins s σ H x y v u Q I rx ry h hs
 obtain ⟨p,xs,i,z,rfl,rfl,hq,he,q⟩:=h
 cases rx
 obtain ⟨t,rfl⟩:=ry
 obtain ⟨its,r,pl,hz⟩:=I.tuple hq
 obtain ⟨j,h1,h2,h3,h4,h5⟩:=BH he
 obtain ⟨w,ew,rw'⟩:=r.get h2
 have hl:=r.length
 have hn:=Fd
 have fin:EP X pins σ Q w s:=⟨z,H,I,rw',q⟩
 exact subscriptTail_builtinR (x:=w) pl.typeIs slot_tuple_getitem.lookup
  (getItem_tuple (j:=j) (Q:=fun r s'=>r = w∧EP X pins σ Q r s') pl (by lia) (by lia) (by rw [size_toArray,← hl]; exact h1) (by simpa using ew) ⟨rfl,fin⟩) hs
theorem UI:IxR X Xn:=by
 intro value slice pins s σ H x y v u Q I rx ry h hs
 obtain ⟨z,i,c,rfl,rfl,hz,he,q⟩:=h
 obtain ⟨t,rfl⟩:=rx
 obtain ⟨t',rfl⟩:=ry
 obtain ⟨j,h1,h2,h3,h4,h5⟩:=BH he
 have hl:z.cps.toList.length = z.length:=by simp [Str.length]
 rw [hl] at h1 h4 h5
 have hn:=Fd
 exact tail_any (typeIs_str s z t) slot_str_getitem.lookup (getItem_str (c:=c) (by
  have e1:decide (i < -(2 ^ 63:Int)) = false:=decide_eq_false (by lia)
  have e2:decide (i ≥ 2 ^ 63) = false:=decide_eq_false (by lia)
  rw [e1,e2,Bool.or_false]) (by rw [h1]; simpa using h2) ⟨.str ⟨#[c]⟩,H,I.tok _,⟨_,rfl⟩,q⟩) hs
noncomputable def rIx (K:Frag):R2:=fun x y H Q=>Xm K x y H Q∨Xo K x y H Q∨Xn x y H Q
theorem AF:IxR X (rIx X.K):=RV.or (UJ.or UI)
theorem Mz (its:List Value) (n j:Nat) (u:Value):Obj.mapSeq (·.setIfInBounds j u) { cls:=.type "list",data:=.seq its.toArray n } = { cls:=.type "list",data:=.seq (its.set j u).toArray n }:=by
 simp [Obj.mapSeq]
theorem Inv.lst {pins:List (Addr × Obj)} {σ:St} {H:Hp} {s:Shared} {p:Addr} {xs:List V} (I:Inv X pins σ H s) (h:H p = some (.lst xs)) :
  ∃ (its:List Value) (n:Nat),Vals xs its∧s.heap.get? p = some { cls:=.type "list",data:=.seq its.toArray n }∧xs.length≤sizeLine:=by
 obtain ⟨z,its,n,r,e⟩:=I.hok p _ h
 exact ⟨its,n,r,e,z⟩
theorem Inv.lstUpd {pins:List (Addr × Obj)} {σ:St} {H:Hp} {s:Shared} {p:Addr} {xs ys:List V} {its its':List Value} {n n':Nat} {f:Obj→Obj} (I:Inv X pins σ H s) (h:H p = some (.lst xs))
  (ho:s.heap.get? p = some { cls:=.type "list",data:=.seq its.toArray n }) (hf:f { cls:=.type "list",data:=.seq its.toArray n } = { cls:=.type "list",data:=.seq its'.toArray n' }) (r:Vals ys its') (hz:ys.length≤sizeLine) (t:Nat) :
  Inv X pins σ (upd H p (.lst ys)) { s with heap:=s.heap.update p f,toks:=t }:=by
 have e:(s.heap.update p f).get? p = some { cls:=.type "list",data:=.seq its'.toArray n' }:=by
  rw [Heap.get?_update_self f ho (by rw [hf] <;> rfl),hf]
 refine I.write (x:=p) (e:=p) (by rw [h]; trivial) (.inl rfl) (fun b u hb q=>(Heap.get?_update_other _ _ (Ne.symm hb)).trans q) ⟨_,e⟩ ?_
 exact ⟨hz,its',n',r,e⟩
noncomputable def T9:V→V→V→Hp→(Hp→Prop)→Prop:=fun o i v H Q=>∃ p xs k j,o = .ref p∧i = .int k∧H p = some (.lst xs)∧ixN xs.length k = some j∧Q (upd H p (.lst (xs.set j v)))
theorem set_list:WI X T9:=by
 intro pins s σ H o i v ov iv u Q I ro ri rv h
 obtain ⟨p,xs,k,j,rfl,rfl,hp,hj,q⟩:=h
 cases ro
 obtain ⟨t,rfl⟩:=ri
 obtain ⟨its,n,r,ho,hz⟩:=I.lst hp
 obtain ⟨h1,h2,h3,h4⟩:=Nz hj
 have hl:=r.length
 have hn:=Fd
 have I':Inv X pins σ (upd H p (.lst (xs.set j v))) { s with heap:=s.heap.update p (Obj.mapSeq (·.setIfInBounds j u)) }:=
  I.lstUpd hp ho (Mz its n j u) (r.set rv j) (by rw [length_set]; exact hz) s.toks
 by_cases h0:0≤k
 ·have hk:k.toNat = j:=by
   rw [seqIndex_of h0 h4] at h1
   exact Option.some.inj h1
  exact PySem.W.ki_setAt ho h0 (by lia) (by rw [size_toArray,← hl]; exact h4) (by rw [hk]; exact ⟨_,I',q⟩)
 ·have hk:(k + (its.toArray.size:Int)).toNat = j:=by
   rw [seqIndex_neg (by lia) h3] at h1
   rw [size_toArray,← hl]
   exact Option.some.inj h1
  exact PySem.W.ki_setBack ho (by lia) (by rw [size_toArray,← hl]; exact h3) (by lia) (by rw [hk]; exact ⟨_,I',q⟩)
noncomputable def FG:V→Bool
 | .non=>true
 | .bl _=>true
 | .int _=>true
 | .str _=>true
 | _=>false
noncomputable def eqV:V→V→Bool
 | .non,.non=>true
 | .bl a,.bl b=>a == b
 | .bl a,.int b=>(if a then 1 else 0) == b
 | .int a,.bl b=>a == (if b then 1 else 0)
 | .int a,.int b=>a == b
 | .str a,.str b=>a == b
 | _,_=>false
theorem Uu {A:Around} {s:Shared} {y x:V} {u v:Value} (ry:RelV y u) (rx:RelV x v) (fy:FG y = true) (fx:FG x = true):SeqAt.EqAt A s u v (eqV y x):=by
 cases y with
 | non =>
  cases ry
  cases x with
  | non=>cases rx; exact SeqAt.EqAt.same _
  | bl b=>cases rx; exact SeqAt.EqAt.none_bool b
  | int b=>obtain ⟨t,rfl⟩:=rx; exact SeqAt.EqAt.none_int b t
  | str b=>obtain ⟨t,rfl⟩:=rx; exact SeqAt.EqAt.none_str b t
  | _=>exact absurd (show false = true from fx) Bool.false_ne_true
 | bl a =>
  cases ry
  cases x with
  | non=>cases rx; exact SeqAt.EqAt.bool_none a
  | bl b=>cases rx; exact SeqAt.EqAt.bool_bool a b
  | int b=>obtain ⟨t,rfl⟩:=rx; exact SeqAt.EqAt.bool_int a b t
  | str b=>obtain ⟨t,rfl⟩:=rx; exact SeqAt.EqAt.bool_str a b t
  | _=>exact absurd (show false = true from fx) Bool.false_ne_true
 | int a =>
  obtain ⟨t',rfl⟩:=ry
  cases x with
  | non=>cases rx; exact SeqAt.EqAt.int_none a t'
  | bl b=>cases rx; exact SeqAt.EqAt.int_bool a t' b
  | int b=>obtain ⟨t,rfl⟩:=rx; exact SeqAt.EqAt.int_int a t' b t
  | str b=>obtain ⟨t,rfl⟩:=rx; exact SeqAt.EqAt.int_str a t' b t
  | _=>exact absurd (show false = true from fx) Bool.false_ne_true
 | str a =>
  obtain ⟨t',rfl⟩:=ry
  cases x with
  | non=>cases rx; exact SeqAt.EqAt.str_none a t'
  | bl b=>cases rx; exact SeqAt.EqAt.str_bool a t' b
  | int b=>obtain ⟨t,rfl⟩:=rx; exact SeqAt.EqAt.str_int a t' b t
  | str b=>obtain ⟨t,rfl⟩:=rx; exact SeqAt.EqAt.str_str a t' b t
  | _=>exact absurd (show false = true from fx) Bool.false_ne_true
 | _=>exact absurd (show false = true from fy) Bool.false_ne_true
noncomputable def eqU (x:V) (u:Value):Bool:=match u with
 | .none=>eqV .non x
 | .bool b=>eqV (.bl b) x
 | .int i _=>eqV (.int i) x
 | .str z _=>eqV (.str z) x
 | _=>false
theorem Pk {x y:V} {u:Value} (r:RelV y u) (f:FG y = true):eqU x u = eqV y x:=by
 cases y with
 | non=>cases r; rfl
 | bl b=>cases r; rfl
 | int i=>obtain ⟨t,rfl⟩:=r; rfl
 | str z=>obtain ⟨t,rfl⟩:=r; rfl
 | _=>exact absurd (show false = true from f) Bool.false_ne_true
theorem Hw {x:V} {xs:List V} {us:List Value} (h:Vals xs us):xs.all FG = true→us.any (eqU x) = xs.any fun y=>eqV y x:=by
 induction h with
 | nil=>exact fun _=>rfl
 | cons r t ih =>
  intro f
  rw [all_cons,and_eq_true] at f
  rw [any_cons,any_cons,Pk r f.1,ih f.2]
theorem Fg {A:Around} {s:Shared} {x:V} {v:Value} (rx:RelV x v) (fx:FG x = true):∀ {xs:List V} {us:List Value},Vals xs us→xs.all FG = true→∀ u∈us,SeqAt.EqAt A s u v (eqU x u)
 | _,_,.nil,_=>fun u hu=>by cases hu
 | y :: xs,u :: us,.cons r t,f=>fun u' hu=>by
  rw [all_cons,and_eq_true] at f
  rcases mem_cons.mp hu with rfl | hu
  ·rw [Pk r f.1]; exact Uu r rx f.1 fx
  ·exact Fg rx fx t f.2 u' hu
noncomputable def inV (x:V) (xs:List V):Bool:=xs.any fun y=>eqV y x
noncomputable def rIn (K:Frag) (neg:Bool):R2:=fun x y H Q=>∃ p xs,y = .ref p∧(SqL K H p xs∨SqT K H p xs)∧FG x = true∧xs.all FG = true∧Q (.bl (if neg then !inV x xs else inV x xs)) H
theorem OJ:OpR X (compareOp .In) (rIn X.K false):=by
 intro pins s σ H x y v u Q I rx ry h
 obtain ⟨p,xs,rfl,hq,fx,fs,q⟩:=h
 cases ry
 rcases hq with hq | hq
 ·obtain ⟨its,r,pl,hz⟩:=I.list hq
  refine SeqAt.in_listAt (eqU x) pl.isList (fun w hw=>Fg rx fx r fs w (by simpa using hw)) ⟨.bl _,H,I,rfl,?_⟩
  rw [show its.toArray.any (eqU x) = its.any (eqU x) by simp,Hw r fs]
  exact q
 ·obtain ⟨its,r,pl,hz⟩:=I.tuple hq
  refine SeqAt.in_tupleAt (eqU x) pl (fun w hw=>Fg rx fx r fs w (by simpa using hw)) ⟨.bl _,H,I,rfl,?_⟩
  rw [show its.toArray.any (eqU x) = its.any (eqU x) by simp,Hw r fs]
  exact q
theorem Kv:OpR X (compareOp .NotIn) (rIn X.K true):=by
 intro pins s σ H x y v u Q I rx ry h
 obtain ⟨p,xs,rfl,hq,fx,fs,q⟩:=h
 cases ry
 rcases hq with hq | hq
 ·obtain ⟨its,r,pl,hz⟩:=I.list hq
  refine SeqAt.notIn_listAt (eqU x) pl.isList (fun w hw=>Fg rx fx r fs w (by simpa using hw)) ⟨.bl _,H,I,rfl,?_⟩
  rw [show its.toArray.any (eqU x) = its.any (eqU x) by simp,Hw r fs]
  exact q
 ·obtain ⟨its,r,pl,hz⟩:=I.tuple hq
  refine SeqAt.notIn_tupleAt (eqU x) pl (fun w hw=>Fg rx fx r fs w (by simpa using hw)) ⟨.bl _,H,I,rfl,?_⟩
  rw [show its.toArray.any (eqU x) = its.any (eqU x) by simp,Hw r fs]
  exact q
theorem Kw:OpR X (compareOp .NotIn) (fun x y H Q=>∃ i j,x = .str i∧y = .str j∧Q (.bl (!(!(Builtin.Str.occurrences j i 0 j.length 1).isEmpty))) H):=by
 intro pins s σ H x y v u Q I rx ry h
 obtain ⟨i,j,rfl,rfl,q⟩:=h
 obtain ⟨t,rfl⟩:=rx
 obtain ⟨t',rfl⟩:=ry
 exact notIn_str ⟨.bl _,H,I,rfl,q⟩
theorem J3:BX X (.builtin "len") (fun xs H Q=>∃ p ys,xs = [.ref p]∧(SqL X.K H p ys∨SqT X.K H p ys)∧Q (.int ys.length) H):=by
 intro pins s σ H xs us Q I r h
 obtain ⟨p,ys,rfl,hq,q⟩:=h
 obtain ⟨u,rfl,rx⟩:=vals1 r
 cases rx
 have hn:=Fd
 rcases hq with hq | hq
 ·obtain ⟨its,r',pl,hz⟩:=I.list hq
  have hlen:=r'.length
  exact Calls.call_len_list pl.isList (by simp only [size_toArray] <;> lia) ⟨.int ys.length,H,I.tok _,⟨s.toks + 1,by rw [size_toArray,hlen]⟩,q⟩
 ·obtain ⟨its,r',pl,hz⟩:=I.tuple hq
  have hlen:=r'.length
  exact len_tuple pl (by simp only [size_toArray] <;> lia) ⟨.int ys.length,H,I.tok _,⟨s.toks + 1,by rw [size_toArray,hlen]⟩,q⟩
theorem J4:BX X (.builtin "len") (fun xs H Q=>∃ z,xs = [.str z]∧z.length≤sizeLine∧Q (.int z.length) H):=by
 intro pins s σ H xs us Q I r h
 obtain ⟨z,rfl,hz,q⟩:=h
 obtain ⟨u,rfl,t,rfl⟩:=vals1 r
 have hn:=Fd
 exact len_str (by lia) ⟨.int z.length,H,I.tok _,⟨_,rfl⟩,q⟩
theorem BX.or {f:Value} {r r':List V→Hp→VK→Prop} (h:BX X f r) (h':BX X f r'):BX X f (fun xs H Q=>r xs H Q∨r' xs H Q):=by
 intro pins s σ H xs us Q I rs q
 rcases q with q | q
 ·exact h pins s σ H xs us Q I rs q
 ·exact h' pins s σ H xs us Q I rs q
noncomputable def tyV (K:Frag) (T:String) (x:V) (H:Hp):Prop:=match x with
 | .str _=>T = "str"
 | .int _=>T = "int"
 | .ref p=>(T = "list" ∧ ∃ xs,SqL K H p xs)∨(T = "tuple" ∧ ∃ o,K.lookup p = some o∧o.cls = .type "tuple" ∧ o.dict = none) ∨
   (T = "dict" ∧ ((∃ kvs,H p = some (.dK kvs))∨∃ kvs,H p = some (.dT kvs)))∨(T = "set" ∧ ∃ S n,H p = some (.set S n))
 | _=>False
theorem Wx {pins:List (Addr × Obj)} {σ:St} {H:Hp} {s:Shared} {T:String} {x:V} {v:Value} (I:Inv X pins σ H s) (r:RelV x v) (ty:tyV X.K T x H) :
  s.TypeIs v T∧∀ a,v = .ref a→∃ ob,s.heap.get? a = some ob∧ob.dict = none:=by
 cases x with
 | str z =>
  obtain ⟨t,rfl⟩:=r
  cases (show T = "str" from ty)
  exact ⟨typeIs_str s z t,fun _ e=>nomatch e⟩
 | int i =>
  obtain ⟨t,rfl⟩:=r
  cases (show T = "int" from ty)
  exact ⟨typeIs_int s i t,fun _ e=>nomatch e⟩
 | ref p =>
  cases r
  rcases ty with ⟨rfl,xs,hq⟩ | ⟨rfl,o,hk,hc,hd⟩ | ⟨rfl,hk⟩ | ⟨rfl,S,n,hk⟩
  ·obtain ⟨its,_,pl,_⟩:=I.list hq
   refine ⟨pl.isList.typeIs,fun a e=>?_⟩
   cases e
   obtain ⟨o,n,e,c,hd,_⟩:=pl
   exact ⟨o,e,hd⟩
  ·refine ⟨⟨o,I.kIn p o hk,hc⟩,fun a e=>?_⟩
   cases e
   exact ⟨o,I.kIn _ o hk,hd⟩
  ·have z:∃ o,s.heap.get? p = some o∧o.ExactDict:=by
    rcases hk with ⟨kvs,hk⟩ | ⟨kvs,hk⟩
    ·obtain ⟨_,_,_,_,o,_,_,e,ex,_⟩:=I.hok p _ hk
     exact ⟨o,e,ex⟩
    ·obtain ⟨_,_,_,_,o,_,_,e,ex,_⟩:=I.hok p _ hk
     exact ⟨o,e,ex⟩
   obtain ⟨o,e,ex⟩:=z
   refine ⟨⟨o,e,ex.1⟩,fun a e2=>?_⟩
   cases e2
   exact ⟨o,e,ex.2.1⟩
  ·obtain ⟨o,_,_,_,e,ex,_⟩:=I.hok p _ hk
   refine ⟨⟨o,e,ex.1⟩,fun a e2=>?_⟩
   cases e2
   exact ⟨o,e,ex.2.1⟩
 | _=>exact False.elim ty
noncomputable def tBM (K:Frag) (T:String) (r:V→List V→Hp→VK→Prop) (to:TE) (t:TA):TE:=fun σ H Q=>to σ H fun x H1=>tyV K T x H1∧t σ H1 fun xs H2=>r x xs H2 Q
variable {o e:Expr} {es:List Expr} {to:TE} {t:TA} {name:Str} {apos cpos:Pos} {T id:String} {r:V→List V→Hp→VK→Prop}
theorem NM (pa:PlainAttrs T) (slot:Slot T name id) (hty:typeOf (.builtin id) = pure (.type "method_descriptor")) (hm:MtR X id r) (ho:PE X o to) (ha:PA X (e :: es) t)
  (hbase:attributeBase o name X.env (eval o X.env) = eval o X.env:=by rfl)
  (hfew:((backTo cpos (starEach (e :: es) X.env)).all (fun x=>!x.1) && (backToKw cpos (keywordEach [] X.env)).all (fun x=>x.1.isSome)
   && decide ((e :: es).length + ([]:List Keyword).length + (if ([]:List Keyword).isEmpty then 0 else 1) < 30)) = true:=by rfl)
  (hline:(apos.endLine == cpos.line) = true:=by rfl) (hs:starEach (e :: es) X.env = (false,eval e X.env) :: starEach es X.env:=by rfl) (hplain:(backTo cpos (starEach es X.env)).any (·.1) = false:=by rfl) :
  PE X (.Call (.Attribute o name apos) (e :: es) [] cpos) (tBM X.K T r to t):=by
 intro pins s σ H Q I h
 refine wpAny_Call_method_late hbase hfew hline rfl (thn (ho pins s σ H _ I h) fun v s1 yy=>?_)
 obtain ⟨x,H1,I1,r1,ty,q1⟩:=yy
 obtain ⟨h1,h2⟩:=Wx I1 r1 ty
 refine ⟨T,id,pa,slot,hty,h1,h2,?_⟩
 have hA:=ha cpos pins s1 σ H1 _ I1 q1
 rw [hs] at hA ⊢
 refine Calls.callWith_builtin (by show (false || (backTo cpos (starEach es X.env)).any (·.1)) = false; rw [hplain] <;> rfl) (Calls.evalArgs_plain ?_)
 exact thn hA fun us s2 ⟨vs,H2,I2,r2,q2⟩=>hm pins s2 σ H2 x vs v us Q I2 r1 r2 q2
/- xs.append(e),list.index on a module's tuple .. are MtR facts of 06m -/
end
end L2
namespace L2
open PySem PySem.Spec PyProof.Rows
noncomputable def MtM (X:Cx) (id:String) (r:V→List V→Hp→VK→Prop):Prop:=
 ∀ (pins:List (Addr × Obj)) (s:Shared) (σ:St) (H:Hp) (x:V) (xs:List V) (v:Value) (us:List Value) (Q:VK),Inv X pins σ H s→RelV x v→Vals xs us→r x xs H Q →
  wpAny (model X.prog X.w) X.A (call (.builtin id) (v :: us)) (EP X pins σ Q) X.xe s
theorem Vals.one {x:V} {us:List Value} (h:Vals [x] us):∃ u,us = [u]∧RelV x u:=by
 cases h with
 | cons r t=>cases t; exact ⟨_,rfl,r⟩
theorem Vals.two {x y:V} {us:List Value} (h:Vals [x,y] us):∃ u v,us = [u,v]∧RelV x u∧RelV y v:=by
 cases h with
 | cons r t =>
  obtain ⟨v,rfl,q⟩:=Vals.one t
  exact ⟨_,_,rfl,r,q⟩
section
variable {X:Cx} {pins:List (Addr × Obj)} {σ:St} {H:Hp} {s:Shared} {l b:Addr} {xs ys zs:List V}
theorem Inv.lset {its its':List Value} {n:Nat} {f:Array Value→Array Value} {t':Nat} (I:Inv X pins σ H s) (hH:H l = some (.lst xs))
  (e:s.heap.get? l = some { cls:=.type "list",data:=.seq its.toArray n }) (hf:f its.toArray = its'.toArray) (hv:Vals ys its') (hz:ys.length≤sizeLine) :
  Inv X pins σ (upd H l (.lst ys)) { s with heap:=s.heap.update l (Obj.mapSeq f),toks:=t' }:=by
 have q:=PySem.IsL.update e f
 rw [hf] at q
 refine I.write (x:=l) (e:=l) (by rw [hH]; exact trivial) (.inl rfl) (fun b' u hb hu=>(Heap.get?_update_other s.heap (Obj.mapSeq f) (Ne.symm hb)).trans hu) ⟨_,q⟩ ?_
 exact ⟨hz,its',_,hv,q⟩
theorem Inv.lnew {its:List Value} {t':Nat} (I:Inv X pins σ H s) (hv:Vals ys its) (hz:ys.length≤sizeLine) :
  Inv X pins σ (upd H s.heap.objs.size (.lst ys)) { s with heap:=s.heap.push { cls:=.type "list",data:=.seq its.toArray },toks:=t' }:=
 I.laid (fun _ _ q=>get?_push_of_some _ q) (le_refl _) ⟨hz,its,0,hv,get?_push_size _ rfl⟩
theorem Inv.fresh (I:Inv X pins σ H s):H s.heap.objs.size = none:=I.hok.fresh (le_refl _)
theorem Inv.lstM (I:Inv X pins σ H s) (hH:H l = some (.lst xs)):xs.length≤sizeLine∧∃ (its:List Value) (n:Nat),Vals xs its∧xs.length = its.length∧s.heap.get? l = some { cls:=.type "list",data:=.seq its.toArray n }:=by
 obtain ⟨z,its,n,r,e⟩:=I.hok l _ hH
 exact ⟨z,its,n,r,r.length,e⟩
theorem Qd {n:Nat} (h:n≤sizeLine):Builtin.List.listTooLong n = false:=by
 unfold Builtin.List.listTooLong
 exact decide_eq_false (by lia)
end
section
variable {X:Cx}
noncomputable def NV:V→List V→Hp→VK→Prop:=fun x vs H Q=>∃ l xs y,x = .ref l∧vs = [y]∧H l = some (.lst xs)∧xs.length < sizeLine∧Q .non (upd H l (.lst (xs ++ [y])))
theorem JJ:MtM X "list.append" NV:=by
 intro pins s σ H x vs v us Q I rx rv h
 obtain ⟨l,xs,y,rfl,rfl,hH,hz,q⟩:=h
 cases rx
 obtain ⟨u,rfl,ru⟩:=rv.one
 obtain ⟨z,its,n,r,hl,e⟩:=I.lstM hH
 refine call_meets F.slot_list_append ⟨_,e,rfl⟩ F.entry_list_append (F.args_list_append_2 _ _) (PySem.list_append l its.toArray n u (by rw [size_toArray]; lia)) ⟨e,?_⟩
 refine ⟨.non,_,I.lset (its':=its ++ [u]) hH e (by simp) (r.append (.cons ru .nil)) ?_,rfl,q⟩
 rw [length_append,List.length_singleton]
 lia
noncomputable def NW:V→List V→Hp→VK→Prop:=fun x vs H Q=>∃ l b xs zs,x = .ref l∧vs = [.ref b]∧H l = some (.lst xs)∧H b = some (.lst zs)∧xs.length + zs.length≤sizeLine∧Q .non (upd H l (.lst (xs ++ zs)))
theorem OF:MtM X "list.extend" NW:=by
 intro pins s σ H x vs v us Q I rx rv h
 obtain ⟨l,b,xs,zs,rfl,rfl,hH,hB,hz,q⟩:=h
 cases rx
 obtain ⟨u,rfl,ru⟩:=rv.one
 cases ru
 obtain ⟨z,its,n,r,hl,e⟩:=I.lstM hH
 obtain ⟨z2,its2,n2,r2,hl2,e2⟩:=I.lstM hB
 have hsz:its.toArray.size + its2.toArray.size≤sizeLine:=by rw [size_toArray,size_toArray]; lia
 have hlong:¬ (!its.toArray.isEmpty && Builtin.List.listTooLong (its.toArray.size + its2.toArray.size)) = true:=by
  rw [Qd hsz,Bool.and_false]
  exact Bool.false_ne_true
 refine call_meets F.slot_list_extend ⟨_,e,rfl⟩ F.entry_list_extend (F.args_list_extend_2 _ _)
  (AutoSeq1.list_extend_list_list_0 l its.toArray n b its2.toArray n2 hlong (by rw [size_toArray]; lia) (by lia)) ⟨e,e2,?_⟩
 refine ⟨.non,_,I.lset (its':=its ++ its2) hH e (by simp) (r.append r2) ?_,rfl,q⟩
 rw [length_append]
 lia
noncomputable def VX:R2:=fun x y H Q=>∃ l b xs zs,x = .ref l∧y = .ref b∧H l = some (.lst xs)∧H b = some (.lst zs)∧xs.length + zs.length≤sizeLine∧∀ p,H p = none→Q (.ref p) (upd H p (.lst (xs ++ zs)))
theorem Vi:OpR X (binaryOp .Add) VX:=by
 intro pins s σ H x y v u Q I rx ry h
 obtain ⟨l,b,xs,zs,rfl,rfl,hH,hB,hz,q⟩:=h
 cases rx
 cases ry
 obtain ⟨z,its,n,r,hl,e⟩:=I.lstM hH
 obtain ⟨z2,its2,n2,r2,hl2,e2⟩:=I.lstM hB
 refine PySem.P.add_list e e2 ?_ (by rw [size_toArray,size_toArray]; lia)
 have ea:its.toArray ++ its2.toArray = (its ++ its2).toArray:=by simp
 rw [ea]
 exact ⟨.ref _,_,I.lnew (t':=s.toks) (r.append r2) (by rw [length_append]; lia),rfl,q _ I.fresh⟩
end
section
variable {prog:Program} {w:World} {A:Around} {E:Value→Shared→Prop} {s:Shared}
set_option maxRecDepth 100000 in
end
section
variable {X:Cx}
end
end L2
namespace Att
open PySem PySem.W PySem.Calls PyProof.Rows
theorem Hn {P:Params} {h:Heap}:∀ (ns:List Int) (vs:List Value),WellAll P h vs (ns.map WData.int)→IntsAre vs ns:=by
 intro ns
 induction ns with
 | nil =>
  intro vs w
  rw [map_nil] at w
  cases w
  exact .nil
 | cons n ns ih =>
  intro vs w
  rw [map_cons] at w
  cases w with
  | cons a b =>
   cases a
   exact .cons _ _ (ih _ b)
theorem OW {l:OpenLaw} {n:Nat} (hn:l.most = some n) {P:Params} {h:Heap} {args:List WData} {vals:List Value}
  (hpre:l.row.toRowW.claim.pre args = true) (hwl:WellAll P h vals args) :
  ∃ a vs ns,vals = [Value.ref a]∧args = [WData.list (ns.map WData.int)]∧h.get? a = some { cls:=.type "list",data:=.seq vs.toArray }∧IntsAre vs ns∧ns.length≤n:=by
 have hsh:WShape.hasAll [] args [.list .int] = true:=(pre_splitW hpre).1
 have hc:l.pre.holds [] { args:=args } = true:=(pre_splitW hpre).2
 obtain ⟨d,r,rfl,h1,h2⟩:=hasAllW_cons hsh
 obtain rfl:=hasAllW_nil h2
 obtain ⟨xs,rfl,h3⟩:=hasW_list h1
 obtain ⟨ns,rfl⟩:=items_int h3
 have hlen:ns.length≤n:=by
  unfold OpenLaw.pre at hc
  have h4:(WTm.not (.lt (.lit (.int (n:Int))) (.len (.arg 0)))).holds [] { args:=[.list (ns.map .int)] } = true:=by
   have h4:=(holds_andW hc).1
   rw [hn] at h4
   exact h4
  have h5:=condW_of h4 (w_not (w_lt w_lit (w_len_list (w_arg rfl))))
  rw [length_map] at h5
  refine Nat.le_of_not_lt fun q=>?_
  have q':(n:Int) < ((ns.length:Nat):Int):=by lia
  first
   | (rw [decide_eq_true q'] at h5; exact absurd h5 (by decide))
   | (simp at h5; lia)
 cases hwl with
 | cons w1 w2 =>
  cases w2
  cases w1 with
  | list ho hall=>exact ⟨_,_,ns,rfl,rfl,ho,Hn ns _ hall,hlen⟩
theorem OS (l:OpenLaw) (args:List WData):l.row.toRowW.claim.post args (.bool true) args = true:=
 postW_of (r:=l.row.toRowW) (X:=(true == true))
  (show WShape.has [] (.bool true) .bool = true by first | rfl | decide | simp [WShape.has,WShape.arms,WShape.armsAll])
  (show (WTm.eq .res (.lit (.bool true))).value [] { args:=args,res:=some (.bool true),after:=args } = some (.bool (true == true)) from w_eq_bool (w_res rfl) w_lit) rfl
theorem K3 {l:OpenLaw} {n:Nat} {q:Program} {loose:List Str} {XP:(Str→Option Value)→Heap→Prop} {YP:World→Heap→Prop} {d:DefRec}
  (hn:l.most = some n) (hdf:d.params.defaults = [])
  (call:∀ (w:World) (s₀ s₁:Shared) (mg mb:Str→Option Value) (fa:Addr) (o:Obj) (pm cd doc:Value) (a:Addr) (vs:List Value) (ns:List Int),
   Ground q loose [] XP w s₀ mg mb s₁.heap→YP w s₁.heap →
   s₁.heap.get? fa = some o→o.data = .func (docDef d.name d.params d.body d.scope pm cd doc)→s₁.heap.CodeRec cd d.name→mg d.name = some (.ref fa) →
   s₁.heap.get? a = some { cls:=.type "list",data:=.seq vs.toArray }→IntsAre vs ns→ns.length≤n→s₁.gens = #[] →
   codeAny (model l.prog w) callerA (.call (.ref fa) ⟨[.ref a],[]⟩) (fun r s'=>r = .ok (.ret (.bool true))∧OldK s₁.heap s'.heap∧s'.os = s₁.os∧AllBare s'.gens) s₁) :
  WalkO q loose XP YP l.row.toRowW d [] (fun f vs=>PySem.call f vs):=by
 intro w s₀ s₁ mg mb G Y fa o pm cd doc dV kV ho hd hcd hD hmg hg args vals as hpre hlay hrd hwl hlo
 obtain rfl:dV = .none:=Dflts.none hD hdf
 obtain rfl:kV = .none:=Dflts.noKw hD
 obtain ⟨a,vs,ns,rfl,rfl,hobj,hints,hlen⟩:=OW hn hpre hwl
 refine enter_call (codeAny_mono (call w s₀ s₁ mg mb fa o pm cd doc a vs ns G Y ho (fd_plain hd) hcd hmg hobj hints hlen hg) fun r s' hq=>?_)
 obtain ⟨rfl,h2,h3,h4⟩:=hq
 exact ⟨.inl ⟨.bool true,.bool true,[],rfl,fun _=>rfl,.bool true,OS l _,fun _=>⟨List.Pairwise.nil,fun _ hm=>(nomatch hm)⟩⟩,h2,h3,h4⟩
section
variable {prog:Program} {w:World} {A:Around} {E:Value→Shared→Prop} {s:Shared} {K:Frag}
end
end Att
namespace L2
open PySem PySem.Spec PyProof.Rows
theorem O5 {vs:List Value} {ns:List Int} (h:IntsAre vs ns):Vals (ns.map V.int) vs:=by
 induction h with
 | nil=>exact .nil
 | cons n t h ih=>exact .cons ⟨t,rfl⟩ ih
noncomputable def Rq (H:Hp):Prop:=∀ b,H b = none∨(∃ o xs,H b = some (.frz o (.lst xs)))∨∃ ps,H b = some (.tbl ps)
noncomputable def Ht (K:Frag) (b:Addr):Prop:=∃ c,PySem.W.tabIn K A8 = some (c,b)
noncomputable def TF (K:Frag) (H:Hp):Hp:=fun b=>by classical exact if Ht K b then some (.tbl #[.str BU 0]) else H b
theorem TH {K:Frag} {H:Hp} {b:Addr} (h:Ht K b):TF K H b = some (.tbl #[.str BU 0]):=if_pos h
theorem Md {K:Frag} {H:Hp} {b:Addr} (h:¬ Ht K b):TF K H b = H b:=if_neg h
theorem P0 {P:Program} {w:World} {K:Frag} {mg mb:Str→Option Value} {CX:CXT} {k:Nat} {fa a:Addr} {fd:FuncData} {x:Str} {sp:Sp} {s₁:Shared} {vs:List Value} {ns:List Int}
  (KX:K.In s₁.heap) (hns:s₁.heap.Ns mainGlobals mg) (hb:s₁.heap.Ns builtinsNs mb) (hbb:∀ x:Str,x ≠ "__name__" → mb x = bootBuiltins x) (hlim:s₁.heap.NoLimit) (hg:s₁.gens = #[])
  (ha:s₁.heap.get? a = some { cls:=.type "list",data:=.seq vs.toArray }) (hi:IntsAre vs ns) (hl:ns.length≤sizeLine) (hr:Room k callerA)
  (F:∀ base:Heap,K.In base→base.Ns mainGlobals mg→FnOk P w K mg base CX k fa fd [x] sp) (hbind:∀ (s:Shared) (u:Value),BindsTo s fd ⟨[u],[]⟩ [(x,u)])
  (hsp:∀ H:Hp,Rq H→SqL K H a (ns.map V.int)→sp [.ref a] H (fun v _=>v = .bl true) fun _ _ _=>False)
  (hCX:∀ H e s',CX [] H s₁ (fun _ _ _=>False) e s'→False) (hT:∀ c b,PySem.W.tabIn K A8 = some (c,b)→PySem.W.CodeHd s₁.heap c b∧s₁.heap.get? b = some { cls:=.none,data:=.fields #[] }∧K.lookup b = none)
  (hbm:∃ bm ob,mg "__builtins__" = some (.ref bm)∧bm≠builtinsNs∧s₁.heap.get? bm = some ob∧ob.cls = .type "module" ∧ ob.dict = some builtinsNs∧ob.data = .plain) :
  codeAny (model P w) callerA (.call (.ref fa) ⟨[.ref a],[]⟩) (fun r s'=>r = .ok (.ret (.bool true))∧OldK s₁.heap s'.heap∧s'.os = s₁.os∧AllBare s'.gens) s₁:=by
 have rv:=O5 hi
 have lenV:=hi.length
 have naT:¬ Ht K a:=fun ⟨c,e⟩=>by
  obtain ⟨_,e2,_⟩:=hT c a e
  rw [ha] at e2; cases e2
 have core:∀ H₁:Hp,(∀ b,H₁ b = none∨∃ o xs,H₁ b = some (.frz o (.lst xs)))→SqL K (TF K H₁) a (ns.map V.int)→HOk P w H₁ s₁.heap→(∀ b,H₁ b≠none→b = a)→(H₁ a≠none→K.lookup a = none) →
   codeAny (model P w) callerA (.call (.ref fa) ⟨[.ref a],[]⟩) (fun r s'=>r = .ok (.ret (.bool true))∧OldK s₁.heap s'.heap∧s'.os = s₁.os∧AllBare s'.gens) s₁:=by
  intro H₁ hO₁ hS hok₁ hA₁ hK₁
  generalize hH:TF K H₁ = H at hS
  have hin:∀ {b},Ht K b→H b = some (.tbl #[.str BU 0]):=fun h=>by rw [← hH]; exact TH h
  have hout:∀ {b},¬ Ht K b→H b = H₁ b:=fun h=>by rw [← hH]; exact Md h
  have hO:Rq H:=fun b=>by
   by_cases q:Ht K b
   ·exact .inr (.inr ⟨_,hin q⟩)
   ·rw [hout q]
    exact (hO₁ b).imp id .inl
  have hok:HOk P w H s₁.heap:=fun b u e=>by
   by_cases q:Ht K b
   ·rw [hin q] at e; cases e
    obtain ⟨c,ec⟩:=q
    exact ⟨#[],(hT c b ec).2.1,trivial,fun pos c h=>by cases h⟩
   ·rw [hout q] at e
    rcases hO₁ b with z | ⟨o,xs,z⟩
    ·rw [z] at e; cases e
    ·rw [z] at e; cases e
     obtain ⟨e1,e2⟩:=hok₁ b _ z
     exact ⟨e1,e2⟩
  have hA:∀ b,H b≠none→b = a∨Ht K b:=fun b z=>by
   by_cases q:Ht K b
   ·exact .inr q
   ·rw [hout q] at z; exact .inl (hA₁ b z)
  have base_of:∀ {b:Addr} {o:Obj},s₁.heap.get? b = some o→H b = none→(Jd s₁.heap H).get? b = some o:=fun e n=>Py e n
  have noA:∀ {b:Addr} {o:Obj} {es:Array DictEntry} {ep:Nat},s₁.heap.get? b = some o→o.data = .dict es ep→H b = none:=fun {b o es ep} e d=>by
   cases q:H b with
   | none=>rfl
   | some u =>
    rcases hA b (by rw [q]; simp) with e' | ⟨c,ec⟩
    ·subst e'
     rw [ha] at e; cases e
     have d':Data.seq vs.toArray _ = Data.dict es ep:=d
     cases d'
    ·rw [(hT c b ec).2.1] at e; cases e
     have d':Data.fields _ = Data.dict es ep:=d
     cases d'
  have nsK:∀ {b:Addr} {m:Str→Option Value},s₁.heap.Ns b m→(Jd s₁.heap H).Ns b m:=fun {b m} ⟨o,es,ep,e,d,r⟩=>⟨o,es,ep,base_of e (noA e d),d,r⟩
  have hKb:K.In (Jd s₁.heap H):=fun b o e=>base_of (KX b o e) (by
   cases q:H b with
   | none=>rfl
   | some u =>
    rcases hA b (by rw [q]; simp) with e' | ⟨c,ec⟩
    ·subst e'
     rw [hout naT] at q
     rw [hK₁ (by rw [q]; simp)] at e; cases e
    ·rw [(hT c b ec).2.2] at e; cases e)
  have bmK:∃ bm ob,mg "__builtins__" = some (.ref bm)∧bm≠builtinsNs∧(Jd s₁.heap H).get? bm = some ob∧ob.cls = .type "module" ∧ ob.dict = some builtinsNs∧ob.data = .plain:=by
   obtain ⟨bm,ob,m1,m2,m3,m4,m5,m6⟩:=hbm
   refine ⟨bm,ob,m1,m2,base_of m3 ?_,m4,m5,m6⟩
   cases q:H bm with
   | none=>rfl
   | some u =>
    rcases hA bm (by rw [q]; simp) with e' | ⟨c,ec⟩
    ·subst e'
     rw [ha] at m3; cases m3
     cases m6
    ·rw [(hT c bm ec).2.1] at m3; cases m3
     cases m6
  have hM:Mod K mg (Jd s₁.heap H):=⟨hKb,nsK hns,⟨mb,nsK hb,hbb⟩,let ⟨mc,h1,h2⟩:=hlim; ⟨mc,nsK h1,h2⟩,bmK⟩
  have e0:Env0 P w K mg (Jd s₁.heap H) callerA [] s₁ H:=⟨rfl,hM,fun b o e=>Sa e,Nat.le_of_eq (Oo _ _),trivial,fun b hb=>absurd (show b∈([]:List Addr) from hb) (by simp),hok,.of_eq hg,fun c b e=>⟨_,hin ⟨c,e⟩,rfl⟩⟩
  refine codeAny_mono ((F _ hKb (nsK hns)).run callerA [] s₁ H ⟨[.ref a],[]⟩ [.ref a] [.ref a] _ _ hr e0 (hbind s₁ (.ref a)) (.cons rfl .nil) (hsp H hO hS)) fun r s' h=>?_
  cases r with
  | error e=>exact (hCX H e s' h).elim
  | ok fl =>
   cases fl with
   | next=>exact False.elim h
   | brk=>exact False.elim h
   | cont=>exact False.elim h
   | ret u =>
    obtain ⟨v,H',os,bare,un,hok',r',q⟩:=h
    have q':v = .bl true:=q
    subst q'
    obtain rfl:u = Value.bool true:=r'
    have fin:∀ b o,s₁.heap.get? b = some o→s'.heap.get? b = some o∨∃ qs,Ht K b∧s'.heap.get? b = some { cls:=.none,data:=.fields qs }:=fun b o e=>by
     cases q:H b with
     | none=>exact .inl (un.keep b o e q (by intro z; exact absurd (show b∈([]:List Addr) from z) (by simp)) (by simp))
     | some u =>
      by_cases tq:Ht K b
      ·rw [hin tq] at q; cases q
       obtain ⟨more,z2⟩:=un.tbls b _ (hin tq)
       obtain ⟨qs,e2,_⟩:=hok' b _ z2
       exact .inr ⟨qs,tq,e2⟩
      ·rcases hO₁ b with z | ⟨ob,xs,z⟩
       ·rw [hout tq,z] at q; cases q
       ·have z2:=un.frzs b ob _ (by rw [hout tq]; exact z)
        obtain ⟨e1,_⟩:=hok₁ b _ z
        obtain ⟨e2,_⟩:=hok' b _ z2
        rw [e] at e1; cases e1
        exact .inl e2
    refine ⟨rfl,⟨fun b o e=>?_,fun b o e=>?_⟩,os,bare⟩
    ·rcases fin b o e with z | ⟨qs,⟨c,ec⟩,z⟩
     ·exact .inl z
     ·obtain ⟨h1,h2,_⟩:=hT c b ec
      rw [e] at h2; cases h2
      refine .inr (.inl ⟨(h1.tab e).isCodeTable,rfl,#[],qs,rfl,?_⟩)
      rw [z]; simp
    ·rcases fin b o e with z | ⟨qs,_,z⟩
     ·exact ⟨_,z⟩
     ·exact ⟨_,z⟩
 cases hk:K.lookup a with
 | some o =>
  -- the script is one of the module's own objects
  have e:=KX a o hk
  rw [ha] at e
  cases e
  refine core (fun _=>none) (fun _=>.inl rfl) (.inr ⟨_,vs.toArray,_,hk,rfl,rfl,rfl,by rw [size_toArray,lenV]; exact hl,by simpa using rv⟩) (fun b u z=>by have z':(none:Option HO) = some u:=z; cases z') (fun b z=>absurd rfl z) fun z=>absurd rfl z
 | none =>
  refine core (fun b=>if b = a then some (.frz { cls:=.type "list",data:=.seq vs.toArray } (.lst (ns.map V.int))) else none) (fun b=>?_) (.inl (.inr ⟨{ cls:=.type "list",data:=.seq vs.toArray },by rw [Md naT]; exact if_pos rfl⟩)) (fun b u z=>?_) (fun b z=>?_) fun _=>hk
  ·by_cases hb:b = a
   ·exact .inr ⟨_,_,if_pos hb⟩
   ·exact .inl (if_neg hb)
  ·by_cases hb:b = a
   ·have z':=(if_pos hb).symm.trans z
    cases z'
    subst hb
    exact ⟨ha,by rw [length_map]; exact hl,vs,_,rv,ha⟩
   ·have z':=(if_neg hb).symm.trans z
    cases z'
  ·by_cases hb:b = a
   ·exact hb
   ·exact absurd (if_neg hb) z
end L2
namespace L2
open PySem PySem.Spec PyProof.Rows
noncomputable abbrev KOf {K:Frag} {h:Heap} (_:K.In h):Frag:=K
theorem TN {l:PySem.W.OpenLaw} {n k:Nat} {q:Program} {loose:List Str} {XP:(Str→Option Value)→Heap→Prop} {YP:World→Heap→Prop} {d:DefRec} {K:Params→Frag} {CX:World→CXT} {sp:World→Sp} {x:Str}
  (hn:l.most = some n) (hn2:n≤sizeLine) (hdf:d.params.defaults = []) (hr:Room k callerA)
  (hY:∀ (w:World) (h:Heap),YP w h→(K w.params).In h)
  (F:∀ (w:World) (mg:Str→Option Value) (fa:Addr) (h:Heap),(K w.params).In h→h.Ns mainGlobals mg→mg d.name = some (.ref fa) →
   ∃ fd:FuncData,(∀ (s:Shared) (u:Value),BindsTo s fd ⟨[u],[]⟩ [(x,u)]) ∧
    ∀ base:Heap,(K w.params).In base→base.Ns mainGlobals mg→FnOk l.prog w (K w.params) mg base (CX w) k fa fd [x] (sp w))
  (hsp:∀ (w:World) (H:Hp) (a:Addr) (ns:List Int),ns.length≤n→Rq H→SqL (K w.params) H a (ns.map V.int)→sp w [.ref a] H (fun v _=>v = .bl true) fun _ _ _=>False)
  (hCX:∀ (w:World) (H:Hp) (s:Shared) (e:Value) (s':Shared),CX w [] H s (fun _ _ _=>False) e s'→False)
  (hT:∀ (w:World) (c b:Addr),PySem.W.tabIn (K w.params) A8 = some (c,b)→(∃ d',(recsOf q).find? (fun e=>e.name == A8) = some d')∧(K w.params).lookup b = none) :
  PySem.W.WalkO q loose XP YP l.row.toRowW d [] (fun f vs=>PySem.call f vs):=by
 refine Att.K3 hn hdf fun w s₀ s₁ mg mb fa o pm cd doc a vs ns G Y ho hd hcd hmg hobj hints hlen hg=>?_
 have KX:=hY w _ Y
 obtain ⟨fd,hb,hF⟩:=F w mg fa _ KX G.T.g hmg
 exact P0 KX G.T.g G.T.b G.T.builtins G.T.nolimit hg hobj hints (le_trans hlen hn2) hr hF hb (fun H hO hS=>hsp w H a ns hlen hO hS) (fun H e s'=>hCX w H s₁ e s') (fun c b e=>by
  obtain ⟨⟨d',hd'⟩,hk⟩:=hT w c b e
  obtain ⟨z1,z2⟩:=PySem.W.tab_of G.T KX hd' e
  exact ⟨z1,z2,hk⟩) G.T.bmain
end L2

namespace L2
open PySem PySem.Spec PyProof.Rows
noncomputable def D2 (s:Stmt):Arguments:=match s with
 | .FunctionDef _ a _ _ _ _ _ _ _ _=>a
 | _=>{ posonlyargs:=[],args:=[],vararg:=none,kwonlyargs:=[],kw_defaults:=[],kwarg:=none,defaults:=[] }
noncomputable def CV (s:Stmt):List Stmt:=match s with
 | .FunctionDef _ _ b _ _ _ _ _ _ _=>b
 | _=>[]
noncomputable def Bp (s:Stmt):Scope:=match s with
 | .FunctionDef _ _ _ _ _ _ sc _ _ _=>sc
 | _=>{ kind:=.function,names:=[],isGenerator:=false,isCoroutine:=false }
noncomputable abbrev CX0:CXT:=fun _ _ _ _ _ _=>False
noncomputable abbrev E0:XK:=fun _ _ _=>False
theorem Ay {X:Cx}:Passes CX0 X E0:=fun _ _ _ _ _ _ _ h=>h.elim
structure Fun (K:Frag) (x qual:Str) (st:Stmt) (f:Addr) (fd:FuncData):Prop where
 ex:∃ (oc:Value) (od:Option Addr) (kV doc pm:Value) (an:Option Addr) (cdv ct:Value) (osl:Array (Option Value)),
  fd = PySem.W.fnOf x qual (D2 st) (CV st) (Bp st) .none kV doc pm an cdv ct∧K.lookup f = some ⟨oc,od,.func fd,osl⟩∧PySem.W.codeIn K cdv qual = true
 kp:PySem.W.keepIn K (.ref f) = true
section
variable {P:Program} {w:World} {K:Frag} {mg:Str→Option Value} {base:Heap}
theorem Fun.ok {x qual:Str} {st:Stmt} {f:Addr} {fd:FuncData} {N ps:List Str} {k:Nat} {sp:Sp} (F:Fun K x qual st f fd) (S:FnScope N ps (Bp st)) (len:∀ vs H Q E,sp vs H Q E→vs.length = ps.length)
  (hbody:∀ (cdv:Value) (A:Around) (outer:List Env) (s:Shared) (H:Hp) (vs:List V) (Q:VK) (E:XK),Room k (A.deeper (envOfC qual (Bp st) s.heap.objs.size f cdv))→sp vs H Q E →
   ∃ t,PSs (La CX0 P w K mg base N qual (Bp st) f cdv A outer s H E).nox (CV st) t∧t { nx:=fun _ H'=>Q .non H',rt:=Q } (start N vs) H):FnOk P w K mg base CX0 (k + 1) f fd ps sp:=by
 obtain ⟨oc,od,kV,doc,pm,an,cdv,ct,osl,rfl,lk,hcd⟩:=F.ex
 refine TR lk hcd S len fun A outer s H vs Q E hr hsp=>?_
 obtain ⟨t,h,q⟩:=hbody cdv A outer s H vs Q E hr hsp
 exact ⟨t,h.nox,q⟩
theorem Fun.binds {x qual:Str} {st:Stmt} {f:Addr} {fd:FuncData} {ps:List Str} (F:Fun K x qual st f fd)
  (h:∀ (kV doc pm:Value) (an:Option Addr) (cdv ct:Value) (us:List Value),us.length = ps.length→bindArgs (PySem.W.fnOf x qual (D2 st) (CV st) (Bp st) .none kV doc pm an cdv ct) ⟨us,[]⟩ = pure (ps.zip us)):Binds K fd ps []:=by
 obtain ⟨oc,od,kV,doc,pm,an,cdv,ct,osl,rfl,lk,hcd⟩:=F.ex
 exact .all (h kV doc pm an cdv ct)
theorem UD {x qual:Str} {st:Stmt} {f:Addr} {oc:Value} {od an:Option Addr} {osl:Array (Option Value)} {kV doc pm cdv ct:Value} (l:K.lookup f = some ⟨oc,od,.func (PySem.W.fnOf x qual (D2 st) (CV st) (Bp st) .none kV doc pm an cdv ct),osl⟩)
  (c:PySem.W.codeIn K cdv qual = true) (k:PySem.W.keepIn K (.ref f) = true):Fun K x qual st f (PySem.W.fnOf x qual (D2 st) (CV st) (Bp st) .none kV doc pm an cdv ct):=⟨⟨oc,od,kV,doc,pm,an,cdv,ct,osl,rfl,l,c⟩,k⟩
end
theorem Nx {A:Around} {k:Nat} (hr:Room k A):A.units + 1 < cLine:=Nat.lt_of_le_of_lt (Nat.add_le_add_left (by decide:1≤64) _) hr.units
section
variable {X:Cx}
theorem pv (i:Nat) {x:Str} {pos:Pos} (hN:X.N[i]? = some x:=by rfl) (hv:Vis X.env.scope x:=by first | exact Or.inl rfl | exact Or.inr (Or.inl rfl) | exact Or.inr (Or.inr rfl)) (hd:(x == ("__debug__" : Str)) = false:=by decide)
  (hcd:(x == ("__classdict__" : Str)) = false:=by decide):PE X (.Name x pos) (Nc i):=F0 hN hv hd hcd
end
noncomputable def EG (H H':Hp):Prop:=∀ b o,H b = some o→H' b = some o
end L2
end
section
namespace L2
open PySem PySem.Spec PyProof.Rows
noncomputable def clo (cells:List (Str × Addr)):List (Str × NameKind)→List (Str × Addr)→List (Str × Addr)
 | [],cs=>cs
 | (n,k) :: r,cs=>clo cells r (if (k == .free) = true then (n,(cells.lookup n).getD 0) :: cs else cs)
theorem K8 {env:Env}:∀ (names:List (Str × NameKind)) (cs:List (Str × Addr)),(∀ x∈names,(x.2 == .free) = true→(env.cells.lookup x.1).isSome = true) →
  (forIn names cs fun (x:Str × NameKind) (r:List (Str × Addr))=>(if (x.2 == NameKind.free) = true then do let c ← cellOf env x.1; pure (ForInStep.yield ((x.1,c) :: r)) else pure (ForInStep.yield r):Sem (ForInStep (List (Str × Addr))))) = pure (clo env.cells names cs)
 | [],cs,_=>rfl
 | (n,k) :: r,cs,h=>by
  rw [List.forIn_cons]
  have hr:=fun cs'=>K8 (env:=env) r cs' fun x hx=>h x (mem_cons_of_mem _ hx)
  cases hk:(k == NameKind.free) with
  | true =>
   have hc:=h (n,k) mem_cons_self hk
   obtain ⟨c,hc⟩:=Option.isSome_iff_exists.mp hc
   have e:cellOf env n = pure c:=by unfold cellOf; rw [hc]
   dsimp only at hc
   simp only [hk,if_true,e,pure_bind]
   rw [hr]
   simp only [clo,hk,if_true,hc,getD_some]
  | false =>
   simp only [hk,false_eq_true,if_false,pure_bind]
   rw [hr]
   simp only [clo,hk,false_eq_true,if_false]
theorem Pe {env:Env} {scope:Scope} (h:∀ x∈scope.names,(x.2 == .free) = true→(env.cells.lookup x.1).isSome = true):closureFor scope env = pure (clo env.cells scope.names []):=by
 rw [← K8 _ _ h]
 unfold closureFor
 simp
theorem Nl {cells:List (Str × Addr)} {x:Str} {c:Addr}:∀ {names:List (Str × NameKind)} {cs:List (Str × Addr)},(∀ y∈names,(y.2 == .free) = true→(cells.lookup y.1).isSome = true) →
  (clo cells names cs).lookup x = some c→cs.lookup x = some c∨cells.lookup x = some c
 | [],_,_,h=>.inl h
 | (n,k) :: r,cs,hn,h=>by
  simp only [clo] at h
  have hr:=Nl (names:=r) (fun y hy=>hn y (mem_cons_of_mem _ hy)) h
  rcases hr with hr | hr
  ·cases hk:(k == NameKind.free) with
   | true =>
    simp only [hk,if_true] at hr
    rw [lookup_cons] at hr
    cases hx:(x == n) with
    | true =>
     simp only [hx] at hr
     obtain ⟨c',hc'⟩:=Option.isSome_iff_exists.mp (hn (n,k) mem_cons_self hk)
     have hx':x = n:=by simpa using hx
     rw [hc'] at hr
     refine .inr ?_
     rw [hx']
     exact hc'.trans hr
    | false =>
     simp only [hx] at hr
     exact .inl hr
   | false =>
    simp only [hk,false_eq_true,if_false] at hr
    exact .inl hr
  ·exact .inr hr
theorem K7 {cells:List (Str × Addr)} {x:Str}:∀ {names:List (Str × NameKind)} {cs:List (Str × Addr)},(∃ c,cs.lookup x = some c)→∃ c,(clo cells names cs).lookup x = some c
 | [],_,h=>h
 | (n,k) :: r,cs,h=>by
  simp only [clo]
  refine K7 (names:=r) ?_
  cases hk:(k == NameKind.free) with
  | true =>
   simp only [if_true]
   rw [lookup_cons]
   cases hx:(x == n) with
   | true=>exact ⟨_,rfl⟩
   | false=>exact h
  | false =>
   simp only [false_eq_true,if_false]
   exact h
theorem J6 {cells:List (Str × Addr)} {x:Str}:∀ {names:List (Str × NameKind)} {cs:List (Str × Addr)},names.lookup x = some .free→∃ c,(clo cells names cs).lookup x = some c
 | [],_,h=>by simp at h
 | (n,k) :: r,cs,h=>by
  rw [lookup_cons] at h
  simp only [clo]
  cases hx:(x == n) with
  | true =>
   simp only [hx] at h
   have hk:k = .free:=Option.some.inj h
   subst hk
   refine K7 (names:=r) ⟨(cells.lookup n).getD 0,?_⟩
   rw [if_pos (by decide),lookup_cons]
   simp only [hx]
  | false =>
   simp only [hx] at h
   exact J6 (names:=r) h
noncomputable abbrev cxD (X:Cx) (own:List Str) (scope:Scope) (C:Addr) (cl:List (Str × Addr)) (fn:Str→Bool) (s:Shared) (H:Hp) (fp:List Addr) (pins:List (Addr × Obj)):Cx:=
 { X with N:=own ++ X.N,s₀:=s,H₀:=H,env:=compEnvC scope cl C X.env,outer:=X.stack,ex:=fp,fn:=fn,pn:=X.pn ++ pins,xe:=fun _ _=>False }
noncomputable abbrev cxC (X:Cx) (own:List Str) (scope:Scope) (C:Addr) (s:Shared) (H:Hp) (fp:List Addr) (pins:List (Addr × Obj)):Cx:=
 cxD X own scope C (clo X.env.cells scope.names []) (fun _=>false) s H fp pins
noncomputable def CC (own N:List Str) (sc sco:Scope):Bool:=
 N.all (fun x=>match sc.names.lookup x with
  | some .local=>false
  | some .cell=>false
  | some .free=>sco.names.lookup x == some .cell || sco.names.lookup x == some .free
  | _=>true) &&
 sc.names.all (fun y=>(y.2 != .cell) && (y.2 != .free || sco.names.lookup y.1 == some .cell || sco.names.lookup y.1 == some .free) && (y.2 != .local || sc.names.lookup y.1 == some .local)) &&
 (sc.kind == .function) && own.all fun x=>!N.contains x
theorem Cb {env:Env}:∀ {names:List (Str × NameKind)} {x:Str} {k:NameKind},
  (names.map fun (n,k)=>if (k == NameKind.free && env.scope.kind == .function && env.kindOf n == some .cell) then (n,NameKind.cell) else (n,k)).lookup x = some k →
  names.lookup x = some k∨(k = .cell∧names.lookup x = some .free)
 | [],_,_,h=>by simp at h
 | (n,j) :: r,x,k,h=>by
  have ih:=@Cb env r x k
  have h':List.lookup x ((if (j == NameKind.free && env.scope.kind == .function && env.kindOf n == some .cell) = true then (n,NameKind.cell) else (n,j)) :: _) = some k:=h
  rw [lookup_cons]
  cases hx:x == n with
  | true =>
   by_cases hc:(j == NameKind.free && env.scope.kind == .function && env.kindOf n == some .cell) = true
   ·rw [if_pos hc,lookup_cons] at h'
    simp only [hx] at h'
    have hj:j = .free:=by
     simp only [and_eq_true] at hc
     simpa using hc.1.1
    exact .inr ⟨(Option.some.inj h').symm,by simp only [hj]⟩
   ·rw [if_neg hc,lookup_cons] at h'
    simp only [hx] at h'
    exact .inl h'
  | false =>
   refine ih ?_
   by_cases hc:(j == NameKind.free && env.scope.kind == .function && env.kindOf n == some .cell) = true
   ·rw [if_pos hc,lookup_cons] at h'
    simp only [hx] at h'
    exact h'
   ·rw [if_neg hc,lookup_cons] at h'
    simp only [hx] at h'
    exact h'
theorem Mr {prog:Program} {w:World} {A:Around} {R:Result→Shared→Prop} {s:Shared} {elt target iter:Expr} {ifs:List Expr} {scope:Scope} {pos:Pos} {it acc:Value} {env:Env} (I:Nat→Shared→Prop)
  (turn:∀ n s,I n s→wpAny (model prog w) A (pyNext it) (fun r s₁=>match r with
   | none=>R (.ok .next) s₁
   | some v=>wpAny (model prog w) A (letOwnedTupleGo target it v) (fun _ s₁'=>wpAny (model prog w) A (assign target env v) (fun _ s₂ =>
     wpAny (model prog w) A (forIn ifs true fun c r=>if r = true then do let ok ← isTrue c env (eval c env); pure (ForInStep.yield ok) else pure (ForInStep.yield r)) (fun ok s₃ =>
      if ok = true then wpAny (model prog w) A (eval elt env) (fun x s₄ =>
       wpAny (model prog w) A (call (.builtin "list.append") [acc,x]) (fun _ s₅=>∃ m,m < n∧I m s₅) (fun _ _=>False) s₄) (fun _ _=>False) s₃
      else ∃ m,m < n∧I m s₃) (fun _ _=>False) s₂) (fun _ _=>False) s₁') (fun _ _=>False) s₁) (fun _ _=>False) s)
  (n:Nat) (h:I n s):codeAny (model prog w) A (.compLoop (.ListComp elt [⟨target,iter,ifs,0⟩] scope pos) 0 it acc env) R s:=by
 refine codeAny_loop rfl I (fun n s hI=>?_) n h
 show wpAny _ A ((compTurn (.ListComp elt [⟨target,iter,ifs,0⟩] scope pos) 0 it acc env).onRaise (fun x=>do noteFrame x env; theTreesLotGoes x)) _ _ s
 refine wpAny_noted ?_
 rw [compTurn_list]
 refine wpAny_bind (wpAny_standAt (wpAny_bind (wpAny_mono (turn n s hI) (fun r s₁ h₁=>?_) fun _ _ h'=>h'.elim)))
 cases r with
 | none=>exact wpAny_pure h₁
 | some v =>
  refine wpAny_bind (wpAny_mono h₁ (fun _ s₁' h₁'=>?_) fun _ _ h'=>h'.elim)
  refine wpAny_bind (wpAny_mono h₁' (fun _ s₂ h₂=>wpAny_bind (wpAny_mono h₂ (fun ok s₃ h₃=>?_) fun _ _ h'=>h'.elim)) fun _ _ h'=>h'.elim)
  cases ok with
  | false=>exact wpAny_pure ⟨rfl,h₃⟩
  | true =>
   exact wpAny_bind (wpAny_bind (wpAny_mono h₃ (fun x s₄ h₄=>wpAny_bind (wpAny_mono h₄ (fun _ s₅ h₅=>wpAny_pure (wpAny_pure ⟨rfl,h₅⟩)) fun _ _ h'=>h'.elim)) fun _ _ h'=>h'.elim))
noncomputable def PTs (X:Cx) (ifs:List Expr) (t:TT):Prop:=
 ∀ (pins:List (Addr × Obj)) (s:Shared) (σ:St) (H:Hp) (Q:Bool→Hp→Prop),Inv X pins σ H s→t σ H Q →
  wpAny (model X.prog X.w) X.A (forIn ifs true fun c r=>if r = true then do let ok ← isTrue c X.env (eval c X.env); pure (ForInStep.yield ok) else pure (ForInStep.yield r)) (TP X pins σ Q) X.xe s
noncomputable def X9:TT:=fun _ H Q=>Q true H
theorem SO {X:Cx}:PTs X [] X9:=fun _ _ _ H _ I h=>wpAny_tests_nil ⟨H,I,h⟩
theorem SQ {X:Cx} {c:Expr} {t:TT} (h:PT X c t):PTs X [c] t:=fun pins s σ H Q I q=>wpAny_tests_one (h pins s σ H Q I q)
noncomputable abbrev TU:=V→Hp→List V→Prop
noncomputable def PGo (X:Cx) (target:Expr) (n:Nat) (un:TU):Prop:=
 ∀ (pins:List (Addr × Obj)) (s:Shared) (σ0 σ:St) (H:Hp) (v:V) (u:Value) (vs:List V),σ0.length = n→Inv X pins (σ0 ++ σ) H s→RelV v u→un v H vs →
  wpAny (model X.prog X.w) X.A (assign target X.env u) (fun _ s'=>vs.length = n∧Inv X pins (vs.map some ++ σ) H s') X.xe s
noncomputable def Wy:TU:=fun v _ vs=>vs = [v]
noncomputable def XN (K:Frag):TU:=fun v H vs=>∃ a x y,v = .ref a∧SqT K H a [x,y]∧vs = [x,y]
theorem U3 {α:Type} {l:List α} (h:l.length = 1):∃ o,l = [o]:=by
 cases l with
 | nil=>cases h
 | cons a t=>cases t with
  | nil=>exact ⟨a,rfl⟩
  | cons b t=>cases h
theorem R3 {α:Type} {l:List α} (h:l.length = 2):∃ o p,l = [o,p]:=by
 cases l with
 | nil=>cases h
 | cons a t =>
  obtain ⟨p,rfl⟩:=U3 (Nat.succ.inj h)
  exact ⟨a,p,rfl⟩
theorem LP {X:Cx} {x:Str} {pos:Pos} (hi:X.N[0]? = some x) (hN:X.N.Nodup) (hx:X.env.scope.names.lookup x = some .local):PGo X (.Name x pos) 1 Wy:=by
 intro pins s σ0 σ H v u vs hl I r h
 obtain ⟨o,rfl⟩:=U3 hl
 cases h
 exact wpAny_assign_Name (GJ I hN hi (.inl hx) r (fun s' I'=>⟨rfl,I'⟩) (.inr hx))
theorem Qr {X:Cx} {x y:Str} {px py pos:Pos} {k:Nat} (hc:X.calm = true) (hi:X.N[0]? = some x) (hj:X.N[1]? = some y) (hN:X.N.Nodup) (hx:X.env.scope.names.lookup x = some .local) (hy:X.env.scope.names.lookup y = some .local) :
  PGo X (.Tuple [.Name x px,.Name y py] k pos) 2 (XN X.K):=by
 intro pins s σ0 σ H v u vs hl I r h
 obtain ⟨o,o',rfl⟩:=R3 hl
 obtain ⟨a,v1,v2,rfl,hq,rfl⟩:=h
 have P:=Qq (X:=X) (pos:=pos) (k:=k) hc (IE (HG (pos:=px) hN hi (.inl hx) (.inr hx)) (IE (HG (pos:=py) hN hj (.inl hy) (.inr hy)) NQ)) (n:=2)
 refine thn (P pins s _ H (.ref a) u (fun σ2 H2=>σ2 = [v1,v2].map some ++ σ ∧ H2 = H) I r ⟨a,_,rfl,hq,rfl,v1,[v2],rfl,v2,[],rfl,rfl,rfl,rfl⟩) fun _ s1 yy=>?_
 obtain ⟨σ2,H2,I2,e1,e2⟩:=yy
 subst e1; subst e2
 exact ⟨rfl,I2⟩
noncomputable def LcR (J:It) (un:TU) (tc:TT) (te:TE) (σ:St) (H1:Hp) (Q:VK):Prop:=∀ acc,H1 acc = none→∃ W:Nat→Nat→List V→Hp→Prop,(∃ m,W 0 m [] (upd H1 acc (.lst [])))∧∀ i m ys H,W i m ys H→H acc = some (.lst ys) ∧
 ((J.stop i H∧Q (.ref acc) H)∨(J.go i H∧∀ x H',J.yld i H x H'→∃ vs,un x H' vs∧tc (vs.map some ++ σ) H' fun b H3 =>
  if b = true then te (vs.map some ++ σ) H3 fun v H4=>H4 acc = some (.lst ys)∧ys.length < sizeLine∧∃ m',m' < m∧W (i + 1) m' (ys ++ [v]) (upd H4 acc (.lst (ys ++ [v])))
  else ∃ m',m' < m∧W (i + 1) m' ys H3))
noncomputable def tLc (wi:TI) (un:TU) (tc:TT) (te:TE):TE:=fun σ H Q=>wi σ H fun J H1=>LcR J un tc te σ H1 Q
section
variable {X:Cx} {pins:List (Addr × Obj)} {σ:St} {H:Hp} {s:Shared}
theorem CC.free {own:List Str} {scope:Scope} (hok:CC own X.N scope X.env.scope = true) (I:Inv X pins σ H s):∀ x∈scope.names,(x.2 == NameKind.free) = true→(X.env.cells.lookup x.1).isSome = true:=fun x hx hf=>by
 simp only [CC,and_eq_true,all_eq_true] at hok
 have:=(hok.1.1.2 x hx).1.2
 have hf':x.2 = .free:=by simpa using hf
 rw [hf'] at this
 simp only [bne_self_eq_false,Bool.false_or,Bool.or_eq_true] at this
 obtain ⟨c,hc⟩:=I.ok.has x.1 (this.elim (fun z=>.inl (by simpa [Env.kindOf] using z)) fun z=>.inr (by simpa [Env.kindOf] using z))
 rw [hc]; rfl
theorem Ou {own:List Str} {scope:Scope} {fp:List Addr} {h1:Heap} {t':Nat} (hok:CC own X.N scope X.env.scope = true) (I:Inv X pins σ H s) (f2:∀ b∈fp,Ga X pins H b) (fo:∀ b∈fp,∃ o,s.heap.get? b = some o)
  (hns:h1.Ns s.heap.objs.size fun _=>none) (hk:∀ b o,s.heap.get? b = some o→h1.get? b = some o) :
  Inv (cxC X own scope s.heap.objs.size s H fp pins) [] (List.replicate own.length none ++ σ) H { s with heap:=h1,toks:=t' }:=by
 have hfree:=CC.free hok I
 simp only [CC,and_eq_true,all_eq_true] at hok
 obtain ⟨⟨⟨hN,hS⟩,hkd⟩,hown⟩:=hok
 have hkind:scope.kind = .function:=by simpa using hkd
 have sub:∀ x c,(clo X.env.cells scope.names []).lookup x = some c→X.env.cells.lookup x = some c:=fun x c e=>by
  rcases Nl hfree e with z | z
  ·simp at z
  ·exact z
 have ltS:∀ {b:Addr} {o:Obj},s.heap.get? b = some o→b≠s.heap.objs.size:=fun e=>ne_of_lt (lt_size e)
 have isFree:∀ x,((relabel scope X.env).names.lookup x = some .cell∨(relabel scope X.env).names.lookup x = some .free)→scope.names.lookup x = some .free:=fun x hx'=>by
  rcases hx' with z | z
  ·rcases Cb z with z | z
   ·have:=(hS _ (PySem.mem_of_lookup z)).1.1
    simp at this
   ·exact z.2
  ·rcases Cb z with z | z
   ·exact z
   ·cases z.1
 refine ⟨⟨I.ok.mod,hkind,I.ok.glob,I.ok.blt,le_refl _,fun x y c e1 e2=>I.ok.inj x y c (sub x c e1) (sub y c e2),fun x hx=>J6 (isFree x hx),fun x c z=>(by cases z),I.ok.hd,I.ok.frames,.inl rfl,fun b hb=>?_,I.bs,le_trans I.ok.bsz I.sz,fun b o e hb=>?_,fun b hb hz=>?_,I.stack,I.stkFree,I.tabs⟩,
  rfl,I.bare,Un.kept hk,⟨_,hns,fun i x v e1 e2 e3=>?_⟩,fun x c e=>?_,I.hok.fresh (le_refl _),fun x c e=>I.freeC x c (sub x c e),fun p hp=>?_,I.hok.kept hk,?_⟩
 ·refine ⟨fun z=>?_,fun x c e z=>?_⟩
  ·obtain ⟨o,e⟩:=fo b hb
   exact ltS e z
  ·exact (f2 b hb).2.2.2.2.1 x c (sub x c e) z
 ·obtain ⟨_,_,_,f4,_⟩:=f2 b hb
  rcases f4 with f4 | f4
  ·exact I.ok.noex b o e f4
  ·have:=lt_of_lt_of_le (lt_size e) (le_trans I.ok.bsz f4)
   exact absurd this (lt_irrefl _)
 ·obtain ⟨_,f1,f3,_⟩:=f2 b hb
  rcases mem_cons.mp (I.stkSub b hz) with z | z
  ·exact f1 z
  ·exact f3 z
 ·by_cases hi:i < own.length
  ·rw [getElem?_append_left (by simpa using hi),List.getElem?_replicate] at e2
   split at e2 <;> cases e2
  ·have e1':X.N[i - own.length]? = some x:=by
    have e1:(own ++ X.N)[i]? = some x:=e1
    rw [getElem?_append_right (by omega)] at e1
    exact e1
   have e2' : σ[i - own.length]? = some (some v):=by
    rw [getElem?_append_right (by simpa using hi)] at e2
    simpa using e2
   have hx:=hN x (mem_of_getElem? e1')
   have q:scope.names.lookup x = some .free:=by
    rcases e3 with z | z
    ·rcases Cb z with z | z
     ·rw [z] at hx; cases hx
     ·cases z.1
    ·exact isFree x z
   rw [q] at hx
   simp only [Bool.or_eq_true] at hx
   have hx2:X.env.scope.names.lookup x = some .cell∨X.env.scope.names.lookup x = some .free:=hx.elim (fun z=>.inl (by simpa using z)) fun z=>.inr (by simpa using z)
   obtain ⟨m,_,hl⟩:=I.loc
   obtain ⟨u,r,l⟩:=hl _ x v e1' e2' (.inr hx2)
   refine ⟨u,r,?_⟩
   obtain ⟨c',hc'⟩:=J6 (cells:=X.env.cells) (cs:=[]) q
   rcases l with ⟨k,_⟩ | ⟨k,c,hc,o,ho,hd⟩
   ·have k':X.env.scope.names.lookup x = some .local:=k
    rcases hx2 with z | z <;> (rw [k'] at z; cases z)
   ·have ec:=sub x c' hc'
    have ec':c' = c:=Option.some.inj (ec.symm.trans hc)
    rw [ec'] at hc'
    refine .inr ⟨?_,c,hc',o,hk c o ho,hd⟩
    rcases e3 with z | z
    ·rcases Cb z with z | z
     ·rw [q] at z; cases z
     ·cases z.1
    ·exact z
 ·obtain ⟨v,o,ho,hd⟩:=I.cell x c (sub x c e)
  exact ⟨v,o,hk c o ho,hd⟩
 ·have hp':p∈X.pn ++ pins:=by simpa using hp
  obtain ⟨e,n,ne,nf,d⟩:=I.pin p hp'
  refine ⟨hk _ _ e,n,ltS e,fun hz=>?_,d⟩
  rcases mem_cons.mp (I.stkSub p.1 hz) with z | z
  ·exact ne z
  ·exact nf z
 ·show (List.replicate own.length none ++ σ).length = (own ++ X.N).length
  rw [length_append,List.length_replicate,length_append,I.len]
theorem Hg {own:List Str} {scope:Scope} {fp:List Addr} {cl:List (Str × Addr)} {fn:Str→Bool} {σ':St} {H':Hp} {s':Shared} {h':Heap} (I:Inv X pins σ H s) (f2:∀ b∈fp,Ga X pins H b)
  (J:Inv (cxD X own scope s.heap.objs.size cl fn s H fp pins) [] σ' H' s') (hs:Heap.SameBut s.heap.objs.size s'.heap h'):Inv X pins σ H' { s' with heap:=h' }:=by
 have lt:∀ {b:Addr} {o:Obj},s.heap.get? b = some o→b≠s.heap.objs.size:=fun e=>ne_of_lt (lt_size e)
 have hC:H' s.heap.objs.size = none:=J.free
 have u:=J.base
 refine I.call' (s':={ s' with heap:=h' }) (ch:=fp) J.os ⟨fun b o e n hb hx=>(hs.2 b (lt e)).trans (u.keep b o e n hb hx),fun b o e n hb hx=>?_,u.free,fun b o e hx=>?_,u.tups,u.frzs,u.tbls⟩ (fun b o e=>?_) J.bare fun b hb=>?_
 ·obtain ⟨sl,q⟩:=u.slot b o e n hb hx
  exact ⟨sl,(hs.2 b (lt e)).trans q⟩
 ·obtain ⟨o',q⟩:=u.there b o e hx
  exact ⟨o',(hs.2 b (lt e)).trans q⟩
 ·refine (J.hok b o e).stay (fun c w' hc q=>(hs.2 c ?_).trans q) (fun _ q=>q) fun _ _ q=>q
  rintro rfl
  rcases hc with z | z
  ·rw [← z,hC] at e; cases e
  ·rw [hC] at z; cases z
 ·obtain ⟨_,f1,_,f4,f5,f6⟩:=f2 b hb
  exact ⟨f4,f1,f5,f6⟩
theorem QM {own:List Str} {scope:Scope} {fp:List Addr} {it:Addr} {tn:Nat→Heap→Prop} {J:It} {target iter elt:Expr} {ifs:List Expr} {pos:Pos} {un:TU} {tc:TT} {te:TE} {acc:Addr} {Q:VK} {R:Result→Shared→Prop}
  {cl:List (Str × Addr)} {fn:Str→Bool} {h1:Heap} {t1:Nat} (hc:X.calm = true)
  (hg:PGo (cxD X own scope s.heap.objs.size cl fn s H fp pins) target own.length un) (ht:PTs (cxD X own scope s.heap.objs.size cl fn s H fp pins) ifs tc) (he:PE (cxD X own scope s.heap.objs.size cl fn s H fp pins) elt te)
  (I:Inv X pins σ H s) (T:Turn X.prog X.w X.K target J fp it tn) (st:tn 0 s.heap) (f2:∀ b∈fp,Ga X pins H b)
  (W:Nat→Nat→List V→Hp→Prop) (w0:∃ m,W 0 m [] H)
  (turn:∀ i m ys H,W i m ys H→H acc = some (.lst ys) ∧
   ((J.stop i H∧Q (.ref acc) H)∨(J.go i H∧∀ x H',J.yld i H x H'→∃ vs,un x H' vs∧tc (vs.map some ++ σ) H' fun b H3 =>
    if b = true then te (vs.map some ++ σ) H3 fun v H4=>H4 acc = some (.lst ys)∧ys.length < sizeLine∧∃ m',m' < m∧W (i + 1) m' (ys ++ [v]) (upd H4 acc (.lst (ys ++ [v])))
    else ∃ m',m' < m∧W (i + 1) m' ys H3)))
  (fin:∀ s' σ' H',Inv (cxD X own scope s.heap.objs.size cl fn s H fp pins) [] σ' H' s'→Q (.ref acc) H'→R (.ok .next) s')
  (hk:∀ b o,s.heap.get? b = some o→h1.get? b = some o) (I0:Inv (cxD X own scope s.heap.objs.size cl fn s H fp pins) [] (List.replicate own.length none ++ σ) H { s with heap:=h1,toks:=t1 }) :
  codeAny (model X.prog X.w) X.A (.compStart (.ListComp elt [⟨target,iter,ifs,0⟩] scope pos) 0 (.ref it) (.ref acc) (compEnvC scope cl s.heap.objs.size X.env)) R { s with heap:=h1,toks:=t1 }:=by
 have st1:tn 0 h1:=T.keep _ _ _ st fun b _ o e=>hk b o e
 have stat:∀ {H':Hp},(∀ b∈fp,H' b = none)→∀ b∈fp,Ga (cxD X own scope s.heap.objs.size cl fn s H fp pins) [] H' b:=fun hn b hb=>by
  obtain ⟨_,f1,f3,_,f5,f6⟩:=f2 b hb
  obtain ⟨o,e,_⟩:=T.obj _ _ st b hb
  refine ⟨hn b hb,ne_of_lt (lt_size e),fun hz=>?_,.inl hb,(I0.ok.exf b hb).2,fun p hp=>f6 p (by simpa using hp)⟩
  rcases mem_cons.mp (I.stkSub b hz) with z | z
  ·exact f1 z
  ·exact f3 z
 have loop:∀ s4,s4 = { s with heap:=h1,toks:=t1 }→codeAny (model X.prog X.w) X.A (.compLoop (.ListComp elt [⟨target,iter,ifs,0⟩] scope pos) 0 (.ref it) (.ref acc) (compEnvC scope cl s.heap.objs.size X.env)) R s4:=by
  rintro s4 rfl
  obtain ⟨m0,w0⟩:=w0
  refine Mr (fun n s'=>∃ i ys σ0 H',σ0.length = own.length∧Inv (cxD X own scope s.heap.objs.size cl fn s H fp pins) [] (σ0 ++ σ) H' s'∧tn i s'.heap∧(∀ b∈fp,H' b = none)∧W i n ys H') ?_ m0 ⟨0,[],_,H,by rw [List.length_replicate],I0,st1,fun b hb=>(f2 b hb).1,w0⟩
  rintro n s3 ⟨i,ys,σ0,H3,hl3,I3,st3,fr3,w3⟩
  obtain ⟨ha,turn3⟩:=turn i n ys H3 w3
  rcases turn3 with ⟨stop,qn⟩ | ⟨go,step⟩
  ·refine thn (T.done (cxD X own scope s.heap.objs.size cl fn s H fp pins) rfl rfl rfl hc i [] s3 _ H3 _ I3 (stat fr3) st3 stop) fun r s4 yy=>?_
   obtain ⟨hr,I4⟩:=yy
   subst hr
   exact fin s4 _ H3 I4 qn
  ·refine thn (T.item (cxD X own scope s.heap.objs.size cl fn s H fp pins) rfl rfl rfl hc i [] s3 _ H3 _ I3 (stat fr3) st3 go) fun r s4 yy=>?_
   obtain ⟨u,hr,h4⟩:=yy
   subst hr
   refine thn h4 fun _ s5 yy=>?_
   obtain ⟨x,H5,I5,r5,y5,st5,fr5⟩:=yy
   obtain ⟨vs,hu,q5⟩:=step x H5 y5
   have I5':=I5.pinned (stat fr5) (T.obj _ _ st5)
   have again:∀ {H7:Hp} {s7:Shared},vs.length = own.length→Inv (cxD X own scope s.heap.objs.size cl fn s H fp pins) ([] ++ IF fp s5.heap) (vs.map some ++ σ) H7 s7→∀ {ys'},(∃ m',m' < n∧W (i + 1) m' ys' H7) →
     ∃ m,m < n∧∃ i ys σ0 H',σ0.length = own.length∧Inv (cxD X own scope s.heap.objs.size cl fn s H fp pins) [] (σ0 ++ σ) H' s7∧tn i s7.heap∧(∀ b∈fp,H' b = none)∧W i m ys H':=fun {H7 s7} hl I7 {ys'} ⟨m',hm,w7⟩=>by
    refine ⟨m',hm,i + 1,ys',vs.map some,H7,by rw [length_map,hl],I7.unpinned,T.keep _ _ _ st5 fun b hb o e=>(I7.pin (b,o) (mem_append_right _ (mem_append_right _ (EO hb e)))).1,fun b hb=>?_,w7⟩
    obtain ⟨o,e,d⟩:=T.obj _ _ st5 b hb
    exact (I7.pin (b,o) (mem_append_right _ (mem_append_right _ (EO hb e)))).2.1
   refine thn (hg _ s5 σ0 σ H5 x u vs hl3 I5' r5 hu) fun _ s6 yy=>?_
   obtain ⟨hl,I6⟩:=yy
   refine thn (ht _ s6 _ H5 _ I6 q5) fun ok s7 yy=>?_
   obtain ⟨H7,I7,q7⟩:=yy
   cases ok with
   | false =>
    rw [if_neg Bool.false_ne_true] at q7
    rw [if_neg Bool.false_ne_true]
    exact again hl I7 q7
   | true =>
    rw [if_pos rfl] at q7
    rw [if_pos rfl]
    refine thn (he _ s7 _ H7 _ I7 q7) fun v s8 yy=>?_
    obtain ⟨y,H8,I8,r8,ha8,hz8,q8⟩:=yy
    refine thn (JJ _ s8 _ H8 (.ref acc) [y] (.ref acc) [v] (fun _ H9=>∃ m',m' < n∧W (i + 1) m' (ys ++ [y]) H9) I8 rfl (.cons r8 .nil) ⟨acc,ys,y,rfl,rfl,ha8,hz8,q8⟩) fun _ s9 yy=>?_
    obtain ⟨_,H9,I9,_,q9⟩:=yy
    exact again hl I9 q9
 exact codeAny_compStart_list (loop _ rfl) (T.self X.A 0 _ _ _ st1 (loop _ rfl))
theorem JN {own:List Str} {scope:Scope} {fp:List Addr} {it:Addr} {tn:Nat→Heap→Prop} {J:It} {target iter elt:Expr} {ifs:List Expr} {pos:Pos} {un:TU} {tc:TT} {te:TE} {acc:Addr} {Q:VK} {R:Result→Shared→Prop}
  {E:Value→Shared→Prop} (hc:X.calm = true) (hok:CC own X.N scope X.env.scope = true)
  (hg:∀ C s H fp pins,PGo (cxC X own scope C s H fp pins) target own.length un) (ht:∀ C s H fp pins,PTs (cxC X own scope C s H fp pins) ifs tc) (he:∀ C s H fp pins,PE (cxC X own scope C s H fp pins) elt te)
  (I:Inv X pins σ H s) (T:Turn X.prog X.w X.K target J fp it tn) (st:tn 0 s.heap) (f2:∀ b∈fp,Ga X pins H b)
  (W:Nat→Nat→List V→Hp→Prop) (w0:∃ m,W 0 m [] H)
  (turn:∀ i m ys H,W i m ys H→H acc = some (.lst ys) ∧
   ((J.stop i H∧Q (.ref acc) H)∨(J.go i H∧∀ x H',J.yld i H x H'→∃ vs,un x H' vs∧tc (vs.map some ++ σ) H' fun b H3 =>
    if b = true then te (vs.map some ++ σ) H3 fun v H4=>H4 acc = some (.lst ys)∧ys.length < sizeLine∧∃ m',m' < m∧W (i + 1) m' (ys ++ [v]) (upd H4 acc (.lst (ys ++ [v])))
    else ∃ m',m' < m∧W (i + 1) m' ys H3)))
  (fin:∀ s' σ' H',Inv (cxC X own scope s.heap.objs.size s H fp pins) [] σ' H' s'→Q (.ref acc) H'→R (.ok .next) s') :
  wpAny (model X.prog X.w) X.A (newFunctionEnv scope X.env.globals (clo X.env.cells scope.names []) [] X.env.qual none .none (some X.env)) (fun cenv s₄ =>
   cenv.locals = s.heap.objs.size∧codeAny (model X.prog X.w) X.A (.compStart (.ListComp elt [⟨target,iter,ifs,0⟩] scope pos) 0 (.ref it) (.ref acc) { cenv with scope:=relabel scope X.env }) R s₄) E s:=by
 have hcell:∀ x∈scope.names,x.2 ≠ .cell:=fun x hx z=>by
  simp only [CC,and_eq_true,all_eq_true] at hok
  have:=(hok.1.1.2 x hx).1.1
  rw [z] at this
  simp at this
 have hkind:scope.kind = .function:=by
  simp only [CC,and_eq_true] at hok
  simpa using hok.1.2
 refine wpAny_newFunctionEnv hcell (fun x hx=>by simp at hx) (fun h1 hns hsb=>⟨rfl,?_⟩) hkind
 have hk:∀ b o,s.heap.get? b = some o→h1.get? b = some o:=fun b o e=>(hsb.2 b (ne_of_lt (lt_size e))).trans (get?_push_of_some _ e)
 have I0:Inv (cxC X own scope s.heap.objs.size s H fp pins) [] (List.replicate own.length none ++ σ) H { s with heap:=h1,toks:=s.toks + ([]:List (Str × Value)).length }:=
  Ou hok I f2 (fun b hb=>let ⟨o,e,_⟩:=T.obj _ _ st b hb; ⟨o,e⟩) (by simpa using hns) hk
 exact QM (iter:=iter) (pos:=pos) hc (hg _ _ _ _ _) (ht _ _ _ _ _) (he _ _ _ _ _) I T st f2 W w0 turn fin hk I0
end
section
variable {X:Cx}
theorem CC.names {own N:List Str} {scope sco:Scope} (hok:CC own N scope sco = true):∀ x∈scope.names,x.2 = .local→scope.names.lookup x.1 = some .local:=fun x hx hl=>by
 simp only [CC,and_eq_true,all_eq_true] at hok
 have:=(hok.1.1.2 x hx).2
 rw [hl] at this
 simpa using this
theorem CC.kind {own N:List Str} {scope sco:Scope} (hok:CC own N scope sco = true):scope.kind = .function:=by
 simp only [CC,and_eq_true] at hok
 simpa using hok.1.2
theorem T2 {own:List Str} {scope:Scope} {target iter elt:Expr} {ifs:List Expr} {pos:Pos} {wi:TI} {un:TU} {tc:TT} {te:TE} (hc:X.calm = true) (hok:CC own X.N scope X.env.scope = true) (hi:PI X target iter wi)
  (hg:∀ C s H fp pins,PGo (cxC X own scope C s H fp pins) target own.length un) (ht:∀ C s H fp pins,PTs (cxC X own scope C s H fp pins) ifs tc) (he:∀ C s H fp pins,PE (cxC X own scope C s H fp pins) elt te)
  (hs:∀ x,foldedSetIterable iter X.env x = pure x:=by intro _; rfl):PE X (.ListComp elt [⟨target,iter,ifs,0⟩] scope pos) (tLc wi un tc te):=by
 intro pins s σ H Q I h
 rw [eval_ListComp]
 refine wpAny_comprehension_free (use:=none) rfl hs (Pe (CC.free hok I)) (CC.kind hok) (CC.names hok) ?_
 refine thn (hi pins s σ H _ I h) fun v s1 h1=>thn h1 fun itv s2 h2=>?_
 obtain ⟨it,fp,tn,J,H2,e,I2,T,st2,f2,q⟩:=h2
 subst e
 obtain ⟨W,w0,turn⟩:=q s2.heap.objs.size I2.fresh
 refine wpAny_newObj_type (hd:=by size_fits) ?_
 have I3:Inv X pins σ (upd H2 s2.heap.objs.size (.lst [])) { s2 with heap:=s2.heap.push { cls:=.type "list",data:=.seq ([]:List Value).toArray } }:=I2.lnew (its:=[]) (t':=s2.toks) .nil (zero_le _)
 have st3:tn 0 (s2.heap.push { cls:=.type "list",data:=.seq ([]:List Value).toArray }):=T.keep _ _ _ st2 fun b _ o e=>get?_push_of_some _ e
 have f3:∀ b∈fp,Ga X pins (upd H2 s2.heap.objs.size (.lst [])) b:=fun b hb=>by
  obtain ⟨o,e,_⟩:=T.obj _ _ st2 b hb
  exact ⟨by rw [AH (ne_of_lt (lt_size e))]; exact (f2 b hb).1,(f2 b hb).2⟩
 refine thn (JN (iter:=iter) (pos:=pos) (R:=compPost (model X.prog X.w) X.A X.xe none (EP X pins σ Q) (.ref s2.heap.objs.size) (s2.heap.push { cls:=.type "list",data:=.seq ([]:List Value).toArray }).objs.size) hc hok hg ht he I3 T st3 f3 W w0 turn fun s' σ' H' J' q'=>?_) fun cenv s4 ⟨el,h4⟩=>?_
 ·obtain ⟨m,hn,_⟩:=J'.loc
  exact ⟨m,hn,fun h' hs'=>⟨.ref s2.heap.objs.size,H',Hg I3 f3 J' hs',rfl,q'⟩⟩
 ·have el':cenv.locals = (s2.heap.push { cls:=.type "list",data:=.seq ([]:List Value).toArray }).objs.size:=el
  rw [← el'] at h4
  exact h4
end
section
variable {X:Cx} {pins:List (Addr × Obj)} {σ:St} {H:Hp} {s:Shared}
end
section
variable {X:Cx}
end
noncomputable def Its (x:Str):It:=⟨fun i _=>i < x.cps.size,fun i H v H'=>H' = H∧∃ c,x.cps[i]? = some c∧v = .str ⟨#[c]⟩,fun i _=>x.cps.size≤i⟩
theorem Heap.IsStrIter.at' {h h':Heap} {a ty x t i} (y:h.IsStrIter a ty x t i) (e:∀ o,h.get? a = some o→h'.get? a = some o):h'.IsStrIter a ty x t i:=let ⟨o,ho,r⟩:=y; ⟨o,e _ ho,r⟩
theorem Ri {P:Program} {w:World} {K:Frag} {tg:Expr} (it:Addr) (x:Str) (t:Tok) (ty:String) (hty:ty = "str_ascii_iterator" ∨ ty = "str_iterator"):Turn P w K tg (Its x) [it] it (fun i h=>h.IsStrIter it ty x t i) where
 mem:=by simp
 obj:=fun i h st b hb=>by
  have e:b = it:=by simpa using hb
  subst e
  obtain ⟨o,e,c,d⟩:=st
  exact ⟨o,e,fun v z=>by rw [d] at z; cases z⟩
 keep:=fun i h h' st k=>Heap.IsStrIter.at' st fun o e=>k it (by simp) o e
 item:=by
  intro X hP hw hK hc i pins s σ H E I hf st hg
  subst hP hw hK
  have hg':i < x.cps.size:=hg
  have hx:x.cps[i]? = some x.cps[i]:=by simp [hg']
  obtain ⟨f0,f1,f2,f3,f4,f5⟩:=hf it (by simp)
  have fin:∀ h',h'.IsStrIter it ty x t (i + 1)→Heap.SameBut it s.heap h'→∃ u,some (Value.str ⟨#[x.cps[i]]⟩ s.toks) = some u ∧
    wpAny (model X.prog X.w) X.A (letOwnedTupleGo tg (.ref it) u) (fun _ s2=>∃ y H',Inv X pins σ H' s2∧RelV y u∧(Its x).yld i H y H'∧s2.heap.IsStrIter it ty x t (i + 1)∧∀ b∈[it],H' b = none) E { s with heap:=h',toks:=s.toks + 1 }:=fun h' st' sb=>by
   have I1:Inv X pins σ H { s with heap:=h',toks:=s.toks + 1 }:=I.turned (fun b o hb e=>(sb.2 b hb).trans e) f0 f1 f3 f4 f5
   obtain ⟨o,e,c,d⟩:=id st'
   exact ⟨_,rfl,Nv (s:={ s with heap:=h',toks:=s.toks + 1 }) e c d (by rcases hty with rfl | rfl <;> decide) ⟨.str ⟨#[x.cps[i]]⟩,H,I1,⟨_,rfl⟩,⟨rfl,_,hx,rfl⟩,st',fun b hb=>(hf b hb).1⟩⟩
  rcases hty with rfl | rfl
  ·exact wpAny_pyNext_ascii_item st hx fin
  ·exact wpAny_pyNext_wide_item st hx fin
 done:=by
  intro X hP hw hK hc i pins s σ H E I hf st hg
  subst hP hw hK
  have hg':x.cps.size≤i:=hg
  have hx:x.cps[i]? = none:=by simp [hg']
  obtain ⟨f0,f1,f2,f3,f4,f5⟩:=hf it (by simp)
  rcases hty with rfl | rfl
  ·exact wpAny_pyNext_ascii_end (I.ok.hd hc) st hx fun h' eb=>⟨rfl,I.turned (t':=s.toks) (fun b o hb e=>eb b o hb e) f0 f1 f3 f4 f5⟩
  ·exact wpAny_pyNext_wide_end (I.ok.hd hc) st hx fun h' eb=>⟨rfl,I.turned (t':=s.toks) (fun b o hb e=>eb b o hb e) f0 f1 f3 f4 f5⟩
 self:=fun _ _ _ _ _ st h=>by
  rcases hty with rfl | rfl
  ·exact wpAny_pyIter_striter_ascii st h
  ·exact wpAny_pyIter_striter_wide st h
section
variable {X:Cx} {tg:Expr}
noncomputable def WZ (tl:TE):TI:=fun σ H R=>tl σ H fun x H1=>∃ z,x = .str z∧R (Its z) H1
theorem VI {l:Expr} {tl:TE} (hl:PE X l tl):PI X tg l (WZ tl):=by
 intro pins s σ H R I h
 refine thn (hl pins s σ H _ I h) fun v s1 yy=>?_
 obtain ⟨x,H1,I1,r1,q1⟩:=yy
 obtain ⟨z,e,q⟩:=q1
 subst e
 obtain ⟨t,rfl⟩:=r1
 have fin:∀ ty:String,(ty = "str_ascii_iterator" ∨ ty = "str_iterator")→PIE X pins σ tg R (.ref s1.heap.objs.size) { s1 with heap:=s1.heap.push { cls:=.type ty,data:=.fields #[.str z t,.int 0 0] } }:=fun ty hty=>by
  have I2:Inv X pins σ H1 { s1 with heap:=s1.heap.push { cls:=.type ty,data:=.fields #[.str z t,.int 0 0] } }:=I1.kept (t':=s1.toks) fun b o e=>get?_push_of_some _ e
  refine ⟨_,[s1.heap.objs.size],_,Its z,H1,rfl,I2,Ri _ z t ty hty,⟨_,get?_push_size _ rfl,rfl,rfl⟩,fun b hb=>?_,q⟩
  have e:b = s1.heap.objs.size:=by simpa using hb
  subst e
  exact I1.fpOk (le_refl _) (I1.hok.fresh (le_refl _))
 by_cases ha:z.cps.all (· < 128) = true
 ·exact wpAny_pyIter_ascii ha (fin _ (.inl rfl))
 ·exact wpAny_pyIter_wide (by simpa using ha) (fin _ (.inr rfl))
end
section
variable {X:Cx}
noncomputable def DK (bs:List Bool):List V:=bs.map V.bl
theorem E4 (hc:X.calm = true):BX X (.builtin "all") (fun xs H Q=>∃ p bs,xs = [.ref p]∧SqL X.K H p (DK bs)∧Q (.bl (bs.all id)) H):=by
 intro pins s σ H xs us Q I r h
 obtain ⟨p,bs,rfl,hq,q⟩:=h
 obtain ⟨u,rfl,ru⟩:=r.one
 cases ru
 obtain ⟨its,rv,pl,hz⟩:=I.list hq
 have hl:=rv.length
 refine call_all_walk (wpAny_pyIter_list pl.isList ?_)
 have hne:p≠s.heap.objs.size:=fun z=>by
  obtain ⟨o,e,_⟩:=pl.isList
  exact absurd (lt_size e) (by rw [z]; exact lt_irrefl _)
 have hlen:its.toArray.size = bs.length:=by rw [size_toArray,← hl]; simp [DK]
 refine ⟨_,_,_,_,_,_,fun i=>(bs[i]?).getD true,rfl,Walks.list (by show X.A.handled = none; exact I.ok.hd hc) s.heap.objs.size p hne its.toArray,⟨⟨_,get?_push_size _ rfl,rfl,rfl⟩,?_⟩,?_,?_⟩
 ·obtain ⟨o,e,r⟩:=pl.isList
  exact ⟨o,get?_push_of_some _ e,r⟩
 ·intro i v s' Q' E' hv hq'
  have hi:i < its.length:=by
   by_cases hi:i < its.length
   ·exact hi
   ·have:its.toArray[i]? = none:=by simp; lia
    rw [this] at hv; cases hv
  have hb:i < bs.length:=by simp [DK] at hl; lia
  obtain ⟨u,hu,ru⟩:=rv.get (i:=i) (x:=.bl bs[i]) (by simp [DK,hb])
  have e:v = .bool bs[i]:=by
   have:its.toArray[i]? = some u:=by simpa using hu
   rw [this] at hv
   cases hv
   exact ru
  subst e
  dsimp only at hq'
  rw [show (bs[i]?).getD true = bs[i] by simp [hb]] at hq'
  exact wpAny_truthy_bool hq'
 ·intro h' tk hk
  have I1:Inv X pins σ H { s with heap:=h',toks:=tk }:=I.kept fun b o e=>hk b o (fun z=>by
   have z':b = s.heap.objs.size:=by simpa using z
   exact absurd (lt_size e) (by rw [z']; exact lt_irrefl _)) (get?_push_of_some _ e)
  refine ⟨.bl _,H,I1,rfl,?_⟩
  have e:(List.range its.toArray.size).all (fun i=>(bs[i]?).getD true) = bs.all id:=by
   rw [hlen,Bool.eq_iff_iff]
   simp only [all_eq_true,mem_range,id_eq]
   constructor
   ·intro h b hb
    obtain ⟨i,hi,rfl⟩:=mem_iff_getElem.mp hb
    have:=h i hi
    simpa [hi] using this
   ·intro h i hi
    simpa [hi] using h bs[i] (getElem_mem hi)
  rw [e]
  exact q
theorem Pc (hc:X.calm = true):BX X (.builtin "any") (fun xs H Q=>∃ p bs,xs = [.ref p]∧SqL X.K H p (DK bs)∧Q (.bl (bs.any id)) H):=by
 intro pins s σ H xs us Q I r h
 obtain ⟨p,bs,rfl,hq,q⟩:=h
 obtain ⟨u,rfl,ru⟩:=r.one
 cases ru
 obtain ⟨its,rv,pl,hz⟩:=I.list hq
 have hl:=rv.length
 refine call_any_walk (wpAny_pyIter_list pl.isList ?_)
 have hne:p≠s.heap.objs.size:=fun z=>by
  obtain ⟨o,e,_⟩:=pl.isList
  exact absurd (lt_size e) (by rw [z]; exact lt_irrefl _)
 have hlen:its.toArray.size = bs.length:=by rw [size_toArray,← hl]; simp [DK]
 refine ⟨_,_,_,_,_,_,fun i=>(bs[i]?).getD false,rfl,Walks.list (by show X.A.handled = none; exact I.ok.hd hc) s.heap.objs.size p hne its.toArray,⟨⟨_,get?_push_size _ rfl,rfl,rfl⟩,?_⟩,?_,?_⟩
 ·obtain ⟨o,e,r⟩:=pl.isList
  exact ⟨o,get?_push_of_some _ e,r⟩
 ·intro i v s' Q' E' hv hq'
  have hi:i < its.length:=by
   by_cases hi:i < its.length
   ·exact hi
   ·have:its.toArray[i]? = none:=by simp; lia
    rw [this] at hv; cases hv
  have hb:i < bs.length:=by simp [DK] at hl; lia
  obtain ⟨u,hu,ru⟩:=rv.get (i:=i) (x:=.bl bs[i]) (by simp [DK,hb])
  have e:v = .bool bs[i]:=by
   have:its.toArray[i]? = some u:=by simpa using hu
   rw [this] at hv
   cases hv
   exact ru
  subst e
  dsimp only at hq'
  rw [show (bs[i]?).getD false = bs[i] by simp [hb]] at hq'
  exact wpAny_truthy_bool hq'
 ·intro h' tk hk
  have I1:Inv X pins σ H { s with heap:=h',toks:=tk }:=I.kept fun b o e=>hk b o (fun z=>by
   have z':b = s.heap.objs.size:=by simpa using z
   exact absurd (lt_size e) (by rw [z']; exact lt_irrefl _)) (get?_push_of_some _ e)
  refine ⟨.bl _,H,I1,rfl,?_⟩
  have e:(List.range its.toArray.size).any (fun i=>(bs[i]?).getD false) = bs.any id:=by
   rw [hlen,Bool.eq_iff_iff]
   simp only [List.any_eq_true,mem_range,id_eq]
   constructor
   ·rintro ⟨i,hi,h⟩
    exact ⟨bs[i],getElem_mem hi,by simpa [hi] using h⟩
   ·rintro ⟨b,hb,h⟩
    obtain ⟨i,hi,rfl⟩:=mem_iff_getElem.mp hb
    exact ⟨i,hi,by simpa [hi] using h⟩
  rw [e]
  exact q
end
section
variable {X:Cx} {e:Expr} {te:TE} {p q pos:Pos} {x:Str} {T:String}
noncomputable def Mf (H:Hp):V→Option String
 | .non=>some "NoneType"
 | .bl _=>some "bool"
 | .int _=>some "int"
 | .str _=>some "str"
 | .ref a=>match H a with
  | some (.lst _)=>some "list"
  | some (.tup _)=>some "tuple"
  | _=>none
 | _=>none
theorem TL {K:Frag} {H:Hp} {v:V} {t:String} (h:Mf H v = some t):TyOf K H v (.type t):=by
 cases v with
 | non=>cases h; exact .non
 | bl b=>cases h; exact .bl b
 | int i=>cases h; exact .int i
 | str z=>cases h; exact .str z
 | ref a =>
  unfold Mf at h
  dsimp only at h
  split at h
  ·rename_i e; cases h; exact .lst e
  ·rename_i e; cases h; exact .tup e
  ·cases h
 | _=>cases h
end
inductive D where
 | non | bl (b:Bool) | int (i:Int) | str (x:Str) | lst (ds:List D) | tup (ds:List D)
inductive RepA (N:Addr→Prop) (H:Hp):V→D→Prop where
 | non:RepA N H .non .non
 | bl (b:Bool):RepA N H (.bl b) (.bl b)
 | int (i:Int):RepA N H (.int i) (.int i)
 | str (x:Str) (hx:x.length≤sizeLine):RepA N H (.str x) (.str x)
 | lst {a:Addr} {vs:List V} {ds:List D} (h:H a = some (.lst vs)) (hz:vs.length≤sizeLine) (hn:¬ N a) (hl:vs.length = ds.length) (hr:∀ (i:Nat) v d,vs[i]? = some v→ds[i]? = some d→RepA N H v d):RepA N H (.ref a) (.lst ds)
 | tup {a:Addr} {vs:List V} {ds:List D} (h:H a = some (.tup vs)) (hz:vs.length≤sizeLine) (hl:vs.length = ds.length) (hr:∀ (i:Nat) v d,vs[i]? = some v→ds[i]? = some d→RepA N H v d):RepA N H (.ref a) (.tup ds)
noncomputable abbrev Rep:=RepA fun _=>False
theorem RepA.weak {N N':Addr→Prop} {H:Hp} (hn:∀ a,N' a→N a) {v:V} {d:D} (r:RepA N H v d):RepA N' H v d:=by
 induction r with
 | non=>exact .non
 | bl b=>exact .bl b
 | int i=>exact .int i
 | str x hx=>exact .str x hx
 | lst h hz n hl _ ih=>exact .lst h hz (fun z=>n (hn _ z)) hl ih
 | tup h hz hl _ ih=>exact .tup h hz hl ih
theorem RepA.rep {N:Addr→Prop} {H:Hp} {v:V} {d:D} (r:RepA N H v d):Rep H v d:=r.weak fun _ z=>z.elim
theorem RepA.inj {N N':Addr→Prop} {H:Hp} {v:V} {d e:D} (r:RepA N H v d) (q:RepA N' H v e):d = e:=by
 induction r generalizing e with
 | non=>cases q; rfl
 | bl b=>cases q; rfl
 | int i=>cases q; rfl
 | str x=>cases q; rfl
 | lst h hz hn hl hr ih =>
  cases q with
  | lst h' hz' hn' hl' hr' =>
   rw [h] at h'; cases h'
   congr 1
   refine List.ext_getElem? fun i=>?_
   rename_i vs ds es
   by_cases hi:i < vs.length
   ·have e1:ds[i]? = some ds[i]:=by simp [← hl,hi]
    have e2:es[i]? = some es[i]:=by simp [← hl',hi]
    rw [e1,e2,ih i vs[i] ds[i] (by simp [hi]) e1 (hr' i vs[i] es[i] (by simp [hi]) e2)]
   ·rw [List.getElem?_eq_none (by omega),List.getElem?_eq_none (by omega)]
  | tup h'=>rw [h] at h'; cases h'
 | tup h hz hl hr ih =>
  cases q with
  | tup h' hz' hl' hr' =>
   rw [h] at h'; cases h'
   congr 1
   refine List.ext_getElem? fun i=>?_
   rename_i vs ds es
   by_cases hi:i < vs.length
   ·have e1:ds[i]? = some ds[i]:=by simp [← hl,hi]
    have e2:es[i]? = some es[i]:=by simp [← hl',hi]
    rw [e1,e2,ih i vs[i] ds[i] (by simp [hi]) e1 (hr' i vs[i] es[i] (by simp [hi]) e2)]
   ·rw [List.getElem?_eq_none (by omega),List.getElem?_eq_none (by omega)]
  | lst h'=>rw [h] at h'; cases h'
structure Def (P:Program) (w:World) (K:Frag) (mg:Str→Option Value) (base:Heap) (CX:CXT) (k:Nat) (x:Str) (ps:List Str) (sp:Sp):Prop where
 ex:∃ (f:Addr) (fd:FuncData),mg x = some (.ref f)∧PySem.W.keepIn K (.ref f) = true∧Binds K fd ps []∧FnOk P w K mg base CX k f fd ps sp
section
variable {X:Cx}
theorem Vq {CX:CXT} {k j:Nat} {x:Str} {ps:List Str} {sp:Sp} {E:XK} {p pos:Pos} {e:Expr} {es:List Expr} {t:TA} (D:Def X.prog X.w X.K X.mg X.base CX k x ps sp) (hr:Room j X.A) (hkj:k≤j) (hx:Passes CX X E) (ha:PA X (e :: es) t)
  (hg:Gl X x:=by rfl) (hdb:(x == ("__debug__" : Str)) = false:=by decide +kernel)
  (he:starEach (e :: es) X.env = (false,eval e X.env) :: starEach es X.env:=by rfl) (hpl:(backTo pos (starEach es X.env)).any (·.1) = false:=by rfl):PE X (.Call (.Name x p) (e :: es) [] pos) (Q7 sp [] E t):=by
 obtain ⟨f,fd,a,b,c,d⟩:=D.ex
 exact Sr d (hr.mono hkj) hg a b c .nil hx ha hdb he hpl
end
noncomputable def isI (t T:String):Bool:=t == T || (t == "bool" && T == "int")
theorem OA {K:Frag} {t T:String} (ht:t∈["NoneType","bool","int","str","list","tuple"]) (hT:T∈["int","bool","tuple","list","str"]):PySem.W.kitOne K (.type t) (.type T) = some (isI t T):=by
 simp only [mem_cons,not_mem_nil,or_false] at ht hT
 rcases ht with rfl | rfl | rfl | rfl | rfl | rfl <;> rcases hT with rfl | rfl | rfl | rfl | rfl <;>
  kernel_rfl
theorem Rj {H:Hp} {v:V} {t:String} (h:Mf H v = some t):t∈["NoneType","bool","int","str","list","tuple"]:=by
 cases v with
 | non=>cases h; simp
 | bl b=>cases h; simp
 | int i=>cases h; simp
 | str z=>cases h; simp
 | ref a =>
  unfold Mf at h
  dsimp only at h
  split at h
  ·cases h; simp
  ·cases h; simp
  ·cases h
 | _=>cases h
section
variable {X:Cx}
theorem Pd:BX X (.builtin "isinstance") (fun xs H Q=>∃ x t T,xs = [x,.ty T]∧Mf H x = some t∧T∈["int","bool","tuple","list","str"]∧Q (.bl (isI t T)) H):=by
 intro pins s σ H xs us Q I r h
 obtain ⟨x,t,T,rfl,ht,hT,q⟩:=h
 obtain ⟨u,v,rfl,ru,rv⟩:=r.two
 cases rv
 exact Ox I ru (TL ht) (OA (Rj ht) hT) fun tk=>⟨.bl _,H,I.tok tk,rfl,q⟩
end
noncomputable def FD:D→String
 | .non => "NoneType"
 | .bl _ => "bool"
 | .int _ => "int"
 | .str _ => "str"
 | .lst _ => "list"
 | .tup _ => "tuple"
theorem RepA.typ {N:Addr→Prop} {H:Hp} {v:V} {d:D} (r:RepA N H v d):Mf H v = some (FD d):=by
 cases r with
 | non=>rfl
 | bl b=>rfl
 | int i=>rfl
 | str x=>rfl
 | lst h=>simp only [Mf,h,FD]
 | tup h=>simp only [Mf,h,FD]
mutual
noncomputable def eqD:D→D→Bool
 | .non,.non=>true
 | .bl a,.bl b=>a == b
 | .bl a,.int b=>(if a then 1 else 0) == b
 | .int a,.bl b=>a == (if b then 1 else 0)
 | .int a,.int b=>a == b
 | .str a,.str b=>a == b
 | .lst xs,.lst ys=>Cf xs ys
 | .tup xs,.tup ys=>Cf xs ys
 | _,_=>false
noncomputable def Cf:List D→List D→Bool
 | [],[]=>true
 | x :: xs,y :: ys=>eqD x y && Cf xs ys
 | _,_=>false
end
theorem eqDl (x y:List D):eqD (.lst x) (.lst y) = Cf x y:=rfl
theorem eqDt (x y:List D):eqD (.tup x) (.tup y) = Cf x y:=rfl
theorem eqDi (x y:Int):eqD (.int x) (.int y) = (x == y):=rfl
theorem eqDs (x y:Str):eqD (.str x) (.str y) = (x == y):=rfl
theorem eqDb (x y:Bool):eqD (.bl x) (.bl y) = (x == y):=rfl
theorem CfC (x y:D) (xs ys:List D):Cf (x :: xs) (y :: ys) = (eqD x y && Cf xs ys):=rfl
theorem DR:∀ {xs ys:List D},Cf xs ys = true→xs.length = ys.length
 | [],[],_=>rfl
 | [],_ :: _,h=>nomatch h
 | _ :: _,[],h=>nomatch h
 | x :: xs,y :: ys,h=>by
  rw [CfC,and_eq_true] at h
  simp [DR h.2]
theorem DQ:∀ {xs ys:List D},xs.length = ys.length→Cf xs ys = (List.range xs.length).all fun i=>eqD (xs.getD i .non) (ys.getD i .non)
 | [],[],_=>rfl
 | x :: xs,y :: ys,h=>by
  have ih:=DQ (xs:=xs) (ys:=ys) (by simpa using h)
  rw [CfC,ih,length_cons,List.range_succ_eq_map,all_cons,List.all_map]
  rfl
mutual
theorem CY:∀ d,eqD d d = true
 | .non=>rfl
 | .bl a=>by rw [eqDb]; exact beq_self_eq_true a
 | .int a=>by rw [eqDi]; exact beq_self_eq_true a
 | .str a=>by rw [eqDs]; exact beq_self_eq_true a
 | .lst xs=>GQ xs
 | .tup xs=>GQ xs
theorem GQ:∀ ds,Cf ds ds = true
 | []=>rfl
 | d :: ds=>by rw [CfC,CY d,GQ ds]; rfl
end
inductive Sh:Nat→D→Prop where
 | non {n:Nat}:Sh n .non
 | bl {n:Nat} (b:Bool):Sh n (.bl b)
 | int {n:Nat} (i:Int):Sh n (.int i)
 | str {n:Nat} (x:Str):Sh n (.str x)
 | lst {n:Nat} {ds:List D} (h:∀ d∈ds,Sh n d):Sh (n + 1) (.lst ds)
 | tup {n:Nat} {ds:List D} (h:∀ d∈ds,Sh n d):Sh (n + 1) (.tup ds)
section
variable {P:Program} {w:World} {H:Hp} {s:Shared} {N N':Addr→Prop}
theorem AX (hok:HOk P w H s.heap) {a:Addr} {vs:List V} (h:H a = some (.lst vs)):∃ its:List Value,Vals vs its∧s.heap.IsList a its.toArray:=by
 obtain ⟨z,its,n,r,e⟩:=hok a _ h
 exact ⟨its,r,_,e,rfl,_,rfl⟩
theorem Bn (hok:HOk P w H s.heap) {a:Addr} {vs:List V} (h:H a = some (.tup vs)):∃ its:List Value,Vals vs its∧s.heap.IsTuple a its.toArray:=by
 obtain ⟨z,its,r,p⟩:=hok a _ h
 exact ⟨its,r,p⟩
theorem Eo {A:Around} {vs vs':List V} {its its':List Value} {ds es:List D} (r:Vals vs its) (r':Vals vs' its') (hl:vs.length = ds.length) (hl':vs'.length = es.length)
  (f:∀ (i:Nat) v d v' e u u',vs[i]? = some v→ds[i]? = some d→vs'[i]? = some v'→es[i]? = some e→RelV v u→RelV v' u'→SeqAt.EqAt A s u u' (eqD d e)) :
  ∀ j (h1:j < its.toArray.size) (h2:j < its'.toArray.size),SeqAt.EqAt A s its.toArray[j] its'.toArray[j] (eqD (ds.getD j .non) (es.getD j .non)):=fun j h1 h2=>by
 have e1:=r.length
 have e2:=r'.length
 have h1':j < its.length:=by simpa using h1
 have h2':j < its'.length:=by simpa using h2
 have b1:j < vs.length:=by lia
 have b2:j < vs'.length:=by lia
 have b3:j < ds.length:=by lia
 have b4:j < es.length:=by lia
 obtain ⟨u,hu,ru⟩:=r.get (i:=j) (x:=vs[j]) (by simp)
 obtain ⟨u',hu',ru'⟩:=r'.get (i:=j) (x:=vs'[j]) (by simp)
 have q:=f j _ (ds[j]) _ (es[j]) u u' (by simp) (by simp) (by simp) (by simp) ru ru'
 have g1:its.toArray[j] = u:=by
  have:its[j]? = some (its[j]):=by simp [h1']
  rw [this] at hu
  simpa using hu
 have g2:its'.toArray[j] = u':=by
  have:its'[j]? = some (its'[j]):=by simp [h2']
  rw [this] at hu'
  simpa using hu'
 rw [g1,g2]
 have g3:ds.getD j .non = ds[j]:=by simp [List.getD,b3]
 have g4:es.getD j .non = es[j]:=by simp [List.getD,b4]
 rw [g3,g4]
 exact q
theorem lt0 {a n c:Nat} (h:a + n < c):a < c:=by lia
theorem lt1 {a n c:Nat} (h:a + (n + 1) < c):a + 1 + n < c:=by lia
theorem Ka (hok:HOk P w H s.heap) {x:V} {d:D} (r:RepA N H x d):∀ {A:Around} {n:Nat} {y:V} {e:D} {v u:Value},RepA N' H y e→RelV x v→RelV y u→Sh n d→A.units + n < cLine→SeqAt.EqAt A s v u (eqD d e):=by
 induction r with
 | non =>
  intro A n y e v u q rx ry _ hu
  cases rx
  cases q with
  | non=>cases ry; exact SeqAt.EqAt.same _
  | bl b=>cases ry; exact SeqAt.EqAt.none_bool b
  | int b=>obtain ⟨t,rfl⟩:=ry; exact SeqAt.EqAt.none_int b t
  | str b=>obtain ⟨t,rfl⟩:=ry; exact SeqAt.EqAt.none_str b t
  | lst h=>cases ry; obtain ⟨its,_,hl⟩:=AX hok h; exact SeqAt.EqAt.none_list hl (lt0 hu)
  | tup h=>cases ry; obtain ⟨its,_,hl⟩:=Bn hok h; exact SeqAt.EqAt.none_tuple hl (lt0 hu)
 | bl a =>
  intro A n y e v u q rx ry _ hu
  cases rx
  cases q with
  | non=>cases ry; exact SeqAt.EqAt.bool_none a
  | bl b=>cases ry; exact SeqAt.EqAt.bool_bool a b
  | int b=>obtain ⟨t,rfl⟩:=ry; exact SeqAt.EqAt.bool_int a b t
  | str b=>obtain ⟨t,rfl⟩:=ry; exact SeqAt.EqAt.bool_str a b t
  | lst h=>cases ry; obtain ⟨its,_,hl⟩:=AX hok h; exact SeqAt.EqAt.bool_list a hl (lt0 hu)
  | tup h=>cases ry; obtain ⟨its,_,hl⟩:=Bn hok h; exact SeqAt.EqAt.bool_tuple a hl (lt0 hu)
 | int a =>
  intro A n y e v u q rx ry _ hu
  obtain ⟨t',rfl⟩:=rx
  cases q with
  | non=>cases ry; exact SeqAt.EqAt.int_none a t'
  | bl b=>cases ry; exact SeqAt.EqAt.int_bool a t' b
  | int b=>obtain ⟨t,rfl⟩:=ry; exact SeqAt.EqAt.int_int a t' b t
  | str b=>obtain ⟨t,rfl⟩:=ry; exact SeqAt.EqAt.int_str a t' b t
  | lst h=>cases ry; obtain ⟨its,_,hl⟩:=AX hok h; exact SeqAt.EqAt.int_list a t' hl (lt0 hu)
  | tup h=>cases ry; obtain ⟨its,_,hl⟩:=Bn hok h; exact SeqAt.EqAt.int_tuple a t' hl (lt0 hu)
 | str a =>
  intro A n y e v u q rx ry _ hu
  obtain ⟨t',rfl⟩:=rx
  cases q with
  | non=>cases ry; exact SeqAt.EqAt.str_none a t'
  | bl b=>cases ry; exact SeqAt.EqAt.str_bool a t' b
  | int b=>obtain ⟨t,rfl⟩:=ry; exact SeqAt.EqAt.str_int a t' b t
  | str b=>obtain ⟨t,rfl⟩:=ry; exact SeqAt.EqAt.str_str a t' b t
  | lst h=>cases ry; obtain ⟨its,_,hl⟩:=AX hok h; exact SeqAt.EqAt.str_list a t' hl (lt0 hu)
  | tup h=>cases ry; obtain ⟨its,_,hl⟩:=Bn hok h; exact SeqAt.EqAt.str_tuple a t' hl (lt0 hu)
 | @lst a vs ds h hz hn hl hr ih =>
  intro A n y e v u q rx ry hs hu
  cases rx
  obtain ⟨its,rv,hil⟩:=AX hok h
  cases hs with
  | @lst n _ hs =>
   cases q with
   | non=>cases ry; exact SeqAt.EqAt.list_none hil (lt0 hu)
   | bl b=>cases ry; exact SeqAt.EqAt.list_bool b hil (lt0 hu)
   | int b=>obtain ⟨t,rfl⟩:=ry; exact SeqAt.EqAt.list_int b t hil (lt0 hu)
   | str b=>obtain ⟨t,rfl⟩:=ry; exact SeqAt.EqAt.list_str b t hil (lt0 hu)
   | @lst a' vs' es h' hz' hn' hl' hr' =>
    cases ry
    by_cases hab:a = a'
    ·subst hab
     have e:=(RepA.lst h hz hn hl hr).inj (RepA.lst h' hz' hn' hl' hr')
     cases e
     rw [CY]
     exact SeqAt.EqAt.same _
    ·obtain ⟨its',rv',hil'⟩:=AX hok h'
     have l1:=rv.length
     have l2:=rv'.length
     refine SeqAt.EqAt.of_refs hab ?_
     rw [eqDl]
     by_cases hlen:ds.length = es.length
     ·rw [DQ hlen,show ds.length = its.toArray.size by simp; lia]
      refine SeqAt.RcAt.lists hil hil' (by simp; lia) (lt0 hu) (Eo rv rv' hl hl' fun i v d v' e u u' e1 e2 e3 e4 ru ru'=>?_)
      exact ih i v d e1 e2 (hr' i v' e e3 e4) ru ru' (hs d (mem_of_getElem? e2)) (lt1 hu)
     ·have:Cf ds es = false:=by
       cases q:Cf ds es with
       | false=>rfl
       | true=>exact absurd (DR q) hlen
      rw [this]
      exact SeqAt.RcAt.lists_lengths hil hil' (by simp; lia) (lt0 hu)
   | tup h' =>
    cases ry
    obtain ⟨its',_,hl'⟩:=Bn hok h'
    exact SeqAt.EqAt.list_tuple hil hl' (lt0 hu)
 | @tup a vs ds h hz hl hr ih =>
  intro A n y e v u q rx ry hs hu
  cases rx
  obtain ⟨its,rv,hil⟩:=Bn hok h
  cases hs with
  | @tup n _ hs =>
   cases q with
   | non=>cases ry; exact SeqAt.EqAt.tuple_none hil (lt0 hu)
   | bl b=>cases ry; exact SeqAt.EqAt.tuple_bool b hil (lt0 hu)
   | int b=>obtain ⟨t,rfl⟩:=ry; exact SeqAt.EqAt.tuple_int b t hil (lt0 hu)
   | str b=>obtain ⟨t,rfl⟩:=ry; exact SeqAt.EqAt.tuple_str b t hil (lt0 hu)
   | @tup a' vs' es h' hz' hl' hr' =>
    cases ry
    by_cases hab:a = a'
    ·subst hab
     have e:=(RepA.tup (N:=N) h hz hl hr).inj (RepA.tup h' hz' hl' hr')
     cases e
     rw [CY]
     exact SeqAt.EqAt.same _
    ·obtain ⟨its',rv',hil'⟩:=Bn hok h'
     have l1:=rv.length
     have l2:=rv'.length
     refine SeqAt.EqAt.of_refs hab ?_
     have q:=SeqAt.RcAt.tuples (A:=A) hil hil' (lt0 hu) (Eo rv rv' hl hl' fun i v d v' e u u' e1 e2 e3 e4 ru ru'=>ih i v d e1 e2 (hr' i v' e e3 e4) ru ru' (hs d (mem_of_getElem? e2)) (lt1 hu))
     rw [eqDt]
     by_cases hlen:ds.length = es.length
     ·have e1:(its.toArray.size == its'.toArray.size) = true:=by simp; lia
      have e2:min its.toArray.size its'.toArray.size = ds.length:=by simp; lia
      rw [e1,e2,Bool.and_true,← DQ hlen] at q
      exact q
     ·have e1:(its.toArray.size == its'.toArray.size) = false:=by simp; lia
      have e3:Cf ds es = false:=by
       cases q:Cf ds es with
       | false=>rfl
       | true=>exact absurd (DR q) hlen
      rw [e1,Bool.and_false] at q
      rw [e3]
      exact q
   | lst h' =>
    cases ry
    obtain ⟨its',_,hl'⟩:=AX hok h'
    exact SeqAt.EqAt.tuple_list hil hl' (lt0 hu)
theorem VZ (hok:HOk P w H s.heap) {A:Around} {n:Nat} {x y:V} {d e:D} {v u:Value} (r:RepA N H x d) (q:RepA N' H y e) (rx:RelV x v) (ry:RelV y u) (hs:Sh n d) (hu:A.units + n < cLine):SeqAt.RcAt A s v u (eqD d e):=by
 cases r with
 | non =>
  cases rx
  cases q with
  | non=>cases ry; exact SeqAt.RcAt.none_none
  | bl b=>cases ry; exact SeqAt.RcAt.none_bool b
  | int b=>obtain ⟨t,rfl⟩:=ry; exact SeqAt.RcAt.none_int b t
  | str b=>obtain ⟨t,rfl⟩:=ry; exact SeqAt.RcAt.none_str b t
  | lst h=>cases ry; obtain ⟨its,_,hl⟩:=AX hok h; exact SeqAt.RcAt.none_list hl (lt0 hu)
  | tup h=>cases ry; obtain ⟨its,_,hl⟩:=Bn hok h; exact SeqAt.RcAt.none_tuple hl (lt0 hu)
 | bl a =>
  cases rx
  cases q with
  | non=>cases ry; exact SeqAt.RcAt.bool_none a
  | bl b=>cases ry; exact SeqAt.RcAt.bool_bool a b
  | int b=>obtain ⟨t,rfl⟩:=ry; exact SeqAt.RcAt.bool_int a b t
  | str b=>obtain ⟨t,rfl⟩:=ry; exact SeqAt.RcAt.bool_str a b t
  | lst h=>cases ry; obtain ⟨its,_,hl⟩:=AX hok h; exact SeqAt.RcAt.bool_list a hl (lt0 hu)
  | tup h=>cases ry; obtain ⟨its,_,hl⟩:=Bn hok h; exact SeqAt.RcAt.bool_tuple a hl (lt0 hu)
 | int a =>
  obtain ⟨t',rfl⟩:=rx
  cases q with
  | non=>cases ry; exact SeqAt.RcAt.int_none a t'
  | bl b=>cases ry; exact SeqAt.RcAt.int_bool a t' b
  | int b=>obtain ⟨t,rfl⟩:=ry; exact SeqAt.RcAt.int_int a t' b t
  | str b=>obtain ⟨t,rfl⟩:=ry; exact SeqAt.RcAt.int_str a t' b t
  | lst h=>cases ry; obtain ⟨its,_,hl⟩:=AX hok h; exact SeqAt.RcAt.int_list a t' hl (lt0 hu)
  | tup h=>cases ry; obtain ⟨its,_,hl⟩:=Bn hok h; exact SeqAt.RcAt.int_tuple a t' hl (lt0 hu)
 | str a =>
  obtain ⟨t',rfl⟩:=rx
  cases q with
  | non=>cases ry; exact SeqAt.RcAt.str_none a t'
  | bl b=>cases ry; exact SeqAt.RcAt.str_bool a t' b
  | int b=>obtain ⟨t,rfl⟩:=ry; exact SeqAt.RcAt.str_int a t' b t
  | str b=>obtain ⟨t,rfl⟩:=ry; exact SeqAt.RcAt.str_str a t' b t
  | lst h=>cases ry; obtain ⟨its,_,hl⟩:=AX hok h; exact SeqAt.RcAt.str_list a t' hl (lt0 hu)
  | tup h=>cases ry; obtain ⟨its,_,hl⟩:=Bn hok h; exact SeqAt.RcAt.str_tuple a t' hl (lt0 hu)
 | @lst a vs ds h hz hn hl hr =>
  cases rx
  obtain ⟨its,rv,hil⟩:=AX hok h
  cases hs with
  | @lst n _ hs =>
   cases q with
   | non=>cases ry; exact SeqAt.RcAt.list_none hil (lt0 hu)
   | bl b=>cases ry; exact SeqAt.RcAt.list_bool b hil (lt0 hu)
   | int b=>obtain ⟨t,rfl⟩:=ry; exact SeqAt.RcAt.list_int b t hil (lt0 hu)
   | str b=>obtain ⟨t,rfl⟩:=ry; exact SeqAt.RcAt.list_str b t hil (lt0 hu)
   | @lst a' vs' es h' hz' hn' hl' hr' =>
    cases ry
    obtain ⟨its',rv',hil'⟩:=AX hok h'
    have l1:=rv.length
    have l2:=rv'.length
    rw [eqDl]
    by_cases hlen:ds.length = es.length
    ·rw [DQ hlen,show ds.length = its.toArray.size by simp; lia]
     refine SeqAt.RcAt.lists hil hil' (by simp; lia) (lt0 hu) (Eo rv rv' hl hl' fun i v d v' e u u' e1 e2 e3 e4 ru ru'=>?_)
     exact Ka hok (hr i v d e1 e2) (hr' i v' e e3 e4) ru ru' (hs d (mem_of_getElem? e2)) (lt1 hu)
    ·have:Cf ds es = false:=by
      cases q:Cf ds es with
      | false=>rfl
      | true=>exact absurd (DR q) hlen
     rw [this]
     exact SeqAt.RcAt.lists_lengths hil hil' (by simp; lia) (lt0 hu)
   | tup h' =>
    cases ry
    obtain ⟨its',_,hl'⟩:=Bn hok h'
    exact SeqAt.RcAt.list_tuple hil hl' (lt0 hu)
 | @tup a vs ds h hz hl hr =>
  cases rx
  obtain ⟨its,rv,hil⟩:=Bn hok h
  cases hs with
  | @tup n _ hs =>
   cases q with
   | non=>cases ry; exact SeqAt.RcAt.tuple_none hil (lt0 hu)
   | bl b=>cases ry; exact SeqAt.RcAt.tuple_bool b hil (lt0 hu)
   | int b=>obtain ⟨t,rfl⟩:=ry; exact SeqAt.RcAt.tuple_int b t hil (lt0 hu)
   | str b=>obtain ⟨t,rfl⟩:=ry; exact SeqAt.RcAt.tuple_str b t hil (lt0 hu)
   | @tup a' vs' es h' hz' hl' hr' =>
    cases ry
    obtain ⟨its',rv',hil'⟩:=Bn hok h'
    have l1:=rv.length
    have l2:=rv'.length
    have q:=SeqAt.RcAt.tuples (A:=A) hil hil' (lt0 hu) (Eo rv rv' hl hl' fun i v d v' e u u' e1 e2 e3 e4 ru ru'=>Ka hok (hr i v d e1 e2) (hr' i v' e e3 e4) ru ru' (hs d (mem_of_getElem? e2)) (lt1 hu))
    rw [eqDt]
    by_cases hlen:ds.length = es.length
    ·have e1:(its.toArray.size == its'.toArray.size) = true:=by simp; lia
     have e2:min its.toArray.size its'.toArray.size = ds.length:=by simp; lia
     rw [e1,e2,Bool.and_true,← DQ hlen] at q
     exact q
    ·have e1:(its.toArray.size == its'.toArray.size) = false:=by simp; lia
     have e3:Cf ds es = false:=by
      cases q:Cf ds es with
      | false=>rfl
      | true=>exact absurd (DR q) hlen
     rw [e1,Bool.and_false] at q
     rw [e3]
     exact q
   | lst h' =>
    cases ry
    obtain ⟨its',_,hl'⟩:=AX hok h'
    exact SeqAt.RcAt.tuple_list hil hl' (lt0 hu)
end
section
variable {X:Cx} {k:Nat}
theorem CK (hr:Room k X.A):OpR X (compareOp .Eq) (fun x y H Q=>∃ d e,Rep H x d∧Rep H y e∧Sh 16 d∧Q (.bl (eqD d e)) H):=by
 intro pins s σ H x y v u Q I rx ry h
 obtain ⟨d,e,r1,r2,hs,q⟩:=h
 exact EqBoolInt.of_rc (VZ I.hok r1 r2 rx ry hs (by have:=hr.units; lia)) ⟨.bl _,H,I,rfl,q⟩
end
section
variable {P:Program} {w:World} {K:Frag} {mg:Str→Option Value} {base:Heap} {N:List Str} {qual:Str} {scope:Scope} {f:Addr} {cd:Value} {A:Around} {outer:List Env} {s:Shared} {H:Hp} {E E':XK}
end
section
variable {P:Program} {w:World} {K:Frag} {mg:Str→Option Value} {base:Heap} {N:List Str} {qual:Str} {scope:Scope} {f:Addr} {cd:Value} {A:Around} {outer:List Env} {s:Shared} {H:Hp} {E:XK}
end
structure Blt (mg:Str→Option Value) (K:Frag):Prop where
 isinstance:mg "isinstance" = none
 len:mg "len" = none
 all:mg "all" = none
 any:mg "any" = none
 range:mg "range" = none
 list:mg "list" = none
 int:mg "int" = none
 bool:mg "bool" = none
 tuple:mg "tuple" = none
 str:mg "str" = none
 abs:mg "abs" = none
 max:mg "max" = none
 min:mg "min" = none
 dict:mg "dict" = none
section
variable {X:Cx} {x:Str} {p pos:Pos} {e:Expr} {es:List Expr} {t:TA} {id T:String} {r:List V→Hp→VK→Prop}
theorem OP (hc:BX X (.builtin id) r) (hm:X.mg x = none) (hv:bootBuiltins x = some (.builtin id)) (hn:x ≠ "__name__") (hdb:(x == ("__debug__" : Str)) = false) (hg:Gl X x)
  (he:starEach (e :: es) X.env = (false,eval e X.env) :: starEach es X.env) (hpl:(backTo pos (starEach es X.env)).any (·.1) = false) (ha:PA X (e :: es) t):PE X (.Call (.Name x p) (e :: es) [] pos) (tCB r t):=LN hc hg hm hv ha hn hdb he hpl
theorem G6 (hc:BX X (.type T) r) (hm:X.mg x = none) (hv:bootBuiltins x = some (.type T)) (hn:x ≠ "__name__") (hdb:(x == ("__debug__" : Str)) = false) (hg:Gl X x)
  (he:starEach (e :: es) X.env = (false,eval e X.env) :: starEach es X.env) (hpl:(backTo pos (starEach es X.env)).any (·.1) = false) (ha:PA X (e :: es) t):PE X (.Call (.Name x p) (e :: es) [] pos) (tCB r t):=OQ hc hg hm hv ha hn hdb he hpl
theorem Qm {te:TE} (hs:starEach (e :: es) X.env = (false,eval e X.env) :: starEach es X.env) (ha:PE X e te) (hr:PA X es t):PA X (e :: es) (Cc te t):=C1 ha hr hs
theorem SN {t:TE} (he:∀ whole,isTrue e X.env whole = (do let v ← whole; standAt e.pos; holding [v] (truthy v))) (h:PE X e t):PT X e (tB t):=VR h he
end
section
variable {X:Cx} {p pos:Pos} {e:Expr} {es:List Expr} {t:TA}
noncomputable def isInt:D→Bool
 | .int _=>true
 | .bl _=>true
 | .non | .str _ | .lst _ | .tup _=>false
noncomputable def isBool:D→Bool
 | .bl _=>true
 | .non | .int _ | .str _ | .lst _ | .tup _=>false
noncomputable def Hh:D→Bool
 | .lst _=>true
 | .non | .bl _ | .int _ | .str _ | .tup _=>false
noncomputable def isTup:D→Bool
 | .tup _=>true
 | .non | .bl _ | .int _ | .str _ | .lst _=>false
noncomputable def isStr:D→Bool
 | .str _=>true
 | .non | .bl _ | .int _ | .lst _ | .tup _=>false
noncomputable def rIs (T:String) (f:D→Bool):List V→Hp→VK→Prop:=fun xs H Q=>∃ x d,xs = [x,.ty T]∧Rep H x d∧Q (.bl (f d)) H
theorem RB {T:String} {f:D→Bool} (hf:∀ d,isI (FD d) T = f d) (hT:T∈["int","bool","tuple","list","str"]):BX X (.builtin "isinstance") (rIs T f):=by
 intro pins s σ H xs us Q I r h
 obtain ⟨x,d,rfl,rp,q⟩:=h
 exact Pd pins s σ H _ us Q I r ⟨x,FD d,T,rfl,rp.typ,hT,by rw [hf]; exact q⟩
theorem RT:∀ d,isI (FD d) "int" = isInt d:=fun d=>by cases d <;> (simp only [FD,isInt]; decide +kernel)
theorem PF:∀ d,isI (FD d) "bool" = isBool d:=fun d=>by cases d <;> (simp only [FD,isBool]; decide +kernel)
theorem PH:∀ d,isI (FD d) "list" = Hh d:=fun d=>by cases d <;> (simp only [FD,Hh]; decide +kernel)
theorem Ow:∀ d,isI (FD d) "tuple" = isTup d:=fun d=>by cases d <;> (simp only [FD,isTup]; decide +kernel)
theorem RU:∀ d,isI (FD d) "str" = isStr d:=fun d=>by cases d <;> (simp only [FD,isStr]; decide +kernel)
theorem IC {a:Expr} {ta:TE} {q:Pos} {x:Str} {T:String} {f:D→Bool} (hf:∀ d,isI (FD d) T = f d) (hT:T∈["int","bool","tuple","list","str"]) (hn:PE X (.Name x q) (tC (.ty T))) (hg:Gl X "isinstance") {K:Frag} (B:Blt X.mg K)
  (he:starEach [a,.Name x q] X.env = [(false,eval a X.env),(false,eval (.Name x q) X.env)]) (he2:starEach [.Name x q] X.env = [(false,eval (.Name x q) X.env)]) (ha:PE X a ta) :
  PE X (.Call (.Name "isinstance" p) [a,.Name x q] [] pos) (tCB (rIs T f) (Cc ta (Cc (tC (.ty T)) F7))):=
 LN (RB hf hT) hg B.isinstance PyProof.Rows.Boot.«isinstance» (C1 ha (C1 hn Ei he2) (he.trans (by rw [he2]))) dK dK (he.trans (by rw [he2])) (by rw [he2]; rfl)
theorem Vs {a:Expr} {ta:TE} {q:Pos} (hg:Gl X "isinstance") (hg2:Gl X "int") {K:Frag} (B:Blt X.mg K) (he:starEach [a,.Name "int" q] X.env = [(false,eval a X.env),(false,eval (.Name "int" q) X.env)]) (he2:starEach [.Name "int" q] X.env = [(false,eval (.Name "int" q) X.env)]) (ha:PE X a ta) :
  PE X (.Call (.Name "isinstance" p) [a,.Name "int" q] [] pos) (tCB (rIs "int" isInt) (Cc ta (Cc (tC (.ty "int")) F7))):=IC RT (by decide) (GC hg2 B.int PyProof.Rows.Boot.«int» rfl dK dK) hg B he he2 ha
theorem Vr {a:Expr} {ta:TE} {q:Pos} (hg:Gl X "isinstance") (hg2:Gl X "bool") {K:Frag} (B:Blt X.mg K) (he:starEach [a,.Name "bool" q] X.env = [(false,eval a X.env),(false,eval (.Name "bool" q) X.env)]) (he2:starEach [.Name "bool" q] X.env = [(false,eval (.Name "bool" q) X.env)]) (ha:PE X a ta) :
  PE X (.Call (.Name "isinstance" p) [a,.Name "bool" q] [] pos) (tCB (rIs "bool" isBool) (Cc ta (Cc (tC (.ty "bool")) F7))):=IC PF (by decide) (GC hg2 B.bool PyProof.Rows.Boot.«bool» rfl dK dK) hg B he he2 ha
theorem Vt {a:Expr} {ta:TE} {q:Pos} (hg:Gl X "isinstance") (hg2:Gl X "list") {K:Frag} (B:Blt X.mg K) (he:starEach [a,.Name "list" q] X.env = [(false,eval a X.env),(false,eval (.Name "list" q) X.env)]) (he2:starEach [.Name "list" q] X.env = [(false,eval (.Name "list" q) X.env)]) (ha:PE X a ta) :
  PE X (.Call (.Name "isinstance" p) [a,.Name "list" q] [] pos) (tCB (rIs "list" Hh) (Cc ta (Cc (tC (.ty "list")) F7))):=IC PH (by decide) (GC hg2 B.list PyProof.Rows.Boot.«list» rfl dK dK) hg B he he2 ha
theorem Vu {a:Expr} {ta:TE} {q:Pos} (hg:Gl X "isinstance") (hg2:Gl X "tuple") {K:Frag} (B:Blt X.mg K) (he:starEach [a,.Name "tuple" q] X.env = [(false,eval a X.env),(false,eval (.Name "tuple" q) X.env)]) (he2:starEach [.Name "tuple" q] X.env = [(false,eval (.Name "tuple" q) X.env)]) (ha:PE X a ta) :
  PE X (.Call (.Name "isinstance" p) [a,.Name "tuple" q] [] pos) (tCB (rIs "tuple" isTup) (Cc ta (Cc (tC (.ty "tuple")) F7))):=IC Ow (by decide) (GC hg2 B.tuple PyProof.Rows.Boot.«tuple» rfl dK dK) hg B he he2 ha
theorem Vv {a:Expr} {ta:TE} {q:Pos} (hg:Gl X "isinstance") (hg2:Gl X "str") {K:Frag} (B:Blt X.mg K) (he:starEach [a,.Name "str" q] X.env = [(false,eval a X.env),(false,eval (.Name "str" q) X.env)]) (he2:starEach [.Name "str" q] X.env = [(false,eval (.Name "str" q) X.env)]) (ha:PE X a ta) :
  PE X (.Call (.Name "isinstance" p) [a,.Name "str" q] [] pos) (tCB (rIs "str" isStr) (Cc ta (Cc (tC (.ty "str")) F7))):=IC RU (by decide) (GC hg2 B.str PyProof.Rows.Boot.«str» rfl dK dK) hg B he he2 ha
noncomputable def X0 (K:Frag):List V→Hp→VK→Prop:=fun xs H Q=>∃ p bs,xs = [.ref p]∧SqL K H p (DK bs)∧Q (.bl (bs.all id)) H
noncomputable def X1 (K:Frag):List V→Hp→VK→Prop:=fun xs H Q=>∃ p bs,xs = [.ref p]∧SqL K H p (DK bs)∧Q (.bl (bs.any id)) H
noncomputable def Xp (K:Frag):List V→Hp→VK→Prop:=fun xs H Q=>(∃ p ys,xs = [.ref p]∧(SqL K H p ys∨SqT K H p ys)∧Q (.int ys.length) H)∨∃ z,xs = [.str z]∧z.length≤sizeLine∧Q (.int z.length) H
end
section
variable {X:Cx} {a b c e:Expr} {ta tb tc:TE} {p pos:Pos} {es:List Expr} {t:TA} {x:Str}
theorem OL:OpR X (compareOp .LtE) (fun x y H Q=>∃ i j,x = .str i∧y = .str j∧Q (.bl (!decide (j.cps.toList < i.cps.toList))) H):=by
 intro pins s σ H x y v u Q I rx ry h
 obtain ⟨i,j,rfl,rfl,q⟩:=h
 obtain ⟨t,rfl⟩:=rx
 obtain ⟨t',rfl⟩:=ry
 exact PySem.P.le_str (HY I q rfl)
noncomputable def X2:R2:=fun x y H Q=>∃ d e,Rep H x d∧Rep H y e∧Sh 16 d∧Q (.bl (eqD d e)) H
noncomputable def T6:R2:=fun x y H Q=>(∃ i j,x = .int i∧y = .int j∧Q (.bl (decide (i < j))) H)∨∃ i j,x = .str i∧y = .str j∧Q (.bl (decide (i.cps.toList < j.cps.toList))) H
noncomputable def T4:R2:=fun x y H Q=>(∃ i j,x = .int i∧y = .int j∧Q (.bl (decide (i≤j))) H)∨∃ i j,x = .str i∧y = .str j∧Q (.bl (!decide (j.cps.toList < i.cps.toList))) H
theorem FA:OpR X (compareOp .Lt) T6:=Xc.or OM
theorem ES:OpR X (compareOp .LtE) T4:=Xb.or OL
noncomputable def PEc (X:Cx) (own:List Str) (scope:Scope) (e:Expr) (t:TE):Prop:=∀ C s H fp pins,PE (cxC X own scope C s H fp pins) e t
noncomputable def PTc (X:Cx) (own:List Str) (scope:Scope) (ifs:List Expr) (t:TT):Prop:=∀ C s H fp pins,PTs (cxC X own scope C s H fp pins) ifs t
structure Names (N:List Str):Prop where
 nd:N.Nodup
theorem Vx {scope:Scope} {iter elt:Expr} {ifs:List Expr} {px:Pos} {wi:TI} {tt:TT} {te:TE} (hok:CC [x] X.N scope X.env.scope = true) (hc:X.calm = true) {NN:List Str} (hn:Names NN) (hX:X.N = NN) (hx:scope.names.lookup x = some .local)
  (hs:∀ z,foldedSetIterable iter X.env z = pure z) (hi:PI X (.Name x px) iter wi) (ht:PTc X [x] scope ifs tt) (he:PEc X [x] scope elt te) :
  PE X (.ListComp elt [⟨.Name x px,iter,ifs,0⟩] scope pos) (tLc wi Wy tt te):=by
 have hnx:∀ y∈X.N,x≠y:=fun y hy z=>by
  simp only [CC,and_eq_true,all_eq_true] at hok
  have:=hok.2 x (by simp)
  rw [z] at this
  simp [hy] at this
 exact T2 hc hok hi (fun C s H fp pins=>LP rfl (nodup_cons.mpr ⟨fun z=>hnx x z rfl,by rw [hX]; exact hn.nd⟩) (lookup_relabel_local hx)) ht he hs
structure GInt (mg:Str→Option Value) (x:Str) (n:Int):Prop where
 at_:∃ t,mg x = some (.int n t)
theorem Sx {mg:Str→Option Value} {n:Int} (G:GInt mg x n) (hm:X.mg = mg) (hg:Gl X x) (hd:(x == ("__debug__" : Str)) = false):PE X (.Name x pos) (tC (.int n)):=by
 subst hm
 obtain ⟨t,e⟩:=G.at_
 exact Sy hg e ⟨t,rfl⟩ hd
end
section
variable {P:Program} {w:World} {K:Frag} {mg:Str→Option Value} {base:Heap}
end
noncomputable def signs (z:Str):List Str:=z.cps.toList.map fun c=>⟨#[c]⟩
noncomputable def glue (ys:List Str):Str:=⟨(ys.map fun y=>y.cps.toList).flatten.toArray⟩
theorem Ms (ys:List Str):∀ acc:Array Nat,List.foldl (fun (acc:Array Nat) (p:Str)=>acc ++ (("" : Str)).cps ++ p.cps) acc ys = acc ++ ((ys.map fun y=>y.cps.toList).flatten.toArray):=by
 induction ys with
 | nil=>intro acc; simp
 | cons y ys ih =>
  intro acc
  rw [foldl_cons,ih]
  have e:(("" : Str)).cps = #[]:=by decide +kernel
  rw [e]
  apply Array.ext'
  simp
theorem Mw (ys:List Str):Txt.join ("" : Str) ys = glue ys:=by
 cases ys with
 | nil=>decide +kernel
 | cons y ys =>
  have e:Txt.join ("" : Str) (y :: ys) = ⟨List.foldl (fun (acc:Array Nat) (p:Str)=>acc ++ (("" : Str)).cps ++ p.cps) y.cps ys⟩:=rfl
  rw [e,Ms]
  unfold glue
  congr 1
  apply Array.ext'
  simp
section
variable {X:Cx} {a e:Expr} {ta te:TE} {apos cpos:Pos}
theorem F5:∀ {ys:List Str} {us:List Value},Vals (ys.map V.str) us→StrsAre us ys
 | [],_,.nil=>.nil
 | _ :: _,_,.cons ⟨t,e⟩ r=>by subst e; exact .cons _ _ (F5 r)
noncomputable def rJoin (K:Frag):V→List V→Hp→VK→Prop:=fun x xs H Q=>∃ sep p ys,x = .str sep∧xs = [.ref p]∧SqL K H p (ys.map V.str)∧(ys.map (·.length)).sum + ys.length * sep.length≤16777216∧Q (.str (Txt.join sep ys)) H
theorem R7:MtR X "str.join" (rJoin X.K):=by
 intro pins s σ H x xs v us Q I rx rv h
 obtain ⟨sep,p,ys,rfl,rfl,hq,hz,q⟩:=h
 obtain ⟨t,rfl⟩:=rx
 obtain ⟨u,rfl,ru⟩:=rv.one
 cases ru
 obtain ⟨its,r,pl,_⟩:=I.list hq
 exact join_list pl.isList (by simpa using F5 r) hz fun t' k=>⟨.str _,H,I.tok k,⟨_,rfl⟩,q⟩
noncomputable def MQ:V→List V→Hp→VK→Prop:=fun x xs H Q=>∃ z y,x = .str z∧xs = [.str y]∧0≤Txt.find z y∧Q (.int (Txt.find z y)) H
theorem P9 (hc:X.calm = true):MtR X "str.index" MQ:=by
 intro pins s σ H x xs v us Q I rx rv h
 obtain ⟨z,y,rfl,rfl,h0,q⟩:=h
 obtain ⟨t,rfl⟩:=rx
 obtain ⟨u,rfl,ru⟩:=rv.one
 obtain ⟨t',rfl⟩:=ru
 exact index_or (I.ok.hd hc) (fun e=>absurd h0 (by lia)) fun _ _=>⟨.int _,H,I.tok _,⟨_,rfl⟩,q⟩
theorem Sz {K:Frag} (hK:X.K = K) (B:Blt X.mg K) (hbase:attributeBase a "join" X.env (eval a X.env) = eval a X.env) (hline:(apos.endLine == cpos.line) = true) (hs:starEach [e] X.env = [(false,eval e X.env)]) (ha:PE X a ta) (he:PE X e te) :
  PE X (.Call (.Attribute a "join" apos) [e] [] cpos) (tBM K "str" (rJoin K) ta (Cc te F7)):=by
 subst hK
 exact NM F.plainAttrs_str F.slot_str_join F.type_str_join R7 ha (C1 he Ei hs) hbase (by rw [hs]; rfl) hline hs rfl
theorem Qo {K:Frag} (hK:X.K = K) (B:Blt X.mg K) (hc:X.calm = true) (hbase:attributeBase a "index" X.env (eval a X.env) = eval a X.env) (hline:(apos.endLine == cpos.line) = true) (hs:starEach [e] X.env = [(false,eval e X.env)]) (ha:PE X a ta) (he:PE X e te) :
  PE X (.Call (.Attribute a "index" apos) [e] [] cpos) (tBM K "str" MQ ta (Cc te F7)):=by
 subst hK
 exact NM F.plainAttrs_str F.slot_str_index F.type_str_index (P9 hc) ha (C1 he Ei hs) hbase (by rw [hs]; rfl) hline hs rfl
end
theorem Pn {x:Str} {c i:Nat} (hi:x.cps.toList[i]? = some c) (hf:∀ k,k < i→x.cps.toList[k]? ≠ some c):Txt.find x ⟨#[c]⟩ = (i:Int):=by
 rcases find_whole x ⟨#[c]⟩ with ⟨_,h⟩ | ⟨j,e,hj,hl⟩
 ·exact absurd ((StrLaws.subAt_one x c i).mpr hi) (h i)
 ·have ej:=(StrLaws.subAt_one x c j).mp hj
  have:j = i:=by
   rcases Nat.lt_trichotomy i j with h | h | h
   ·exact absurd ((StrLaws.subAt_one x c i).mpr hi) (hl i h)
   ·exact h.symm
   ·exact absurd ej (hf j h)
  rw [e,this]
section
variable {X:Cx} {p pos:Pos} {e:Expr} {es:List Expr} {t:TA}
end
end L2
end
section
namespace J
open PySem L2
inductive A where
 | fz (d:D) | lst (as:List A) | tup (as:List A) | scr (ns:List Int) | dic (kvs:List (Key × D))
inductive Own where
 | own | lent | ro
 deriving DecidableEq
noncomputable abbrev Slot:=Option (Own × A)
noncomputable abbrev Ro:=List Slot
inductive R where
 | val (a:A) | ref (i:Nat)
mutual
noncomputable def er:A→Option D
 | .fz d=>some d
 | .lst as=>(ers as).map D.lst
 | .tup as=>(ers as).map D.tup
 | .scr _=>none
 | .dic _=>none
noncomputable def ers:List A→Option (List D)
 | []=>some []
 | a :: as=>(er a).bind fun d=>(ers as).map (d :: ·)
end
noncomputable def fzs:List A→Option (List D)
 | []=>some []
 | .fz d :: as=>(fzs as).map (d :: ·)
 | _ :: _=>none
noncomputable def peek (ρ:Ro):R→Option A
 | .val a=>some a
 | .ref i=>match ρ[i]? with
  | some (some (_,a))=>some a
  | _=>none
noncomputable def peeks (ρ:Ro):List R→Option (List A)
 | []=>some []
 | r :: rs=>(peek ρ r).bind fun a=>(peeks ρ rs).map (a :: ·)
noncomputable def share (ρ:Ro):R→Option (D × Ro)
 | .val a=>(er a).map (·,ρ)
 | .ref i=>match ρ[i]? with
  | some (some (.own,a))=>(er a).map fun d=>(d,ρ.set i (some (.own,.fz d)))
  | _=>none
noncomputable def move (ρ:Ro):R→Option (A × Ro)
 | .val a=>some (a,ρ)
 | .ref i=>match ρ[i]? with
  | some (some (.own,a))=>some (a,ρ.set i none)
  | _=>none
noncomputable abbrev ME:=Ro→Option (R × Ro)
noncomputable abbrev MT:=Ro→Option (Bool × Ro)
noncomputable abbrev MA:=Ro→Option (List R × Ro)
noncomputable def Ab (i:Nat):ME:=fun ρ=>match ρ[i]? with
 | some (some (_,.fz d))=>some (.val (.fz d),ρ)
 | some (some _)=>some (.ref i,ρ)
 | _=>none
noncomputable def Ae (d:D):ME:=fun ρ=>some (.val (.fz d),ρ)
noncomputable def Ad:MA:=fun ρ=>some ([],ρ)
noncomputable def Aa (m:ME) (ms:MA):MA:=fun ρ=>(m ρ).bind fun p=>(ms p.2).map fun q=>(p.1 :: q.1,q.2)
noncomputable def opM (f:List A→Option A) (m:MA):ME:=fun ρ=>(m ρ).bind fun p=>(peeks p.2 p.1).bind fun as=>(f as).map fun a=>(.val a,p.2)
noncomputable def FE:A→Option Bool
 | .fz (.bl b)=>some b
 | .fz .non | .fz (.int _) | .fz (.str _) | .fz (.lst _) | .fz (.tup _) | .lst _ | .tup _ | .scr _ | .dic _=>none
noncomputable def AG (m:ME):MT:=fun ρ=>(m ρ).bind fun p=>(peek p.2 p.1).bind fun a=>(FE a).map (·,p.2)
noncomputable def andM (a b:ME):ME:=fun ρ=>(AG a ρ).bind fun p=>if p.1 then b p.2 else some (.val (.fz (.bl false)),p.2)
noncomputable def notM (a:ME):ME:=fun ρ=>(AG a ρ).map fun p=>(.val (.fz (.bl (!p.1))),p.2)
noncomputable def J0 (a b:MT):MT:=fun ρ=>(a ρ).bind fun p=>if p.1 then b p.2 else some (false,p.2)
noncomputable def orT (a b:MT):MT:=fun ρ=>(a ρ).bind fun p=>if p.1 then some (true,p.2) else b p.2
noncomputable def Dm (a:MT):MT:=fun ρ=>(a ρ).map fun p=>(!p.1,p.2)
noncomputable def Jc (f g:List A→Option A) (a b c:ME):ME:=fun ρ=>(a ρ).bind fun p=>(b p.2).bind fun q=>(peeks q.2 [p.1,q.1]).bind fun as=>(f as).bind fun z=>(FE z).bind fun k =>
 if k then (c q.2).bind fun r=>(peeks r.2 [q.1,r.1]).bind fun bs=>(g bs).map fun z=>(.val z,r.2) else some (.val (.fz (.bl false)),q.2)
noncomputable def AW (m:ME):ME:=fun ρ=>(m ρ).bind fun p=>(share p.2 p.1).map fun q=>(.val (.fz q.1),q.2)
noncomputable def vals:List R→Option (List A)
 | []=>some []
 | .val a :: rs=>(vals rs).map (a :: ·)
 | .ref _ :: _=>none
noncomputable abbrev LIM:Nat:=sizeLine
noncomputable def mkT (as:List A):A:=match fzs as with
 | some ds=>.fz (.tup ds)
 | none=>.tup as
noncomputable def lstM (m:MA):ME:=fun ρ=>(m ρ).bind fun p=>(vals p.1).bind fun as=>if as.length≤LIM then some (.val (.lst as),p.2) else none
noncomputable abbrev Fn:=List (Own × A)→Option (A × List A)
noncomputable def Gb (ρ:Ro):R→Option (Own × A)
 | .val a=>some (.own,a)
 | .ref i=>match ρ[i]? with
  | some (some (.ro,a))=>some (.ro,a)
  | some (some (_,a))=>some (.lent,a)
  | _=>none
noncomputable def EH (ρ:Ro):List R→Option (List (Own × A))
 | []=>some []
 | r :: rs=>(Gb ρ r).bind fun a=>(EH ρ rs).map (a :: ·)
noncomputable def OX (ρ:Ro) (i:Nat) (a:A):Ro:=match ρ[i]? with
 | some (some (st,_))=>ρ.set i (some (st,a))
 | _=>ρ
noncomputable def back:List R→List A→Ro→Ro
 | .ref i :: rs,a :: as,ρ=>back rs as (OX ρ i a)
 | .val _ :: rs,_ :: as,ρ=>back rs as ρ
 | [],_,ρ=>ρ
 | .ref _ :: _,[],ρ=>ρ
 | .val _ :: _,[],ρ=>ρ
noncomputable def refs:List R→List Nat
 | []=>[]
 | .ref i :: rs=>i :: refs rs
 | .val _ :: rs=>refs rs
noncomputable def Af (Φ:Fn) (m:MA):ME:=fun ρ=>(m ρ).bind fun p=>(EH p.2 p.1).bind fun args=>if (refs p.1).Nodup then (Φ args).map fun q=>(.val q.1,back p.1 q.2 p.2) else none
noncomputable def EU (z:Str):List D:=z.cps.toList.map fun c=>.str ⟨#[c]⟩
noncomputable def Br:A→Option (List D)
 | .fz (.lst ds)=>some ds
 | .fz (.tup ds)=>some ds
 | .lst as=>fzs as
 | .scr ns=>some (ns.map D.int)
 | .fz .non | .fz (.bl _) | .fz (.int _) | .fz (.str _) | .tup _ | .dic _=>none
noncomputable abbrev MI:=Ro→Option (List D × Option Nat × Ro)
noncomputable def nameOf:R→Option Nat
 | .val _=>none
 | .ref i=>some i
noncomputable def Dy (m:ME):MI:=fun ρ=>(m ρ).bind fun p=>(peek p.2 p.1).bind fun a=>(Br a).map fun ds=>(ds,nameOf p.1,p.2)
noncomputable def L8 (m:ME):MI:=fun ρ=>(m ρ).bind fun p=>match p.1 with
 | .val (.fz (.str z))=>if z.length≤LIM then some (EU z,none,p.2) else none
 | _=>none
noncomputable def Cu (lo:Int) (n:Nat):List D:=(List.range n).map fun (k:Nat)=>D.int (lo + (k:Int))
noncomputable def Yb:A→Option Int
 | .fz (.int i)=>some i
 | _=>none
noncomputable def Bt (m:ME):MI:=fun ρ=>(m ρ).bind fun p=>match p.1 with
 | .val (.fz (.int j))=>if -(2 ^ 62)≤j∧j < 2 ^ 62 then some (Cu 0 j.toNat,none,p.2) else none
 | _=>none
noncomputable def lock (ρ:Ro):Option Nat→Ro
 | none=>ρ
 | some i=>match ρ[i]? with
  | some (some (_,a))=>ρ.set i (some (.ro,a))
  | _=>ρ
noncomputable def unlock (old ρ:Ro):Option Nat→Ro
 | none=>ρ
 | some i=>match old[i]? with
  | some s=>ρ.set i s
  | none=>ρ
noncomputable def MP (n:Nat) (d:D):Option (List D):=match n with
 | 0=>some [d]
 | n=>match d with
  | .tup ds=>if ds.length = n then some ds else none
  | _=>none
noncomputable def own (d:D):Slot:=some (.own,.fz d)
noncomputable def DL (pat:Nat) (c:MT) (e:ME):List D→Ro→Option (List D × Ro)
 | [],ρ=>some ([],ρ)
 | d :: ds,ρ=>(MP pat d).bind fun bs=>(c (bs.map own ++ ρ)).bind fun p =>
  if p.1 then (e p.2).bind fun q=>(share q.2 q.1).bind fun s=>(DL pat c e ds (s.2.drop bs.length)).map fun t=>(s.1 :: t.1,t.2)
  else DL pat c e ds (p.2.drop bs.length)
noncomputable def D0:MT:=fun ρ=>some (true,ρ)
noncomputable def A4 (it:MI) (pat:Nat) (c:MT) (e:ME):ME:=fun ρ=>(it ρ).bind fun p=>if p.1.length≤LIM then (DL pat c e p.1 (lock p.2.2 p.2.1)).map fun q=>(.val (.lst (q.1.map A.fz)),unlock p.2.2 q.2 p.2.1) else none
inductive Fl where
 | next (ρ:Ro) | brk (ρ:Ro) | cnt (ρ:Ro) | ret (a:A) (ρ:Ro)
noncomputable abbrev MS:=Ro→Option Fl
noncomputable def free (ρ:Ro) (i:Nat):Bool:=match ρ[i]? with
 | some none=>true
 | some (some (.own,_))=>true
 | _=>false
noncomputable def keep (ρ:Ro):R→Option (A × Ro)
 | .val a=>some (a,ρ)
 | r=>(share ρ r).map fun q=>(.fz q.1,q.2)
noncomputable def AY:MS:=fun ρ=>some (.next ρ)
noncomputable def IS:MS:=fun _=>none
noncomputable def Ap (a b:MS):MS:=fun ρ=>(a ρ).bind fun f=>match f with
 | .next ρ1=>b ρ1
 | f=>some f
noncomputable def Ar (i:Nat) (m:ME):MS:=fun ρ=>(m ρ).bind fun p=>(keep p.2 p.1).bind fun q=>if free q.2 i then some (.next (q.2.set i (some (.own,q.1)))) else none
noncomputable def ET:A→Option (List A)
 | .tup as=>some as
 | .fz (.tup ds)=>some (ds.map A.fz)
 | .fz .non | .fz (.bl _) | .fz (.int _) | .fz (.str _) | .fz (.lst _) | .lst _ | .scr _ | .dic _=>none
noncomputable def CM:List Nat→List A→Ro→Option Ro
 | [],[],ρ=>some ρ
 | i :: is,a :: as,ρ=>if free ρ i then CM is as (ρ.set i (some (.own,a))) else none
 | [],_ :: _,_=>none
 | _ :: _,[],_=>none
noncomputable def K1 (is:List Nat) (m:ME):MS:=fun ρ=>(m ρ).bind fun p=>(keep p.2 p.1).bind fun q=>(ET q.1).bind fun as=>(CM is as q.2).map .next
noncomputable def EJ (m:ME):MS:=fun ρ=>(m ρ).map fun p=>.next p.2
noncomputable def retS (m:ME):MS:=fun ρ=>(m ρ).bind fun p=>(move p.2 p.1).map fun q=>.ret q.1 q.2
noncomputable def ifS (c:MT) (a b:MS):MS:=fun ρ=>(c ρ).bind fun p=>if p.1 then a p.2 else b p.2
noncomputable def HS (is:List Nat) (one:Bool) (d:D) (ρ:Ro):Option Ro:=match one,is with
 | true,[i]=>if free ρ i then some (ρ.set i (own d)) else none
 | false,is=>(match d with
  | .tup ds=>CM is (ds.map A.fz) ρ
  | _=>none)
 | _,_=>none
noncomputable def forL (is:List Nat) (one:Bool) (b:MS):List D→Ro→Option Fl
 | [],ρ=>some (.next ρ)
 | d :: ds,ρ=>(HS is one d ρ).bind fun ρ1=>(b ρ1).bind fun f=>match f with
  | .next ρ2=>forL is one b ds ρ2
  | .cnt ρ2=>forL is one b ds ρ2
  | .brk ρ2=>some (.next ρ2)
  | f=>some f
noncomputable def HK (old:Ro) (n:Option Nat):Fl→Fl
 | .next ρ=>.next (unlock old ρ n)
 | .brk ρ=>.brk (unlock old ρ n)
 | .cnt ρ=>.cnt (unlock old ρ n)
 | .ret a ρ=>.ret a (unlock old ρ n)
noncomputable def GU (is:List Nat) (one:Bool) (it:MI) (b:MS):MS:=fun ρ=>(it ρ).bind fun p=>(forL is one b p.1 (lock p.2.2 p.2.1)).map (HK p.2.2 p.2.1)
noncomputable def BW (c:MT) (b:MS):Nat→Ro→Option Fl
 | 0,_=>none
 | n + 1,ρ=>(c ρ).bind fun p=>if p.1 then (b p.2).bind fun f=>match f with
   | .next ρ2=>BW c b n ρ2
   | .cnt ρ2=>BW c b n ρ2
   | .brk ρ2=>some (.next ρ2)
   | f=>some f
  else some (.next p.2)
noncomputable def F9 (w:Nat) (c:MT) (b:MS):MS:=BW c b w
noncomputable def Jl:Slot→A
 | some (_,a)=>a
 | none=>.fz .non
noncomputable def fnM (np nn:Nat) (b:MS):Fn:=fun args=>if args.length = np then (b (args.map some ++ List.replicate (nn - np) none)).bind fun f=>match f with
  | .next ρ=>some (.fz .non,(ρ.take np).map Jl)
  | .ret a ρ=>some (a,(ρ.take np).map Jl)
  | _=>none
 else none
noncomputable def imm:HO→Bool
 | .tup _=>true
 | .frz _ _=>true
 | _=>false
noncomputable def Kept (L:Addr→Prop) (H H':Hp):Prop:=∀ b o,H b = some o→(¬ L b∨imm o = true)→H' b = some o
theorem Kept.refl {L:Addr→Prop} {H:Hp}:Kept L H H:=fun _ _ h _=>h
theorem Kept.trans {L L':Addr→Prop} {H H1 H2:Hp} (x:Kept L H H1) (y:Kept L' H1 H2) (h:∀ p,L' p→L p∨H p = none):Kept L H H2:=fun b o e c =>
 y b o (x b o e c) (c.imp (fun n z=>(h b z).elim n fun q=>by rw [e] at q; cases q) id)
theorem Kept.mono {L L':Addr→Prop} {H H':Hp} (x:Kept L H H') (h:∀ p,L p→L' p):Kept L' H H':=fun b o e c=>x b o e (c.imp (fun n z=>n (h b z)) id)
theorem EG.kept {L:Addr→Prop} {H H':Hp} (s:EG H H'):Kept L H H':=fun b o e _=>s b o e
noncomputable def WK (K:Frag) (H:Hp) (a:Addr) (xs:List V):Prop:=∀ H',(∀ o u,H a = some (.frz o u)→H' a = some (.frz o u))→SqL K H' a xs
mutual
noncomputable def Aq (K:Frag) (N:Addr→Prop) (H:Hp) (v:V):A→List Addr→Prop
 | .fz d,L=>L = []∧RepA N H v d
 | .lst as,L=>∃ a vs L',v = .ref a∧L = a :: L'∧H a = some (.lst vs)∧vs.length≤sizeLine∧Ao K N H vs as L'
 | .tup as,L=>∃ a vs,v = .ref a∧H a = some (.tup vs)∧vs.length≤sizeLine∧Ao K N H vs as L
 | .scr ns,L=>∃ a,v = .ref a∧L = []∧WK K H a (ns.map V.int)∧ns.length≤sizeLine
 | .dic kvs,L=>∃ a us,v = .ref a∧L = [a]∧H a = some (.dK us)∧us.length≤sizeLine∧Paired (fun (u:Key × V) (k:Key × D)=>u.1 = k.1∧RepA N H u.2 k.2) us kvs
noncomputable def Ao (K:Frag) (N:Addr→Prop) (H:Hp):List V→List A→List Addr→Prop
 | [],[],L=>L = []
 | v :: vs,a :: as,L=>∃ L1 L2,L = L1 ++ L2∧Aq K N H v a L1∧Ao K N H vs as L2
 | [],_ :: _,_=>False
 | _ :: _,[],_=>False
end
theorem _root_.L2.RepA.tr {N N' M:Addr→Prop} {H H':Hp} (hM:∀ p,M p→N p) (k:Kept M H H') (hN:∀ p,N' p→N p∨H p = none) {v:V} {d:D} (r:RepA N H v d):RepA N' H' v d:=by
 induction r with
 | non=>exact .non
 | bl b=>exact .bl b
 | int i=>exact .int i
 | str x hx=>exact .str x hx
 | lst h hz hn hl _ ih =>
  refine .lst (k _ _ h (.inl fun z=>hn (hM _ z))) hz (fun z=>?_) hl ih
  rcases hN _ z with q | q
  ·exact hn q
  ·rw [h] at q; cases q
 | tup h hz hl _ ih=>exact .tup (k _ _ h (.inr rfl)) hz hl ih
theorem Paired.mapQ {α β:Type} {F G:α → β → Prop}:∀ {l₁:List α} {l₂:List β},Paired F l₁ l₂ → (∀ a b,F a b→G a b)→Paired G l₁ l₂
 | _,_,.nil,_=>.nil
 | _,_,.cons r t,f=>.cons (f _ _ r) (Paired.mapQ t f)
section
variable {K:Frag} {N N' M:Addr→Prop} {H H':Hp}
mutual
theorem Aq.tr (hM:∀ p,M p→N p) (k:Kept M H H') (hN:∀ p,N' p→N p∨H p = none):∀ {a:A} {v:V} {L:List Addr},(∀ p∈L,¬ M p)→Aq K N H v a L→Aq K N' H' v a L
 | .fz d,v,L,hL,r=>by
  simp only [Aq] at r ⊢
  exact ⟨r.1,r.2.tr hM k hN⟩
 | .lst as,v,L,hL,r=>by
  simp only [Aq] at r ⊢
  obtain ⟨a,vs,L',rfl,rfl,h,hz,hs⟩:=r
  exact ⟨a,vs,L',rfl,rfl,k _ _ h (.inl (hL a (by simp))),hz,Ao.tr hM k hN (fun p hp=>hL p (by simp [hp])) hs⟩
 | .tup as,v,L,hL,r=>by
  simp only [Aq] at r ⊢
  obtain ⟨a,vs,rfl,h,hz,hs⟩:=r
  exact ⟨a,vs,rfl,k _ _ h (.inr rfl),hz,Ao.tr hM k hN hL hs⟩
 | .scr ns,v,L,hL,r=>by
  simp only [Aq] at r ⊢
  obtain ⟨a,rfl,rfl,h,hz⟩:=r
  exact ⟨a,rfl,rfl,fun H2 q=>h H2 fun o u e=>q o u (k _ _ e (.inr rfl)),hz⟩
 | .dic kvs,v,L,hL,r=>by
  simp only [Aq] at r ⊢
  obtain ⟨a,us,rfl,rfl,h,hz,hs⟩:=r
  exact ⟨a,us,rfl,rfl,k _ _ h (.inl (hL a (by simp))),hz,Paired.mapQ hs fun _ _ q=>⟨q.1,q.2.tr hM k hN⟩⟩
theorem Ao.tr (hM:∀ p,M p→N p) (k:Kept M H H') (hN:∀ p,N' p→N p∨H p = none):∀ {as:List A} {vs:List V} {L:List Addr},(∀ p∈L,¬ M p)→Ao K N H vs as L→Ao K N' H' vs as L
 | [],vs,L,hL,r=>by
  cases vs <;> simp only [Ao] at r ⊢
  exact r
 | a :: as,vs,L,hL,r=>by
  cases vs with
  | nil=>simp only [Ao] at r
  | cons v vs =>
   simp only [Ao] at r ⊢
   obtain ⟨L1,L2,rfl,h1,h2⟩:=r
   exact ⟨L1,L2,rfl,Aq.tr hM k hN (fun p hp=>hL p (by simp [hp])) h1,Ao.tr hM k hN (fun p hp=>hL p (by simp [hp])) h2⟩
end
end
noncomputable def ad (O:Addr→Prop) (L:List Addr):Addr→Prop:=fun p=>O p∨p∈L
noncomputable def NN (fp:Nat→List Addr) (O:Addr→Prop):Addr→Prop:=fun p=>(∃ i,p∈fp i)∨O p
noncomputable def Fp (fp:Nat→List Addr):Addr→Prop:=fun p=>∃ i,p∈fp i
structure Rel (K:Frag) (ρ:Ro) (σ:St) (H:Hp) (O:Addr→Prop) (fp:Nat→List Addr):Prop where
 len : ρ.length = σ.length
 slot:∀ i st a,ρ[i]? = some (some (st,a))→∃ v,σ[i]? = some (some v)∧Aq K (NN fp O) H v a (fp i)
 out:∀ i,(∀ st a,ρ[i]? ≠ some (some (st,a)))→fp i = []
 nd:∀ i,(fp i).Nodup
 inj:∀ i j p,p∈fp i→p∈fp j→i = j
 off:∀ i p,p∈fp i→¬ O p
 al:∀ p,NN fp O p→H p≠none
noncomputable def Mh (ρ ρ':Ro) (σ σ':St):Prop:=∀ (j:Nat) st a,ρ[j]? = some (some (st,a))→st ≠ .own→∃ a',ρ'[j]? = some (some (st,a')) ∧ σ'[j]? = σ[j]? ∧ (st = .ro→a' = a)
theorem Mh.refl {ρ:Ro} {σ:St}:Mh ρ ρ σ σ:=fun _ _ a h _=>⟨a,h,rfl,fun _=>rfl⟩
theorem Mh.trans {ρ ρ1 ρ2:Ro} {σ σ1 σ2:St} (x:Mh ρ ρ1 σ σ1) (y:Mh ρ1 ρ2 σ1 σ2):Mh ρ ρ2 σ σ2:=fun j st a h n=>by
 obtain ⟨a1,h1,e1,f1⟩:=x j st a h n
 obtain ⟨a2,h2,e2,f2⟩:=y j st a1 h1 n
 exact ⟨a2,h2,e2.trans e1,fun z=>(f2 z).trans (f1 z)⟩
noncomputable def RR (K:Frag) (N:Addr→Prop) (H:Hp) (σ:St) (v:V):R→List Addr→Prop
 | .val a,L=>Aq K N H v a L
 | .ref i,L=>L = [] ∧ σ[i]? = some (some v)
noncomputable def RRs (K:Frag) (N:Addr→Prop) (H:Hp) (σ:St):List V→List R→List Addr→Prop
 | [],[],L=>L = []
 | v :: vs,r :: rs,L=>∃ L1 L2,L = L1 ++ L2∧RR K N H σ v r L1∧RRs K N H σ vs rs L2
 | [],_ :: _,_=>False
 | _ :: _,[],_=>False
structure Post (K:Frag) (O:Addr→Prop) (fp:Nat→List Addr) (H:Hp) (ρ ρ':Ro) (σ σ':St) (L:List Addr) (fp':Nat→List Addr) (H':Hp):Prop where
 rel:Rel K ρ' σ' H' (ad O L) fp'
 nd:L.Nodup
 lo:∀ p∈L,¬ O p
 new:∀ p,(p∈L∨Fp fp' p)→Fp fp p∨H p = none
 kept:Kept (Fp fp) H H'
 ln : σ'.length = σ.length
 stab:Mh ρ ρ' σ σ'
noncomputable def Jp (K:Frag) (O:Addr→Prop) (fp:Nat→List Addr) (H:Hp) (ρ ρ':Ro) (σ:St) (r:R) (v:V) (H':Hp):Prop:=
 ∃ L fp',Post K O fp H ρ ρ' σ σ L fp' H'∧RR K (NN fp' (ad O L)) H' σ v r L
noncomputable def WJ (K:Frag) (O:Addr→Prop) (fp:Nat→List Addr) (H:Hp) (ρ ρ':Ro) (σ:St) (rs:List R) (vs:List V) (H':Hp):Prop:=
 ∃ L fp',Post K O fp H ρ ρ' σ σ L fp' H'∧RRs K (NN fp' (ad O L)) H' σ vs rs L
noncomputable def tE (K:Frag) (m:ME):TE:=fun σ H Q=>∃ ρ O fp,Rel K ρ σ H O fp∧∃ r ρ',m ρ = some (r,ρ')∧∀ v H',Jp K O fp H ρ ρ' σ r v H'→Q v H'
noncomputable def tT (K:Frag) (m:MT):TT:=fun σ H Q=>∃ ρ O fp,Rel K ρ σ H O fp∧∃ b ρ',m ρ = some (b,ρ')∧∀ fp' H',Post K O fp H ρ ρ' σ σ [] fp' H'→Q b H'
noncomputable def tA (K:Frag) (m:MA):TA:=fun σ H Q=>∃ ρ O fp,Rel K ρ σ H O fp∧∃ rs ρ',m ρ = some (rs,ρ')∧∀ vs H',WJ K O fp H ρ ρ' σ rs vs H'→Q vs H'
section
variable {K:Frag} {ρ ρ' ρ1 ρ2:Ro} {σ σ' σ1 σ2:St} {H H' H1 H2:Hp} {O O':Addr→Prop} {fp fp' fp1 fp2:Nat→List Addr} {L L1 L2:List Addr}
theorem HN {p:Addr}:ad O [] p↔O p:=by simp [ad]
theorem JY {p:Addr}:ad (ad O L1) L2 p↔ad O (L1 ++ L2) p:=by simp [ad,or_assoc]
theorem Rel.congr (r:Rel K ρ σ H O fp) (h:∀ p,O p↔O' p):Rel K ρ σ H O' fp:=by
 have e:O = O':=funext fun p=>propext (h p)
 exact e ▸ r
theorem Rel.weak (r:Rel K ρ σ H O fp) (h:∀ p,O' p→O p):Rel K ρ σ H O' fp where
 len:=r.len
 slot:=fun i st a e=>by
  obtain ⟨v,e1,q⟩:=r.slot i st a e
  exact ⟨v,e1,q.tr (M:=fun _=>False) (fun _ z=>z.elim) .refl (fun p z=>.inl (z.imp id (h p))) fun _ _ z=>z⟩
 out:=r.out
 nd:=r.nd
 inj:=r.inj
 off:=fun i p hp z=>r.off i p hp (h p z)
 al:=fun p z=>r.al p (z.imp id (h p))
theorem Rel.grow (r:Rel K ρ σ H O fp) (s:EG H H') (hO:∀ p,O' p→O p∨H p = none) (al:∀ p,O' p→H' p≠none):Rel K ρ σ H' O' fp where
 len:=r.len
 slot:=fun i st a e=>by
  obtain ⟨v,e1,q⟩:=r.slot i st a e
  refine ⟨v,e1,q.tr (M:=fun _=>False) (fun _ z=>z.elim) (fun b o e _=>s b o e) (fun p z=>?_) fun _ _ z=>z⟩
  rcases z with z | z
  ·exact .inl (.inl z)
  ·exact (hO p z).imp .inr id
 out:=r.out
 nd:=r.nd
 inj:=r.inj
 off:=fun i p hp z=>by
  rcases hO p z with q | q
  ·exact r.off i p hp q
  ·exact r.al p (.inl ⟨i,hp⟩) q
 al:=fun p z=>by
  rcases z with z | z
  ·cases q:H p with
   | none=>exact absurd q (r.al p (.inl z))
   | some o=>rw [s p o q]; simp
  ·exact al p z
theorem Rel.post (r:Rel K ρ σ H O fp):Post K O fp H ρ ρ σ σ [] fp H:=
 ⟨r.congr fun p=>HN.symm,nodup_nil,fun _ h=>by simp at h,fun p h=>by rcases h with h | h; simp at h; exact .inl h,.refl,rfl,.refl⟩
theorem Post.then (x:Post K O fp H ρ ρ1 σ σ1 L1 fp1 H1) (y:Post K (ad O L1) fp1 H1 ρ1 ρ2 σ1 σ2 L2 fp2 H2):Post K O fp H ρ ρ2 σ σ2 (L1 ++ L2) fp2 H2 where
 rel:=y.rel.congr fun p=>JY
 nd:=nodup_append.mpr ⟨x.nd,y.nd,fun a ha b hb e=>by subst e; exact y.lo a hb (.inr ha)⟩
 lo:=fun p hp z=>by
  rcases mem_append.mp hp with q | q
  ·exact x.lo p q z
  ·exact y.lo p q (.inl z)
 new:=fun p hp=>by
  have key:Fp fp1 p∨H1 p = none→Fp fp p∨H p = none:=fun q=>by
   rcases q with q | q
   ·exact x.new p (.inr q)
   ·cases e:H p with
    | none=>exact .inr rfl
    | some o =>
     by_cases hf:Fp fp p
     ·exact .inl hf
     ·rw [x.kept p o e (.inl hf)] at q; cases q
  rcases hp with q | q
  ·rcases mem_append.mp q with q | q
   ·exact x.new p (.inl q)
   ·exact key (y.new p (.inl q))
  ·exact key (y.new p (.inr q))
 kept:=x.kept.trans y.kept fun p z=>x.new p (.inr z)
 ln:=y.ln.trans x.ln
 stab:=x.stab.trans y.stab
theorem Post.drop (x:Post K O fp H ρ ρ1 σ σ1 (L1 ++ L2) fp1 H1):Post K O fp H ρ ρ1 σ σ1 L2 fp1 H1 where
 rel:=x.rel.weak fun p z=>z.imp id fun q=>mem_append_right _ q
 nd:=(nodup_append.mp x.nd).2.1
 lo:=fun p hp=>x.lo p (mem_append_right _ hp)
 new:=fun p hp=>x.new p (hp.imp (mem_append_right _) id)
 kept:=x.kept
 ln:=x.ln
 stab:=x.stab
theorem Post.drop0 (x:Post K O fp H ρ ρ1 σ σ1 L1 fp1 H1):Post K O fp H ρ ρ1 σ σ1 [] fp1 H1:=Post.drop (L1:=L1) (L2:=[]) (by rw [append_nil]; exact x)
theorem Post.rr {v:V} {r:R} (y:Post K (ad O L1) fp1 H1 ρ1 ρ2 σ σ L2 fp2 H2) (hr:Rel K ρ1 σ H1 (ad O L1) fp1) (h:RR K (NN fp1 (ad O L1)) H1 σ v r L) (hL:∀ p∈L,p∈L1):RR K (NN fp2 (ad O (L1 ++ L2))) H2 σ v r L:=by
 cases r with
 | ref i=>exact h
 | val a =>
  refine Aq.tr (M:=Fp fp1) (fun p z=>.inl z) y.kept (fun p z=>?_) (fun p hp z=>?_) h
  ·rcases z with z | z
   ·exact (y.new p (.inr z)).imp (fun q=>.inl q) id
   ·rcases z with z | z
    ·exact .inl (.inr (.inl z))
    ·rcases mem_append.mp z with z | z
     ·exact .inl (.inr (.inr z))
     ·exact (y.new p (.inl z)).imp (fun q=>.inl q) id
  ·obtain ⟨i,hi⟩:=z
   exact hr.off i p hi (.inr (hL p hp))
theorem tE.mono {m:ME} {Q Q':VK} (h:tE K m σ H Q) (q:∀ v H',Q v H'→Q' v H'):tE K m σ H Q':=by
 obtain ⟨ρ,O,fp,r,x,ρ',e,k⟩:=h
 exact ⟨ρ,O,fp,r,x,ρ',e,fun v H' z=>q v H' (k v H' z)⟩
theorem Hb {Q:List V→Hp→Prop} (h:tA K Ad σ H Q):F7 σ H Q:=by
 obtain ⟨ρ,O,fp,r,x,ρ',e,k⟩:=h
 cases e
 exact k [] H ⟨[],fp,r.post,rfl⟩
theorem DG {m:ME} {ms:MA} {Q:List V→Hp→Prop} (h:tA K (Aa m ms) σ H Q):Cc (tE K m) (tA K ms) σ H Q:=by
 obtain ⟨ρ,O,fp,r,x,ρ',e,k⟩:=h
 simp only [Aa,bind_eq_some_iff,map_eq_some_iff] at e
 obtain ⟨⟨r1,ρ1⟩,e1,⟨rs,ρ2⟩,e2,e3⟩:=e
 cases e3
 refine ⟨ρ,O,fp,r,r1,ρ1,e1,fun v H1 yy=>?_⟩
 obtain ⟨L1,fp1,p1,q1⟩:=yy
 refine ⟨ρ1,ad O L1,fp1,p1.rel,rs,_,e2,fun vs H2 yy=>?_⟩
 obtain ⟨L2,fp2,p2,q2⟩:=yy
 refine k (v :: vs) H2 ⟨L1 ++ L2,fp2,p1.then p2,L1,L2,rfl,p2.rr p1.rel q1 fun _ z=>z,?_⟩
 have e:ad (ad O L1) L2 = ad O (L1 ++ L2):=funext fun p=>propext JY
 rw [← e]
 exact q2
end
section
variable {K:Frag} {N N' M:Addr→Prop} {H H':Hp}
mutual
theorem Aq.al:∀ {a:A} {v:V} {L:List Addr},Aq K N H v a L→∀ p∈L,H p≠none
 | .fz d,v,L,r,p,hp=>by
  simp only [Aq] at r
  rw [r.1] at hp; simp at hp
 | .lst as,v,L,r,p,hp=>by
  simp only [Aq] at r
  obtain ⟨a,vs,L',rfl,rfl,h,hz,hs⟩:=r
  rcases mem_cons.mp hp with rfl | hp
  ·rw [h]; simp
  ·exact Ao.al hs p hp
 | .tup as,v,L,r,p,hp=>by
  simp only [Aq] at r
  obtain ⟨a,vs,rfl,h,hz,hs⟩:=r
  exact Ao.al hs p hp
 | .scr ns,v,L,r,p,hp=>by
  simp only [Aq] at r
  obtain ⟨a,rfl,rfl,h,hz⟩:=r
  simp at hp
 | .dic kvs,v,L,r,p,hp=>by
  simp only [Aq] at r
  obtain ⟨a,us,rfl,rfl,h,hz,hs⟩:=r
  have:p = a:=by simpa using hp
  subst this; rw [h]; simp
theorem Ao.al:∀ {as:List A} {vs:List V} {L:List Addr},Ao K N H vs as L→∀ p∈L,H p≠none
 | [],vs,L,r,p,hp=>by
  cases vs <;> simp only [Ao] at r
  rw [r] at hp; simp at hp
 | a :: as,vs,L,r,p,hp=>by
  cases vs with
  | nil=>simp only [Ao] at r
  | cons v vs =>
   simp only [Ao] at r
   obtain ⟨L1,L2,rfl,h1,h2⟩:=r
   rcases mem_append.mp hp with hp | hp
   ·exact Aq.al h1 p hp
   ·exact Ao.al h2 p hp
end
theorem Ao.len:∀ {as:List A} {vs:List V} {L:List Addr},Ao K N H vs as L→vs.length = as.length
 | [],[],_,_=>rfl
 | [],_ :: _,_,r=>by simp only [Ao] at r
 | _ :: _,[],_,r=>by simp only [Ao] at r
 | a :: as,v :: vs,L,r=>by
  simp only [Ao] at r
  obtain ⟨L1,L2,rfl,h1,h2⟩:=r
  simp [Ao.len h2]
noncomputable def As (N:Addr→Prop) (H:Hp):List V→List D→Prop
 | [],[]=>True
 | v :: vs,d :: ds=>RepA N H v d∧As N H vs ds
 | _,_=>False
theorem As.len:∀ {vs:List V} {ds:List D},As N H vs ds→vs.length = ds.length
 | [],[],_=>rfl
 | [],_ :: _,r=>by simp only [As] at r
 | _ :: _,[],r=>by simp only [As] at r
 | v :: vs,d :: ds,r=>by simp [As.len r.2]
theorem As.get:∀ {vs:List V} {ds:List D},As N H vs ds→∀ (i:Nat) v d,vs[i]? = some v→ds[i]? = some d→RepA N H v d
 | [],[],_,i,v,d,h,_=>by simp at h
 | [],_ :: _,r,_,_,_,_,_=>by simp only [As] at r
 | _ :: _,[],r,_,_,_,_,_=>by simp only [As] at r
 | x :: vs,y :: ds,r,0,v,d,h1,h2=>by simp at h1 h2; subst h1; subst h2; exact r.1
 | x :: vs,y :: ds,r,i + 1,v,d,h1,h2=>As.get r.2 i v d (by simpa using h1) (by simpa using h2)
theorem As.mk:∀ {vs:List V} {ds:List D},vs.length = ds.length→(∀ (i:Nat) v d,vs[i]? = some v→ds[i]? = some d→RepA N H v d)→As N H vs ds
 | [],[],_,_=>trivial
 | [],_ :: _,hl,_=>by simp at hl
 | _ :: _,[],hl,_=>by simp at hl
 | v :: vs,d :: ds,hl,h=>⟨h 0 v d rfl rfl,As.mk (by simpa using hl) fun i v d e1 e2=>h (i + 1) v d (by simpa using e1) (by simpa using e2)⟩
theorem SS {a:Addr} {vs:List V} {ds:List D} (h:H a = some (.lst vs)) (hz:vs.length≤sizeLine) (hn:¬ N a) (r:As N H vs ds):RepA N H (.ref a) (.lst ds):=.lst h hz hn r.len r.get
theorem QH {a:Addr} {vs:List V} {ds:List D} (h:H a = some (.tup vs)) (hz:vs.length≤sizeLine) (r:As N H vs ds):RepA N H (.ref a) (.tup ds):=.tup h hz r.len r.get
theorem As.tr (hM:∀ p,M p→N p) (k:Kept M H H') (hN:∀ p,N' p→N p∨H p = none):∀ {vs:List V} {ds:List D},As N H vs ds→As N' H' vs ds
 | [],[],_=>trivial
 | [],_ :: _,r=>by simp only [As] at r
 | _ :: _,[],r=>by simp only [As] at r
 | v :: vs,d :: ds,r=>⟨r.1.tr hM k hN,As.tr hM k hN r.2⟩
theorem Ft (h:∀ p,N' p→N p) {v:V} {d:D} (r:RepA N H v d):RepA N' H v d:=r.tr (M:=fun _=>False) (fun _ z=>z.elim) .refl fun p z=>.inl (h p z)
theorem Jb (h:∀ p,N' p→N p) {vs:List V} {ds:List D} (r:As N H vs ds):As N' H vs ds:=r.tr (M:=fun _=>False) (fun _ z=>z.elim) .refl fun p z=>.inl (h p z)
theorem Dq (h:∀ p,N' p→N p) {v:V} {a:A} {L:List Addr} (r:Aq K N H v a L):Aq K N' H v a L:=r.tr (M:=fun _=>False) (fun _ z=>z.elim) .refl (fun p z=>.inl (h p z)) fun _ _ z=>z
theorem WC (h:∀ p,N' p→N p) {vs:List V} {as:List A} {L:List Addr} (r:Ao K N H vs as L):Ao K N' H vs as L:=r.tr (M:=fun _=>False) (fun _ z=>z.elim) .refl (fun p z=>.inl (h p z)) fun _ _ z=>z
mutual
theorem Aq.er:∀ {a:A} {v:V} {L:List Addr} {d:D},Aq K N H v a L→J.er a = some d→RepA (fun p=>N p∧p ∉ L) H v d
 | .fz d,v,L,d',r,e=>by
  simp only [Aq] at r
  simp only [J.er,Option.some.injEq] at e
  subst e
  exact Ft (fun p z=>z.1) r.2
 | .lst as,v,L,d',r,e=>by
  simp only [Aq] at r
  simp only [J.er,map_eq_some_iff] at e
  obtain ⟨a,vs,L',rfl,rfl,h,hz,hs⟩:=r
  obtain ⟨ds,e,rfl⟩:=e
  exact SS h hz (fun z=>z.2 (by simp)) (Jb (fun p z=>⟨z.1,fun q=>z.2 (by simp [q])⟩) (Ao.er hs e))
 | .tup as,v,L,d',r,e=>by
  simp only [Aq] at r
  simp only [J.er,map_eq_some_iff] at e
  obtain ⟨a,vs,rfl,h,hz,hs⟩:=r
  obtain ⟨ds,e,rfl⟩:=e
  exact QH h hz (Ao.er hs e)
 | .scr ns,v,L,d',r,e=>by simp [J.er] at e
 | .dic kvs,v,L,d',r,e=>by simp [J.er] at e
theorem Ao.er:∀ {as:List A} {vs:List V} {L:List Addr} {ds:List D},Ao K N H vs as L→J.ers as = some ds→As (fun p=>N p∧p ∉ L) H vs ds
 | [],vs,L,ds,r,e=>by
  cases vs <;> simp only [Ao] at r
  simp only [J.ers,Option.some.injEq] at e
  subst e
  trivial
 | a :: as,vs,L,ds,r,e=>by
  cases vs with
  | nil=>simp only [Ao] at r
  | cons v vs =>
   simp only [Ao] at r
   simp only [J.ers,bind_eq_some_iff,map_eq_some_iff] at e
   obtain ⟨L1,L2,rfl,h1,h2⟩:=r
   obtain ⟨d,e1,ds',e2,rfl⟩:=e
   exact ⟨Ft (fun p z=>⟨z.1,fun q=>z.2 (by simp [q])⟩) (Aq.er h1 e1),Jb (fun p z=>⟨z.1,fun q=>z.2 (by simp [q])⟩) (Ao.er h2 e2)⟩
end
theorem Ao.fzs:∀ {as:List A} {vs:List V} {L:List Addr} {ds:List D},Ao K N H vs as L→J.fzs as = some ds→L = []∧As N H vs ds
 | [],vs,L,ds,r,e=>by
  cases vs <;> simp only [Ao] at r
  simp only [J.fzs,Option.some.injEq] at e
  subst e
  exact ⟨r,trivial⟩
 | a :: as,vs,L,ds,r,e=>by
  cases vs with
  | nil=>simp only [Ao] at r
  | cons v vs =>
   simp only [Ao] at r
   obtain ⟨L1,L2,rfl,h1,h2⟩:=r
   cases a with
   | fz d =>
    simp only [J.fzs,map_eq_some_iff] at e
    obtain ⟨ds',e,rfl⟩:=e
    simp only [Aq] at h1
    obtain ⟨e1,q⟩:=Ao.fzs h2 e
    exact ⟨by rw [h1.1,e1]; rfl,h1.2,q⟩
   | _=>simp [J.fzs] at e
theorem Et {v:V} {d:D} (r:RepA N H v d):Aq K N H v (.fz d) []:=by rw [Aq]; exact ⟨rfl,r⟩
theorem Ao.of:∀ {vs:List V} {ds:List D},As N H vs ds→Ao K N H vs (ds.map A.fz) []
 | [],[],_=>by simp [Ao]
 | [],_ :: _,r=>by simp only [As] at r
 | _ :: _,[],r=>by simp only [As] at r
 | v :: vs,d :: ds,r=>by
  simp only [map_cons,Ao]
  exact ⟨[],[],rfl,Et r.1,Ao.of r.2⟩
end
section
variable {K:Frag} {ρ ρ' ρ1 ρ2:Ro} {σ σ' σ1 σ2:St} {H H' H1 H2:Hp} {O O':Addr→Prop} {fp fp' fp1 fp2:Nat→List Addr} {L L1 L2:List Addr}
noncomputable def pt (fp:Nat→List Addr) (i:Nat) (L:List Addr):Nat→List Addr:=fun j=>if j = i then L else fp j
theorem D6 {i:Nat}:pt fp i L i = L:=by simp [pt]
theorem Fq {i j:Nat} (h:j≠i):pt fp i L j = fp j:=by simp [pt,h]
theorem Bl {i j:Nat} {p:Addr} (h:p∈pt fp i L j):(j = i∧p∈L)∨(j≠i∧p∈fp j):=by
 by_cases e:j = i
 ·subst e; rw [D6] at h; exact .inl ⟨rfl,h⟩
 ·rw [Fq e] at h; exact .inr ⟨e,h⟩
theorem Rel.set (r:Rel K ρ σ H O fp) {i:Nat} {s:Slot} {o:Option V} (hi:i < ρ.length) (hO:∀ p,O' p→NN fp O p) (hL:∀ p∈L,NN fp O p) (nd:L.Nodup) (hd:∀ p∈L,∀ j,j≠i→p ∉ fp j) (ho:∀ p∈L,¬ O' p) (hoo:∀ j p,j≠i→p∈fp j→¬ O' p)
  (hs:∀ st a,s = some (st,a)→∃ v,o = some v∧Aq K (NN (pt fp i L) O') H v a L) (hn:s = none→L = []):Rel K (ρ.set i s) (σ.set i o) H O' (pt fp i L) where
 len:=by simp [r.len]
 slot:=fun j st a e=>by
  by_cases hj:j = i
  ·subst hj
   rw [getElem?_set_self hi] at e
   obtain ⟨v,e1,q⟩:=hs st a (Option.some.inj e)
   refine ⟨v,?_,by rw [D6]; exact q⟩
   rw [getElem?_set_self (by rw [← r.len]; exact hi),e1]
  ·rw [getElem?_set_ne (Ne.symm hj)] at e
   obtain ⟨v,e1,q⟩:=r.slot j st a e
   refine ⟨v,by rw [getElem?_set_ne (Ne.symm hj)]; exact e1,?_⟩
   rw [Fq hj]
   refine Dq (fun p z=>?_) q
   rcases z with ⟨k,z⟩ | z
   ·rcases Bl z with ⟨_,z⟩ | ⟨_,z⟩
    ·exact hL p z
    ·exact .inl ⟨k,z⟩
   ·exact hO p z
 out:=fun j h=>by
  by_cases hj:j = i
  ·subst hj
   rw [D6]
   cases s with
   | none=>exact hn rfl
   | some x=>exact absurd (getElem?_set_self hi) (h x.1 x.2)
  ·rw [Fq hj]
   exact r.out j fun st a e=>h st a (by rw [getElem?_set_ne (Ne.symm hj)]; exact e)
 nd:=fun j=>by
  by_cases hj:j = i
  ·subst hj; rw [D6]; exact nd
  ·rw [Fq hj]; exact r.nd j
 inj:=fun j k p h1 h2=>by
  rcases Bl h1 with ⟨e1,z1⟩ | ⟨e1,z1⟩
  ·rcases Bl h2 with ⟨e2,z2⟩ | ⟨e2,z2⟩
   ·rw [e1,e2]
   ·exact absurd z2 (hd p z1 k e2)
  ·rcases Bl h2 with ⟨e2,z2⟩ | ⟨e2,z2⟩
   ·exact absurd z1 (hd p z2 j e1)
   ·exact r.inj j k p z1 z2
 off:=fun j p h z=>by
  rcases Bl h with ⟨e1,z1⟩ | ⟨e1,z1⟩
  ·exact ho p z1 z
  ·exact hoo j p e1 z1 z
 al:=fun p z=>by
  rcases z with ⟨j,z⟩ | z
  ·rcases Bl z with ⟨_,z⟩ | ⟨_,z⟩
   ·exact r.al p (hL p z)
   ·exact r.al p (.inl ⟨j,z⟩)
  ·exact r.al p (hO p z)
theorem IP {i:Nat} {v:V} (h : σ[i]? = some (some v)) : σ.set i (some v) = σ:=by
 apply List.ext_getElem?
 intro j
 by_cases e:j = i
 ·subst e
  have:=(List.getElem?_eq_some_iff.mp h).1
  rw [getElem?_set_self this,h]
 ·rw [getElem?_set_ne (Ne.symm e)]
theorem Aw {α:Type} {l:List α} {i:Nat} {x:α} (h:l[i]? = some x):i < l.length:=(List.getElem?_eq_some_iff.mp h).1
theorem FU {p:Addr}:NN fp (ad O []) p↔NN fp O p:=by simp [NN,ad]
theorem DW {v:V} {r:R} {d:D} (x:Post K O fp H ρ ρ1 σ σ L fp1 H1) (q:RR K (NN fp1 (ad O L)) H1 σ v r L) (e:share ρ1 r = some (d,ρ2)) :
  ∃ fp2,Post K O fp H ρ ρ2 σ σ [] fp2 H1∧RepA (NN fp2 (ad O [])) H1 v d:=by
 cases r with
 | val a =>
  simp only [share,map_eq_some_iff] at e
  obtain ⟨d',e,e'⟩:=e
  cases e'
  refine ⟨fp1,x.drop0,Ft (fun p z=>?_) (Aq.er q e)⟩
  have z':=FU.mp z
  refine ⟨z'.imp id .inl,fun hp=>?_⟩
  rcases z' with ⟨i,z⟩ | z
  ·exact x.rel.off i p z (.inr hp)
  ·exact x.lo p hp z
 | ref i =>
  obtain ⟨rfl,hv⟩:=q
  simp only [share] at e
  split at e
  ·rename_i a ha
   simp only [map_eq_some_iff] at e
   obtain ⟨d',e,e'⟩:=e
   cases e'
   obtain ⟨v',hv',q⟩:=x.rel.slot i _ _ ha
   rw [hv] at hv'; cases hv'
   have q2:RepA (NN (pt fp1 i []) (ad O [])) H1 v d:=Ft (fun p z=>by
    rcases z with ⟨j,z⟩ | z
    ·rcases Bl z with ⟨_,z⟩ | ⟨hj,z⟩
     ·simp at z
     ·exact ⟨.inl ⟨j,z⟩,fun hp=>hj (x.rel.inj j i p z hp)⟩
    ·exact ⟨.inr z,fun hp=>x.rel.off i p hp z⟩) (Aq.er q e)
   have R:=x.rel.set (i:=i) (s:=some (.own,.fz d)) (o:=some v) (L:=[]) (O':=ad O []) (Aw ha) (fun p z=>.inr z) (fun p hp=>by simp at hp) nodup_nil (fun p hp=>by simp at hp) (fun p hp=>by simp at hp)
    (fun j p _ h=>x.rel.off j p h) (fun st a e=>by cases e; exact ⟨v,rfl,Et q2⟩) (fun e=>by cases e)
   rw [IP hv] at R
   refine ⟨pt fp1 i [],⟨R,nodup_nil,fun p hp=>by simp at hp,fun p hp=>?_,x.kept,rfl,fun j st a' h n=>?_⟩,q2⟩
   ·rcases hp with hp | ⟨j,hp⟩
    ·simp at hp
    ·rcases Bl hp with ⟨_,z⟩ | ⟨_,z⟩
     ·simp at z
     ·exact x.new p (.inr ⟨j,z⟩)
   ·obtain ⟨a2,h2,_,f2⟩:=x.stab j st a' h n
    refine ⟨a2,?_,rfl,f2⟩
    rw [getElem?_set_ne]
    ·exact h2
    ·rintro rfl
     rw [ha] at h2; cases h2; exact n rfl
  ·cases e
theorem OE {v:V} {r:R} {a:A} (x:Post K O fp H ρ ρ1 σ σ L fp1 H1) (q:RR K (NN fp1 (ad O L)) H1 σ v r L) (e:move ρ1 r = some (a,ρ2)) :
  ∃ L2 fp2,Post K O fp H ρ ρ2 σ σ L2 fp2 H1∧Aq K (NN fp2 (ad O L2)) H1 v a L2:=by
 cases r with
 | val a =>
  simp only [move,Option.some.injEq] at e
  cases e
  exact ⟨L,fp1,x,q⟩
 | ref i =>
  obtain ⟨rfl,hv⟩:=q
  simp only [move] at e
  split at e
  ·rename_i a' ha
   cases e
   obtain ⟨v',hv',q⟩:=x.rel.slot i _ _ ha
   rw [hv] at hv'; cases hv'
   have nn:∀ p,NN (pt fp1 i []) (ad O (fp1 i)) p→NN fp1 (ad O []) p:=fun p z=>by
    rcases z with ⟨j,z⟩ | z | z
    ·rcases Bl z with ⟨_,z⟩ | ⟨_,z⟩
     ·simp at z
     ·exact .inl ⟨j,z⟩
    ·exact .inr (.inl z)
    ·exact .inl ⟨i,z⟩
   have R:=x.rel.set (i:=i) (s:=none) (o:=some v) (L:=[]) (O':=ad O (fp1 i)) (Aw ha) (fun p z=>nn p (.inr z)) (fun p hp=>by simp at hp) nodup_nil (fun p hp=>by simp at hp) (fun p hp=>by simp at hp)
    (fun j p hj h z=>by
     rcases z with z | z
     ·exact x.rel.off j p h (.inl z)
     ·exact hj (x.rel.inj j i p h z)) (fun st a e=>by cases e) (fun _=>rfl)
   rw [IP hv] at R
   refine ⟨fp1 i,pt fp1 i [],⟨R,x.rel.nd i,fun p hp z=>x.rel.off i p hp (.inl z),fun p hp=>?_,x.kept,rfl,fun j st a' h n=>?_⟩,Dq nn q⟩
   ·rcases hp with hp | ⟨j,hp⟩
    ·exact x.new p (.inr ⟨i,hp⟩)
    ·rcases Bl hp with ⟨_,z⟩ | ⟨_,z⟩
     ·simp at z
     ·exact x.new p (.inr ⟨j,z⟩)
   ·obtain ⟨a2,h2,_,f2⟩:=x.stab j st a' h n
    refine ⟨a2,?_,rfl,f2⟩
    rw [getElem?_set_ne]
    ·exact h2
    ·rintro rfl
     rw [ha] at h2; cases h2; exact n rfl
  ·cases e
end
section
variable {K:Frag} {ρ ρ' ρ1 ρ2:Ro} {σ σ' σ1 σ2:St} {H H' H1 H2:Hp} {O O' N:Addr→Prop} {fp fp' fp1 fp2:Nat→List Addr} {L L1 L2:List Addr}
theorem MU {v:V} {d:D} (r:RepA N H v d):RR K N H σ v (.val (.fz d)) []:=Et (K:=K) r
noncomputable def K2 (K:Frag) (N:Addr→Prop) (H:Hp) (a:A) (v:V) (H':Hp):Prop:=EG H H'∧∃ L,Aq K (fun p=>N p∨p∈L) H' v a L∧L.Nodup∧∀ p∈L,H p = none
noncomputable abbrev JX (K:Frag) (N:Addr→Prop) (H:Hp):List V→List A→Prop
 | [],[]=>True
 | v :: vs,a :: as=>(∃ L,Aq K N H v a L)∧JX K N H vs as
 | _,_=>False
noncomputable def OpN (K:Frag) (f:List A→Option A) (r:List V→Hp→VK→Prop):Prop:=
 ∀ N H xs as b Q,JX K N H xs as→f as = some b→(∀ v H',K2 K N H b v H'→Q v H')→r xs H Q
theorem Rel.peek {r:R} {v:V} {a:A} (x:Rel K ρ σ H O fp) (q:RR K (NN fp O) H σ v r L) (e:peek ρ r = some a):∃ L,Aq K (NN fp O) H v a L:=by
 cases r with
 | val b =>
  simp only [J.peek,Option.some.injEq] at e
  subst e
  exact ⟨L,q⟩
 | ref i =>
  simp only [J.peek] at e
  split at e
  ·rename_i st b hb
   cases e
   obtain ⟨v',h1,h2⟩:=x.slot i _ _ hb
   rw [q.2] at h1; cases h1
   exact ⟨_,h2⟩
  ·cases e
theorem Rel.peeks (x:Rel K ρ σ H O fp):∀ {rs:List R} {vs:List V} {as:List A} {L:List Addr},RRs K (NN fp O) H σ vs rs L→J.peeks ρ rs = some as→JX K (NN fp O) H vs as
 | [],[],as,L,_,e=>by
  simp only [J.peeks,Option.some.injEq] at e
  subst e
  trivial
 | [],_ :: _,_,_,q,_=>by simp only [RRs] at q
 | _ :: _,[],_,_,q,_=>by simp only [RRs] at q
 | r :: rs,v :: vs,as,L,q,e=>by
  simp only [J.peeks,bind_eq_some_iff,map_eq_some_iff] at e
  obtain ⟨a,e1,as',e2,rfl⟩:=e
  simp only [RRs] at q
  obtain ⟨L1,L2,rfl,q1,q2⟩:=q
  exact ⟨x.peek q1 e1,x.peeks q2 e2⟩
theorem Post.out {a:A} {v:V} (x:Post K O fp H ρ ρ1 σ σ L fp1 H1) (o:K2 K (NN fp1 (ad O L)) H1 a v H2):Jp K O fp H ρ ρ1 σ (.val a) v H2:=by
 obtain ⟨s,L',r,nd,nw⟩:=o
 have al:=r.al
 have alO:∀ p,NN fp1 (ad O L) p→H1 p≠none:=x.rel.al
 refine ⟨L',fp1,⟨x.rel.grow s (fun p z=>z.imp .inl (nw p)) fun p z=>?_,nd,fun p hp z=>alO p (.inr (.inl z)) (nw p hp),fun p hp=>?_,x.kept.trans (EG.kept (L:=fun _=>False) s) fun _ z=>z.elim,x.ln,x.stab⟩,?_⟩
 ·rcases z with z | z
  ·intro q
   have:=alO p (.inr (.inl z))
   cases e:H1 p with
   | none=>exact this e
   | some o=>rw [s p o e] at q; cases q
  ·exact al p z
 ·rcases hp with hp | hp
  ·have e1:=nw p hp
   cases e:H p with
   | none=>exact .inr rfl
   | some o =>
    by_cases hf:Fp fp p
    ·exact .inl hf
    ·rw [x.kept p o e (.inl hf)] at e1; cases e1
  ·exact x.new p (.inr hp)
 ·refine Dq (fun p z=>?_) r
  rcases z with z | z | z
  ·exact .inl (.inl z)
  ·exact .inl (.inr (.inl z))
  ·exact .inr z
theorem JP {f:List A→Option A} {r:List V→Hp→VK→Prop} {m:MA} {Q:VK} (ok:OpN K f r) (h:tE K (opM f m) σ H Q):tA K m σ H fun vs H1=>r vs H1 Q:=by
 obtain ⟨ρ,O,fp,rl,x,ρ',e,k⟩:=h
 simp only [opM,bind_eq_some_iff,map_eq_some_iff] at e
 obtain ⟨⟨rs,ρ1⟩,e1,as,e2,b,e3,e4⟩:=e
 cases e4
 refine ⟨ρ,O,fp,rl,rs,_,e1,fun vs H1 yy=>?_⟩
 obtain ⟨L,fp1,p,q⟩:=yy
 exact ok _ H1 vs as b Q (p.rel.peeks q e2) e3 fun v H' o=>k v H' (p.out o)
theorem KS {i:Nat} {Q:VK} (h:tE K (Ab i) σ H Q):Nc i σ H Q:=by
 obtain ⟨ρ,O,fp,rl,x,ρ',e,k⟩:=h
 simp only [Ab] at e
 split at e
 ·rename_i st d hd
  cases e
  obtain ⟨v,h1,h2⟩:=rl.slot i _ _ hd
  refine ⟨v,h1,k v H ⟨[],fp,rl.post,?_⟩⟩
  rw [Aq] at h2
  exact MU (Ft (fun p z=>FU.mp z) h2.2)
 ·rename_i y hn hy
  cases e
  obtain ⟨st,a⟩:=y
  obtain ⟨v,h1,h2⟩:=rl.slot i _ _ hy
  exact ⟨v,h1,k v H ⟨[],fp,rl.post,rfl,h1⟩⟩
 ·cases e
theorem Hc {d:D} {v:V} {Q:VK} (hv:∀ N H,RepA N H v d) (h:tE K (Ae d) σ H Q):tC v σ H Q:=by
 obtain ⟨ρ,O,fp,rl,x,ρ',e,k⟩:=h
 cases e
 exact k v H ⟨[],fp,rl.post,MU (hv _ _)⟩
theorem Q9 {m:ME} {Q:VK} (h:tE K (AW m) σ H Q):tE K m σ H Q:=by
 obtain ⟨ρ,O,fp,rl,x,ρ',e,k⟩:=h
 simp only [AW,bind_eq_some_iff,map_eq_some_iff] at e
 obtain ⟨⟨r,ρ1⟩,e1,⟨d,ρ2⟩,e2,e3⟩:=e
 cases e3
 refine ⟨ρ,O,fp,rl,r,ρ1,e1,fun v H1 yy=>?_⟩
 obtain ⟨L,fp1,p,q⟩:=yy
 obtain ⟨fp2,p2,q2⟩:=DW p q e2
 exact k v H1 ⟨[],fp2,p2,MU q2⟩
theorem QG {v:V} {a:A} {b:Bool} (h:Aq K N H v a L) (e:FE a = some b):v = .bl b:=by
 cases a with
 | fz d =>
  cases d with
  | bl c =>
   simp only [FE,Option.some.injEq] at e
   subst e
   rw [Aq] at h
   obtain ⟨_,h⟩:=h
   cases h
   rfl
  | _=>simp [FE] at e
 | _=>simp [FE] at e
theorem IV {m:ME} {Q:Bool→Hp→Prop} (h:tT K (AG m) σ H Q):tE K m σ H fun x H1=>∃ c,x = .bl c∧Q c H1:=by
 obtain ⟨ρ,O,fp,rl,x,ρ',e,k⟩:=h
 simp only [AG,bind_eq_some_iff,map_eq_some_iff] at e
 obtain ⟨⟨r,ρ1⟩,e1,a,e2,b,e3,e4⟩:=e
 cases e4
 refine ⟨ρ,O,fp,rl,r,_,e1,fun v H1 yy=>?_⟩
 obtain ⟨L,fp1,p,q⟩:=yy
 obtain ⟨L',q'⟩:=p.rel.peek q e2
 exact ⟨_,QG q' e3,k fp1 H1 p.drop0⟩
theorem Post.next {σ2:St} (x:Post K O fp H ρ ρ1 σ σ1 [] fp1 H1) (y:Post K O fp1 H1 ρ1 ρ2 σ1 σ2 L2 fp2 H2):Post K O fp H ρ ρ2 σ σ2 L2 fp2 H2:=by
 have e:ad O [] = O:=funext fun p=>propext HN
 exact Post.then (L1:=[]) x (by rw [e]; exact y)
theorem Post.rel0 (x:Post K O fp H ρ ρ1 σ σ1 [] fp1 H1):Rel K ρ1 σ1 H1 O fp1:=x.rel.congr fun p=>HN
theorem Jp.pre {r:R} {v:V} (x:Post K O fp H ρ ρ1 σ σ [] fp1 H1) (y:Jp K O fp1 H1 ρ1 ρ2 σ r v H2):Jp K O fp H ρ ρ2 σ r v H2:=by
 obtain ⟨L,fp2,p,q⟩:=y
 exact ⟨L,fp2,x.next p,q⟩
theorem Wt {a b:MT} {Q:Bool→Hp→Prop} (h:tT K (J0 a b) σ H Q):tT K a σ H fun c H1=>if c = true then tT K b σ H1 Q else Q false H1:=by
 obtain ⟨ρ,O,fp,rl,x,ρ',e,k⟩:=h
 simp only [J0,bind_eq_some_iff] at e
 obtain ⟨⟨c,ρ1⟩,e1,e2⟩:=e
 refine ⟨ρ,O,fp,rl,c,ρ1,e1,fun fp1 H1 p=>?_⟩
 cases c with
 | true =>
  rw [if_pos rfl] at e2 ⊢
  exact ⟨ρ1,O,fp1,p.rel0,x,ρ',e2,fun fp2 H2 p2=>k fp2 H2 (p.next p2)⟩
 | false =>
  simp at e2
  obtain ⟨rfl,rfl⟩:=e2
  rw [if_neg Bool.false_ne_true]
  exact k fp1 H1 p
theorem XJ {a b:MT} {Q:Bool→Hp→Prop} (h:tT K (orT a b) σ H Q):tT K a σ H fun c H1=>if c = true then Q true H1 else tT K b σ H1 Q:=by
 obtain ⟨ρ,O,fp,rl,x,ρ',e,k⟩:=h
 simp only [orT,bind_eq_some_iff] at e
 obtain ⟨⟨c,ρ1⟩,e1,e2⟩:=e
 refine ⟨ρ,O,fp,rl,c,ρ1,e1,fun fp1 H1 p=>?_⟩
 cases c with
 | false =>
  simp at e2
  rw [if_neg Bool.false_ne_true]
  exact ⟨ρ1,O,fp1,p.rel0,x,ρ',e2,fun fp2 H2 p2=>k fp2 H2 (p.next p2)⟩
 | true =>
  simp at e2
  obtain ⟨rfl,rfl⟩:=e2
  rw [if_pos rfl]
  exact k fp1 H1 p
theorem Wu {a:MT} {Q:Bool→Hp→Prop} (h:tT K (Dm a) σ H Q):tT K a σ H fun c H1=>Q (!c) H1:=by
 obtain ⟨ρ,O,fp,rl,x,ρ',e,k⟩:=h
 simp only [Dm,map_eq_some_iff] at e
 obtain ⟨⟨c,ρ1⟩,e1,e2⟩:=e
 cases e2
 exact ⟨ρ,O,fp,rl,c,_,e1,k⟩
theorem N9 {m:ME} {Q:Bool→Hp→Prop} {ρ ρ':Ro} {b:Bool} {O:Addr→Prop} {fp:Nat→List Addr} (rl:Rel K ρ σ H O fp) (e:AG m ρ = some (b,ρ')) (k:∀ fp' H',Post K O fp H ρ ρ' σ σ [] fp' H'→Q b H'):tE K m σ H fun x H1=>∃ c,x = .bl c∧Q c H1:=
 IV ⟨ρ,O,fp,rl,b,ρ',e,k⟩
theorem Wf {a b:ME} {Q:VK} (h:tE K (andM a b) σ H Q):tE K a σ H fun x H1=>∃ c,x = .bl c∧if c = true then tE K b σ H1 Q else Q (.bl false) H1:=by
 obtain ⟨ρ,O,fp,rl,x,ρ',e,k⟩:=h
 simp only [andM,bind_eq_some_iff] at e
 obtain ⟨⟨c,ρ1⟩,e1,e2⟩:=e
 refine N9 (Q:=fun c H1=>if c = true then tE K b σ H1 Q else Q (.bl false) H1) rl e1 fun fp1 H1 p=>?_
 cases c with
 | true =>
  rw [if_pos rfl] at e2 ⊢
  exact ⟨ρ1,O,fp1,p.rel0,x,ρ',e2,fun v H2 p2=>k v H2 (p2.pre p)⟩
 | false =>
  simp at e2
  obtain ⟨rfl,rfl⟩:=e2
  rw [if_neg Bool.false_ne_true]
  exact k _ H1 ⟨[],fp1,p,MU (.bl _)⟩
theorem Wh {a:ME} {Q:VK} (h:tE K (notM a) σ H Q):tE K a σ H fun x H1=>∃ c,x = .bl c∧Q (.bl (!c)) H1:=by
 obtain ⟨ρ,O,fp,rl,x,ρ',e,k⟩:=h
 simp only [notM,map_eq_some_iff] at e
 obtain ⟨⟨c,ρ1⟩,e1,e2⟩:=e
 cases e2
 exact N9 (Q:=fun c H1=>Q (.bl (!c)) H1) rl e1 fun fp1 H1 p=>k _ H1 ⟨[],fp1,p,MU (.bl _)⟩
theorem RRs.vals:∀ {rs:List R} {vs:List V} {as:List A} {L:List Addr},RRs K N H σ vs rs L→J.vals rs = some as→Ao K N H vs as L
 | [],[],as,L,q,e=>by
  simp only [J.vals,Option.some.injEq] at e
  subst e
  simp only [RRs] at q
  simp only [Ao]
  exact q
 | [],_ :: _,_,_,q,_=>by simp only [RRs] at q
 | _ :: _,[],_,_,q,_=>by simp only [RRs] at q
 | r :: rs,v :: vs,as,L,q,e=>by
  cases r with
  | ref i=>simp [J.vals] at e
  | val a =>
   simp only [J.vals,map_eq_some_iff] at e
   obtain ⟨as',e2,rfl⟩:=e
   simp only [RRs] at q
   obtain ⟨L1,L2,rfl,q1,q2⟩:=q
   simp only [Ao]
   exact ⟨L1,L2,rfl,q1,RRs.vals q2 e2⟩
theorem Cj {p:Addr} {o:HO} (h:H p = none):EG H (upd H p o):=fun b o' e=>by
 rw [AH (Dc e h)]; exact e
theorem Post.more {L':List Addr} (x:Post K O fp H ρ ρ1 σ σ1 L fp1 H1) (s:EG H1 H2) (nd:L'.Nodup) (h:∀ p∈L',p∈L∨(H1 p = none∧H2 p≠none)):Post K O fp H ρ ρ1 σ σ1 L' fp1 H2 where
 rel:=x.rel.grow s (fun p z=>by
   rcases z with z | z
   ·exact .inl (.inl z)
   ·rcases h p z with q | q
    ·exact .inl (.inr q)
    ·exact .inr q.1) fun p z=>by
   have key:H1 p≠none→H2 p≠none:=fun n q=>by
    cases e:H1 p with
    | none=>exact n e
    | some o=>rw [s p o e] at q; cases q
   rcases z with z | z
   ·exact key (x.rel.al p (.inr (.inl z)))
   ·rcases h p z with q | q
    ·exact key (x.rel.al p (.inr (.inr q)))
    ·exact q.2
 nd:=nd
 lo:=fun p hp z=>by
  rcases h p hp with q | q
  ·exact x.lo p q z
  ·exact x.rel.al p (.inr (.inl z)) q.1
 new:=fun p hp=>by
  rcases hp with hp | hp
  ·rcases h p hp with q | q
   ·exact x.new p (.inl q)
   ·cases e:H p with
    | none=>exact .inr rfl
    | some o =>
     by_cases hf:Fp fp p
     ·exact .inl hf
     ·have:=x.kept p o e (.inl hf)
      rw [q.1] at this; cases this
  ·exact x.new p (.inr hp)
 kept:=x.kept.trans (EG.kept (L:=fun _=>False) s) fun _ z=>z.elim
 ln:=x.ln
 stab:=x.stab
theorem Wg {m:MA} {Q:VK} (h:tE K (lstM m) σ H Q):XD (tA K m) σ H Q:=by
 obtain ⟨ρ,O,fp,rl,x,ρ',e,k⟩:=h
 simp only [lstM,bind_eq_some_iff] at e
 obtain ⟨⟨rs,ρ1⟩,e1,as,e2,e3⟩:=e
 split at e3
 ·rename_i hz
  cases e3
  refine ⟨ρ,O,fp,rl,rs,_,e1,fun vs H1 yy=>?_⟩
  obtain ⟨L,fp1,p,q⟩:=yy
  have q':=q.vals e2
  have hl:=q'.len
  refine ⟨by rw [hl]; exact hz,fun a ha=>k _ _ ?_⟩
  have s:=Cj (o:=.lst vs) ha
  have nL:a ∉ L:=fun z=>p.rel.al a (.inr (.inr z)) ha
  refine ⟨a :: L,fp1,p.more s (nodup_cons.mpr ⟨nL,p.nd⟩) (fun b hb=>?_),?_⟩
  ·rcases mem_cons.mp hb with rfl | hb
   ·exact .inr ⟨ha,by rw [AK]; simp⟩
   ·exact .inl hb
  ·show Aq _ _ _ _ _ _
   rw [Aq]
   refine ⟨a,vs,L,rfl,rfl,AK,by rw [hl]; exact hz,q'.tr (M:=fun _=>False) (fun _ z=>z.elim) (EG.kept s) (fun b z=>?_) fun _ _ z=>z⟩
   rcases z with z | z | z
   ·exact .inl (.inl z)
   ·exact .inl (.inr (.inl z))
   ·rcases mem_cons.mp z with rfl | z
    ·exact .inr ha
    ·exact .inl (.inr (.inr z))
 ·cases e3
end
noncomputable def O7 (K:Frag) (O:Addr→Prop) (fp:Nat→List Addr) (H:Hp) (ρ:Ro) (σ:St) (D:Ends):Fl→Prop
 | .next ρ'=>∀ σ' fp' H',Post K O fp H ρ ρ' σ σ' [] fp' H'→D.nx σ' H'
 | .brk ρ'=>∀ σ' fp' H',Post K O fp H ρ ρ' σ σ' [] fp' H'→D.bk σ' H'
 | .cnt ρ'=>∀ σ' fp' H',Post K O fp H ρ ρ' σ σ' [] fp' H'→D.ct σ' H'
 | .ret a ρ'=>∀ σ' v L fp' H',Post K O fp H ρ ρ' σ σ' L fp' H'→Aq K (NN fp' (ad O L)) H' v a L→D.rt v H'
noncomputable def tS (K:Frag) (m:MS):TS:=fun D σ H=>∃ ρ O fp,Rel K ρ σ H O fp∧∃ fl,m ρ = some fl∧O7 K O fp H ρ σ D fl
section
variable {K:Frag} {ρ ρ' ρ1 ρ2:Ro} {σ σ' σ1 σ2:St} {H H' H1 H2:Hp} {O O' N:Addr→Prop} {fp fp' fp1 fp2:Nat→List Addr} {L L1 L2:List Addr} {D:Ends}
theorem O7.pre {fl:Fl} (x:Post K O fp H ρ ρ1 σ σ1 [] fp1 H1) (w:O7 K O fp H ρ σ D fl):O7 K O fp1 H1 ρ1 σ1 D fl:=by
 cases fl with
 | next ρ'=>exact fun σ' fp' H' p=>w σ' fp' H' (x.next p)
 | brk ρ'=>exact fun σ' fp' H' p=>w σ' fp' H' (x.next p)
 | cnt ρ'=>exact fun σ' fp' H' p=>w σ' fp' H' (x.next p)
 | ret a ρ'=>exact fun σ' v L fp' H' p q=>w σ' v L fp' H' (x.next p) q
theorem TB (h:tS K AY D σ H):Ue D σ H:=by
 obtain ⟨ρ,O,fp,rl,fl,e,w⟩:=h
 cases e
 exact w σ fp H rl.post
theorem Wr {a b:MS} (h:tS K (Ap a b) D σ H):XI (tS K a) (tS K b) D σ H:=by
 obtain ⟨ρ,O,fp,rl,fl,e,w⟩:=h
 simp only [Ap,bind_eq_some_iff] at e
 obtain ⟨f1,e1,e2⟩:=e
 refine ⟨ρ,O,fp,rl,f1,e1,?_⟩
 cases f1 with
 | next ρ1=>exact fun σ1 fp1 H1 p=>⟨ρ1,O,fp1,p.rel0,fl,e2,w.pre p⟩
 | brk ρ1=>cases e2; exact w
 | cnt ρ1=>cases e2; exact w
 | ret a ρ1=>cases e2; exact w
theorem XH {c:MT} {a b:MS} (h:tS K (ifS c a b) D σ H):XC (tT K c) (tS K a) (tS K b) D σ H:=by
 obtain ⟨ρ,O,fp,rl,fl,e,w⟩:=h
 simp only [ifS,bind_eq_some_iff] at e
 obtain ⟨⟨c,ρ1⟩,e1,e2⟩:=e
 refine ⟨ρ,O,fp,rl,c,ρ1,e1,fun fp1 H1 p=>?_⟩
 cases c with
 | true =>
  simp at e2
  rw [if_pos rfl]
  exact ⟨ρ1,O,fp1,p.rel0,fl,e2,w.pre p⟩
 | false =>
  simp at e2
  rw [if_neg Bool.false_ne_true]
  exact ⟨ρ1,O,fp1,p.rel0,fl,e2,w.pre p⟩
theorem Wl {m:ME} (h:tS K (EJ m) D σ H):N8 (tE K m) D σ H:=by
 obtain ⟨ρ,O,fp,rl,fl,e,w⟩:=h
 simp only [EJ,map_eq_some_iff] at e
 obtain ⟨⟨r,ρ1⟩,e1,e2⟩:=e
 cases e2
 exact ⟨ρ,O,fp,rl,r,ρ1,e1,fun v H1 ⟨L,fp1,p,q⟩=>w σ fp1 H1 p.drop0⟩
theorem Wq {m:ME} (h:tS K (retS m) D σ H):XG (tE K m) D σ H:=by
 obtain ⟨ρ,O,fp,rl,fl,e,w⟩:=h
 simp only [retS,bind_eq_some_iff,map_eq_some_iff] at e
 obtain ⟨⟨r,ρ1⟩,e1,⟨a,ρ2⟩,e2,e3⟩:=e
 cases e3
 refine ⟨ρ,O,fp,rl,r,ρ1,e1,fun v H1 yy=>?_⟩
 obtain ⟨L,fp1,p,q⟩:=yy
 obtain ⟨L2,fp2,p2,q2⟩:=OE p q e2
 exact w σ v L2 fp2 H1 p2 q2
theorem Pr {i:Nat} (h:free ρ i = true):i < ρ.length∧∀ st a,ρ[i]? = some (some (st,a))→st = .own:=by
 unfold free at h
 split at h
 ·rename_i e
  exact ⟨Aw e,fun st a e'=>by rw [e] at e'; cases e'⟩
 ·rename_i a e
  exact ⟨Aw e,fun st a e'=>by rw [e] at e'; cases e'; rfl⟩
 ·cases h
theorem Post.store {i:Nat} {v:V} {a:A} {σ1:St} (x:Post K O fp H ρ ρ1 σ σ1 (L1 ++ L2) fp1 H1) (hf:free ρ1 i = true) (q:Aq K (NN fp1 (ad O (L1 ++ L2))) H1 v a L1) :
  Post K O fp H ρ (ρ1.set i (some (.own,a))) σ (σ1.set i (some v)) L2 (pt fp1 i L1) H1:=by
 obtain ⟨hi,ho⟩:=Pr hf
 have nd:=nodup_append.mp x.nd
 have nn:∀ p,NN (pt fp1 i L1) (ad O L2) p→NN fp1 (ad O (L1 ++ L2)) p:=fun p z=>by
  rcases z with ⟨j,z⟩ | z | z
  ·rcases Bl z with ⟨_,z⟩ | ⟨_,z⟩
   ·exact .inr (.inr (mem_append_left _ z))
   ·exact .inl ⟨j,z⟩
  ·exact .inr (.inl z)
  ·exact .inr (.inr (mem_append_right _ z))
 refine ⟨x.rel.set (O':=ad O L2) hi (fun p z=>nn p (.inr z)) (fun p hp=>.inr (.inr (mem_append_left _ hp))) nd.1 (fun p hp j _ z=>x.rel.off j p z (.inr (mem_append_left _ hp))) (fun p hp z=>?_)
  (fun j p _ h z=>x.rel.off j p h (z.imp id (mem_append_right _))) (fun st a' e=>by cases e; exact ⟨v,rfl,Dq nn q⟩) (fun e=>by cases e),nd.2.1,fun p hp=>x.lo p (mem_append_right _ hp),fun p hp=>?_,x.kept,by rw [length_set]; exact x.ln,fun j st a' h n=>?_⟩
 ·rcases z with z | z
  ·exact x.lo p (mem_append_left _ hp) z
  ·exact nd.2.2 p hp p z rfl
 ·rcases hp with hp | ⟨j,hp⟩
  ·exact x.new p (.inl (mem_append_right _ hp))
  ·rcases Bl hp with ⟨_,z⟩ | ⟨_,z⟩
   ·exact x.new p (.inl (mem_append_left _ z))
   ·exact x.new p (.inr ⟨j,z⟩)
 ·obtain ⟨a2,h2,e2,f2⟩:=x.stab j st a' h n
  have hj:j≠i:=by
   rintro rfl
   exact n (ho st a2 h2)
  exact ⟨a2,by rw [getElem?_set_ne (Ne.symm hj)]; exact h2,by rw [getElem?_set_ne (Ne.symm hj)]; exact e2,f2⟩
theorem GY {v:V} {r:R} {a:A} (x:Post K O fp H ρ ρ1 σ σ L fp1 H1) (q:RR K (NN fp1 (ad O L)) H1 σ v r L) (e:keep ρ1 r = some (a,ρ2)) :
  ∃ L2 fp2,Post K O fp H ρ ρ2 σ σ L2 fp2 H1∧Aq K (NN fp2 (ad O L2)) H1 v a L2:=by
 cases r with
 | val b =>
  simp only [keep,Option.some.injEq] at e
  cases e
  exact ⟨L,fp1,x,q⟩
 | ref i =>
  simp only [keep,map_eq_some_iff] at e
  obtain ⟨⟨d,ρ3⟩,e,e'⟩:=e
  cases e'
  obtain ⟨fp2,p,q2⟩:=DW x q e
  exact ⟨[],fp2,p,Et q2⟩
theorem Rb {i:Nat} {m:ME} (h:tS K (Ar i m) D σ H):Q6 (tE K m) (Lh i) D σ H:=by
 obtain ⟨ρ,O,fp,rl,fl,e,w⟩:=h
 simp only [Ar,bind_eq_some_iff] at e
 obtain ⟨⟨r,ρ1⟩,e1,⟨a,ρ2⟩,e2,e3⟩:=e
 split at e3
 ·rename_i hf
  cases e3
  refine ⟨ρ,O,fp,rl,r,ρ1,e1,fun v H1 yy=>?_⟩
  obtain ⟨L,fp1,p,q⟩:=yy
  obtain ⟨L2,fp2,p2,q2⟩:=GY p q e2
  exact w _ _ H1 (Post.store (L1:=L2) (L2:=[]) (by rw [append_nil]; exact p2) hf (by rw [append_nil]; exact q2))
 ·cases e3
noncomputable def E7:List Nat→TGs
 | []=>WU
 | i :: is=>TV (Lh i) (E7 is)
theorem G9 {Q:St→Hp→Prop}:∀ {is:List Nat} {as:List A} {vs:List V} {ρ1 ρ2:Ro} {σ1:St} {fp1:Nat→List Addr} {L:List Addr},Post K O fp H ρ ρ1 σ σ1 L fp1 H1→Ao K (NN fp1 (ad O L)) H1 vs as L→CM is as ρ1 = some ρ2 →
  (∀ σ' fp',Post K O fp H ρ ρ2 σ σ' [] fp' H1→Q σ' H1)→E7 is vs σ1 H1 Q
 | [],[],vs,ρ1,ρ2,σ1,fp1,L,x,q,e,k=>by
  cases vs with
  | cons v vs=>simp only [Ao] at q
  | nil =>
   simp only [CM,Option.some.injEq] at e
   subst e
   exact ⟨rfl,k σ1 fp1 x.drop0⟩
 | [],_ :: _,_,_,_,_,_,_,_,_,e,_=>by simp [CM] at e
 | _ :: _,[],_,_,_,_,_,_,_,_,e,_=>by simp [CM] at e
 | i :: is,a :: as,vs,ρ1,ρ2,σ1,fp1,L,x,q,e,k=>by
  cases vs with
  | nil=>simp only [Ao] at q
  | cons v vs =>
   simp only [Ao] at q
   obtain ⟨L1,L2,rfl,q1,q2⟩:=q
   simp only [CM] at e
   split at e
   ·rename_i hf
    refine ⟨v,vs,rfl,?_⟩
    have p:=x.store hf q1
    refine G9 p (WC (fun p z=>?_) q2) e k
    rcases z with ⟨j,z⟩ | z | z
    ·rcases Bl z with ⟨_,z⟩ | ⟨_,z⟩
     ·exact .inr (.inr (mem_append_left _ z))
     ·exact .inl ⟨j,z⟩
    ·exact .inr (.inl z)
    ·exact .inr (.inr (mem_append_right _ z))
   ·cases e
theorem Aq.parts {v:V} {a:A} {as:List A} (q:Aq K N H v a L) (e:ET a = some as):∃ p vs,v = .ref p∧SqT K H p vs∧Ao K N H vs as L:=by
 cases a with
 | tup bs =>
  simp only [ET,Option.some.injEq] at e
  subst e
  rw [Aq] at q
  obtain ⟨p,vs,rfl,h,hz,hs⟩:=q
  exact ⟨p,vs,rfl,.inl (.inl h),hs⟩
 | fz d =>
  cases d with
  | tup ds =>
   simp only [ET,Option.some.injEq] at e
   subst e
   rw [Aq] at q
   obtain ⟨rfl,q⟩:=q
   cases q with
   | tup h hz hl hr=>exact ⟨_,_,rfl,.inl (.inl h),Ao.of (As.mk hl hr)⟩
  | _=>simp [ET] at e
 | _=>simp [ET] at e
theorem F3:∀ {is:List Nat} {as:List A} {ρ1 ρ2:Ro},CM is as ρ1 = some ρ2→is.length = as.length
 | [],[],_,_,_=>rfl
 | [],_ :: _,_,_,e=>by simp [CM] at e
 | _ :: _,[],_,_,e=>by simp [CM] at e
 | i :: is,a :: as,_,_,e=>by
  simp only [CM] at e
  split at e
  ·simp [F3 e]
  ·cases e
theorem Ws {is:List Nat} {m:ME} (h:tS K (K1 is m) D σ H):Q6 (tE K m) (UE K is.length (E7 is)) D σ H:=by
 obtain ⟨ρ,O,fp,rl,fl,e,w⟩:=h
 simp only [K1,bind_eq_some_iff,map_eq_some_iff] at e
 obtain ⟨⟨r,ρ1⟩,e1,⟨a,ρ2⟩,e2,as,e3,ρ3,e4,e5⟩:=e
 cases e5
 refine ⟨ρ,O,fp,rl,r,ρ1,e1,fun v H1 yy=>?_⟩
 obtain ⟨L,fp1,p,q⟩:=yy
 obtain ⟨L2,fp2,p2,q2⟩:=GY p q e2
 obtain ⟨pa,vs,rfl,hS,hs⟩:=q2.parts e3
 exact ⟨pa,vs,rfl,hS,by rw [hs.len,F3 e4],G9 p2 hs e4 fun σ' fp' p'=>w σ' fp' H1 p'⟩
theorem Rc {n:Nat} {c:MT} {b:MS} (h:tS K (F9 n c b) D σ H):Rf (tT K c) (tS K b) D σ H:=by
 obtain ⟨ρ,O,fp,rl,fl,e,w⟩:=h
 refine ⟨fun n σ' H'=>∃ ρ' fp',Post K O fp H ρ ρ' σ σ' [] fp' H'∧BW c b n ρ' = some fl,⟨n,ρ,fp,rl.post,e⟩,?_⟩
 rintro n σ1 H1 ⟨ρ1,fp1,p1,e1⟩
 cases n with
 | zero=>simp [BW] at e1
 | succ n =>
  simp only [BW,bind_eq_some_iff] at e1
  obtain ⟨⟨c,ρ2⟩,e2,e3⟩:=e1
  refine ⟨ρ1,O,fp1,p1.rel0,c,ρ2,e2,fun fp2 H2 p2=>?_⟩
  have p12:=p1.next p2
  cases c with
  | false =>
   simp at e3
   subst e3
   dsimp only
   rw [if_neg Bool.false_ne_true]
   exact w _ _ _ p12
  | true =>
   simp only [if_true,bind_eq_some_iff] at e3
   obtain ⟨f,e4,e5⟩:=e3
   dsimp only
   rw [if_pos rfl]
   refine ⟨_,fun σ' H' z=>⟨n,Nat.lt_succ_self n,z⟩,ρ2,O,fp2,p12.rel0,f,e4,?_⟩
   cases f with
   | next ρ3=>exact fun σ' fp' H' p=>⟨ρ3,fp',p12.next p,e5⟩
   | cnt ρ3=>exact fun σ' fp' H' p=>⟨ρ3,fp',p12.next p,e5⟩
   | brk ρ3 =>
    cases e5
    exact fun σ' fp' H' p=>w σ' fp' H' (p12.next p)
   | ret a ρ3 =>
    cases e5
    exact fun σ' v L fp' H' p q=>w σ' v L fp' H' (p12.next p) q
end
noncomputable def ItR (J:It) (C:(Addr→Prop)→Hp→Prop) (ds:List D):Prop:=∀ N H,C N H→(∀ i,i < ds.length→J.go i H)∧(∀ i,ds.length≤i→J.stop i H)∧∀ i x H' d,J.yld i H x H'→ds[i]? = some d→EG H H'∧RepA N H' x d
noncomputable def XT (H H':Hp):Prop:=∀ p xs,H p = some (.tup xs)→H' p = some (.tup xs)
noncomputable def ItP (K:Frag) (O:Addr→Prop) (fp:Nat→List Addr) (H:Hp) (ρ ρ':Ro) (σ:St) (ds:List D) (n:Option Nat) (J:It) (H':Hp):Prop:=
 ∃ r v a L fp',Post K O fp H ρ ρ' σ σ L fp' H'∧RR K (NN fp' (ad O L)) H' σ v r L∧n = nameOf r∧peek ρ' r = some a∧ItR J (fun N H=>(∃ L,Aq K N H v a L)∧XT H' H) ds
noncomputable def tI (K:Frag) (m:MI):TI:=fun σ H R=>∃ ρ O fp,Rel K ρ σ H O fp∧∃ ds n ρ',m ρ = some (ds,n,ρ')∧∀ J H',ItP K O fp H ρ ρ' σ ds n J H'→R J H'
section
variable {K:Frag} {ρ ρ' ρ1 ρ2:Ro} {σ σ' σ1 σ2:St} {H H' H1 H2:Hp} {O O' N:Addr→Prop} {fp fp' fp1 fp2:Nat→List Addr} {L L1 L2:List Addr}
theorem Ep {n:Option Nat} {j:Nat}:(lock ρ n)[j]? = match ρ[j]? with
  | some (some (st,a))=>some (some (if n = some j then .ro else st,a))
  | x=>x:=by
 cases n with
 | none =>
  simp only [lock]
  split <;> simp_all
 | some i =>
  simp only [lock]
  split
  ·rename_i st a e
   by_cases h:j = i
   ·subst h
    rw [getElem?_set_self (Aw e),e]
    simp
   ·rw [getElem?_set_ne (Ne.symm h)]
    split
    ·have:¬ (some i = some j):=fun z=>h (Option.some.inj z).symm
     simp [this, *]
    ·rfl
  ·rename_i hn
   by_cases h:j = i
   ·subst h
    split
    ·rename_i st a e
     exact absurd e (hn st a)
    ·rfl
   ·split
    ·have:¬ (some i = some j):=fun z=>h (Option.some.inj z).symm
     simp [this, *]
    ·rfl
theorem Rel.lock {n:Option Nat} (r:Rel K ρ σ H O fp):Rel K (J.lock ρ n) σ H O fp where
 len:=by
  rw [← r.len]
  cases n with
  | none=>rfl
  | some i=>simp only [J.lock]; split <;> simp
 slot:=fun i st a e=>by
  rw [Ep] at e
  split at e
  ·rename_i st' a' e'
   simp only [Option.some.injEq,Prod.mk.injEq] at e
   obtain ⟨_,rfl⟩:=e
   exact r.slot i _ _ e'
  ·exact r.slot i _ _ e
 out:=fun i h=>r.out i fun st a e=>h (if n = some i then .ro else st) a (by rw [Ep,e])
 nd:=r.nd
 inj:=r.inj
 off:=r.off
 al:=r.al
theorem Post.unlock {n:Option Nat} {a:A} (hn:∀ i,n = some i→∃ st,ρ1[i]? = some (some (st,a))) (x:Post K O fp1 H1 (J.lock ρ1 n) ρ2 σ1 σ2 L fp2 H2):Post K O fp1 H1 ρ1 (J.unlock ρ1 ρ2 n) σ1 σ2 L fp2 H2:=by
 cases n with
 | none=>exact x
 | some i =>
  obtain ⟨st,e⟩:=hn i rfl
  obtain ⟨a',e2,es,ea⟩:=x.stab i .ro a (by rw [Ep,e]; simp) (by decide)
  cases ea rfl
  have eu:J.unlock ρ1 ρ2 (some i) = ρ2.set i (some (st,a)):=by simp only [J.unlock,e]
  rw [eu]
  have get:∀ j st' b,(ρ2.set i (some (st,a)))[j]? = some (some (st',b))→∃ st'',ρ2[j]? = some (some (st'',b)):=fun j st' b q=>by
   by_cases h:j = i
   ·subst h
    rw [getElem?_set_self (Aw e2)] at q
    cases q
    exact ⟨_,e2⟩
   ·rw [getElem?_set_ne (Ne.symm h)] at q
    exact ⟨_,q⟩
  refine ⟨⟨by rw [length_set]; exact x.rel.len,fun j st' b q=>?_,fun j h=>?_,x.rel.nd,x.rel.inj,x.rel.off,x.rel.al⟩,x.nd,x.lo,x.new,x.kept,x.ln,fun j st' b q hs=>?_⟩
  ·obtain ⟨st'',q⟩:=get j st' b q
   exact x.rel.slot j _ _ q
  ·refine x.rel.out j fun st' b q=>?_
   by_cases hj:j = i
   ·subst hj
    exact h st a (getElem?_set_self (Aw e2))
   ·exact h st' b (by rw [getElem?_set_ne (Ne.symm hj)]; exact q)
  ·by_cases hj:j = i
   ·subst hj
    rw [e] at q
    cases q
    exact ⟨a,getElem?_set_self (Aw e2),es,fun _=>rfl⟩
   ·have q':(J.lock ρ1 (some i))[j]? = some (some (st',b)):=by
     rw [Ep,q]
     have:¬ (some i = some j):=fun z=>hj (Option.some.inj z).symm
     simp [this]
    obtain ⟨b',q2,s2,f2⟩:=x.stab j st' b q' hs
    exact ⟨b',by rw [getElem?_set_ne (Ne.symm hj)]; exact q2,s2,f2⟩
noncomputable def Ol (K:Frag) (is:List Nat):Bool→TG
 | true=>Lh (is.headD 0)
 | false=>UE K is.length (E7 is)
theorem Rx {is:List Nat} {one:Bool} {d:D} {x:V} {Q:St→Hp→Prop} (p:Post K O fp H ρ ρ1 σ σ1 [] fp1 H1) (q:RepA (NN fp1 O) H1 x d) (e:HS is one d ρ1 = some ρ2) (k:∀ σ' fp',Post K O fp H ρ ρ2 σ σ' [] fp' H1→Q σ' H1) :
  Ol K is one x σ1 H1 Q:=by
 have q0:RepA (NN fp1 (ad O [])) H1 x d:=Ft (fun p z=>FU.mp z) q
 cases one with
 | true =>
  unfold HS at e
  match is,e with
  | [i],e =>
   dsimp only at e
   split at e
   ·rename_i hf
    cases e
    exact k _ _ (Post.store (L1:=[]) (L2:=[]) p hf (Et (K:=K) q0))
   ·cases e
  | [],e=>simp at e
  | _ :: _ :: _,e=>simp at e
 | false =>
  unfold HS at e
  dsimp only at e
  cases d with
  | tup ds =>
   dsimp only at e
   cases q0 with
   | tup h hz hl hr =>
    refine ⟨_,_,rfl,.inl (.inl h),?_,G9 p (Ao.of (As.mk hl hr)) e k⟩
    have:=F3 e
    rw [length_map] at this
    rw [hl,this]
  | _=>simp at e
theorem Wa {r:R} {v:V} {a:A} {n:Option Nat} (hn:n = nameOf r) (hr:Rel K ρ1 σ H1 (ad O L) fp1) (q:RR K (NN fp1 (ad O L)) H1 σ v r L) (e:peek ρ1 r = some a) (p:Post K (ad O L) fp1 H1 (J.lock ρ1 n) ρ2 σ σ2 [] fp2 H2) :
  ∃ L',Aq K (NN fp2 (ad O L)) H2 v a L':=by
 cases r with
 | val b =>
  simp only [peek,Option.some.injEq] at e
  subst e
  refine ⟨L,Aq.tr (M:=Fp fp1) (fun p z=>.inl z) p.kept (fun x z=>?_) (fun x hx z=>?_) q⟩
  ·rcases z with z | z
   ·exact (p.new x (.inr z)).imp (fun y=>.inl y) id
   ·exact .inl (.inr z)
  ·obtain ⟨i,hi⟩:=z
   exact hr.off i x hi (.inr hx)
 | ref i =>
  subst hn
  simp only [peek] at e
  split at e
  ·rename_i st b hb
   cases e
   obtain ⟨a',e2,es,ea⟩:=p.stab i .ro a (by rw [Ep,hb]; simp [nameOf]) (by decide)
   cases ea rfl
   obtain ⟨v',h1,h2⟩:=p.rel0.slot i _ _ e2
   rw [es,q.2] at h1
   cases h1
   exact ⟨_,h2⟩
  ·cases e
theorem Wn {is:List Nat} {one:Bool} {it:MI} {b:MS} {D:Ends} (h:tS K (GU is one it b) D σ H):XB (tI K it) (Ol K is one) (tS K b) D σ H:=by
 obtain ⟨ρ,O,fp,rl,fl,e,w⟩:=h
 simp only [GU,bind_eq_some_iff,map_eq_some_iff] at e
 obtain ⟨⟨ds,n,ρ1⟩,e1,f,e2,e3⟩:=e
 subst e3
 refine ⟨ρ,O,fp,rl,ds,n,ρ1,e1,fun J H1 yy=>?_⟩
 obtain ⟨r,v,a,L,fp1,p1,q1,hn,ha,hJ⟩:=yy
 have hlk:∀ i,n = some i→∃ st,ρ1[i]? = some (some (st,a)):=fun i hi=>by
  rw [hn] at hi
  cases r with
  | val b=>simp [nameOf] at hi
  | ref j =>
   simp only [nameOf,Option.some.injEq] at hi
   subst hi
   simp only [peek] at ha
   split at ha
   ·rename_i st b hb
    cases ha
    exact ⟨st,hb⟩
   ·cases ha
 have rl1:Rel K (lock ρ1 n) σ H1 (ad O L) fp1:=p1.rel.lock
 -- what is wanted of the loop's end
 have w1:O7 K (ad O L) fp1 H1 (lock ρ1 n) σ D f:=by
  have un:∀ {ρ2:Ro} {σ2:St} {L2:List Addr} {fp2:Nat→List Addr} {H2:Hp},Post K (ad O L) fp1 H1 (lock ρ1 n) ρ2 σ σ2 L2 fp2 H2→Post K O fp H ρ (unlock ρ1 ρ2 n) σ σ2 L2 fp2 H2:=fun y=>(p1.then (y.unlock hlk)).drop
  cases f with
  | next ρ2=>exact fun σ' fp' H' p=>w σ' fp' H' (un p)
  | brk ρ2=>exact fun σ' fp' H' p=>w σ' fp' H' (un p)
  | cnt ρ2=>exact fun σ' fp' H' p=>w σ' fp' H' (un p)
  | ret b ρ2=>exact fun σ' v L2 fp' H' p q=>w σ' v L2 fp' H' (un p) (Dq (fun x z=>by
    rcases z with z | z | z
    ·exact .inl z
    ·exact .inr (.inl (.inl z))
    ·exact .inr (.inr z)) q)
 refine ⟨fun i m σ' H'=>m = ds.length - i∧i≤ds.length∧∃ ρ' fp',Post K (ad O L) fp1 H1 (lock ρ1 n) ρ' σ σ' [] fp' H'∧forL is one b (ds.drop i) ρ' = some f,⟨ds.length,by simp,zero_le _,lock ρ1 n,fp1,rl1.post,by simpa using e2⟩,?_⟩
 rintro i m σ2 H2 ⟨rfl,hi,ρ2,fp2,p2,e2⟩
 obtain ⟨L',src⟩:=Wa hn p1.rel q1 ha p2
 obtain ⟨go,stop,yld⟩:=hJ _ _ ⟨⟨L',src⟩,fun _ _ h=>p2.kept _ _ h (.inr rfl)⟩
 by_cases hlt:i < ds.length
 ·refine .inr ⟨go i hlt,_,fun σ' H' z=>⟨ds.length - (i + 1),by omega,rfl,hlt,z⟩,fun x H3 y=>?_⟩
  have hd:ds[i]? = some ds[i]:=by simp [hlt]
  obtain ⟨sm,qx⟩:=yld i x H3 _ y hd
  rw [drop_eq_getElem_cons hlt] at e2
  simp only [forL,bind_eq_some_iff] at e2
  obtain ⟨ρ3,e3,g,e4,e5⟩:=e2
  have p3:Post K (ad O L) fp1 H1 (lock ρ1 n) ρ2 σ σ2 [] fp2 H3:=p2.more sm nodup_nil (fun p hp=>by simp at hp)
  refine Rx p3 qx e3 fun σ4 fp4 p4=>?_
  refine ⟨ρ3,ad O L,fp4,p4.rel0,g,e4,?_⟩
  cases g with
  | next ρ5=>exact fun σ' fp' H' p=>⟨ρ5,fp',p4.next p,e5⟩
  | cnt ρ5=>exact fun σ' fp' H' p=>⟨ρ5,fp',p4.next p,e5⟩
  | brk ρ5 =>
   cases e5
   exact fun σ' fp' H' p=>w1 σ' fp' H' (p4.next p)
  | ret c ρ5 =>
   cases e5
   exact fun σ' v L fp' H' p q=>w1 σ' v L fp' H' (p4.next p) q
 ·have:i = ds.length:=by omega
  subst this
  simp only [List.drop_length,forL,Option.some.injEq] at e2
  subst e2
  exact .inl ⟨stop _ (le_refl _),w1 _ _ _ p2⟩
theorem Gq {v:V} {a:A} {ds:List D} (q:Aq K N H v a L) (e:Br a = some ds):∃ p vs,v = .ref p∧(SqL K H p vs∨SqT K H p vs)∧As N H vs ds:=by
 cases a with
 | fz d =>
  rw [Aq] at q
  obtain ⟨rfl,q⟩:=q
  cases d with
  | lst es =>
   simp only [Br,Option.some.injEq] at e
   subst e
   cases q with
   | lst h hz hn hl hr=>exact ⟨_,_,rfl,.inl (.inl (.inl h)),As.mk hl hr⟩
  | tup es =>
   simp only [Br,Option.some.injEq] at e
   subst e
   cases q with
   | tup h hz hl hr=>exact ⟨_,_,rfl,.inr (.inl (.inl h)),As.mk hl hr⟩
  | _=>simp [Br] at e
 | lst as =>
  simp only [Br] at e
  rw [Aq] at q
  obtain ⟨p,vs,L',rfl,rfl,h,hz,hs⟩:=q
  exact ⟨p,vs,rfl,.inl (.inl (.inl h)),(hs.fzs e).2⟩
 | scr ns =>
  simp only [Br,Option.some.injEq] at e
  subst e
  rw [Aq] at q
  obtain ⟨p,rfl,rfl,h,hz⟩:=q
  refine ⟨p,_,rfl,.inl (h H fun _ _ z=>z),As.mk (by simp) fun i v d e1 e2=>?_⟩
  rw [getElem?_map] at e1 e2
  cases q:ns[i]? with
  | none=>rw [q] at e1; cases e1
  | some k =>
   rw [q] at e1 e2
   cases e1; cases e2
   exact .int k
 | _=>simp [Br] at e
noncomputable def PD:A→Bool
 | .fz (.tup _)=>true
 | _=>false
theorem FQ {v:V} {a:A} {ds:List D} (q:Aq K N H v a L) (e:Br a = some ds):∃ p vs,v = .ref p∧(if PD a then SqT K H p vs else SqL K H p vs)∧As N H vs ds:=by
 cases a with
 | fz d =>
  rw [Aq] at q
  obtain ⟨rfl,q⟩:=q
  cases d with
  | lst es =>
   simp only [Br,Option.some.injEq] at e
   subst e
   cases q with
   | lst h hz hn hl hr=>exact ⟨_,_,rfl,.inl (.inl h),As.mk hl hr⟩
  | tup es =>
   simp only [Br,Option.some.injEq] at e
   subst e
   cases q with
   | tup h hz hl hr=>exact ⟨_,_,rfl,.inl (.inl h),As.mk hl hr⟩
  | _=>simp [Br] at e
 | lst as =>
  simp only [Br] at e
  rw [Aq] at q
  obtain ⟨p,vs,L',rfl,rfl,h,hz,hs⟩:=q
  exact ⟨p,vs,rfl,.inl (.inl h),(hs.fzs e).2⟩
 | scr ns =>
  obtain ⟨p,vs,e1,e2,e3⟩:=Gq q e
  rw [Aq] at q
  obtain ⟨p',rfl,rfl,h,hz⟩:=q
  cases e1
  refine ⟨p,_,rfl,h H fun _ _ z=>z,?_⟩
  simp only [Br,Option.some.injEq] at e
  subst e
  refine As.mk (by simp) fun i v d e1 e2=>?_
  rw [getElem?_map] at e1 e2
  cases q:ns[i]? with
  | none=>rw [q] at e1; cases e1
  | some k =>
   rw [q] at e1 e2
   cases e1; cases e2
   exact .int k
 | _=>simp [Br] at e
noncomputable def WY (K:Frag) (tl:TE):TI:=fun σ H R=>tl σ H fun x H1=>∃ a,x = .ref a∧(((∃ xs,SqL K H1 a xs)∧R (Itl K a) H1)∨((∃ xs,SqT K H1 a xs)∧R (Itt K a) H1))
theorem Ut {vs:List V} {ds:List D} (q:As N H vs ds) {i:Nat} (h:i < ds.length):∃ x,vs[i]? = some x:=⟨vs[i]'(by rw [q.len]; exact h),by simp⟩
theorem Wi {m:ME} {R:It→Hp→Prop} (h:tI K (Dy m) σ H R):WY K (tE K m) σ H R:=by
 obtain ⟨ρ,O,fp,rl,ds,n,ρ',e,k⟩:=h
 simp only [Dy,bind_eq_some_iff,map_eq_some_iff] at e
 obtain ⟨⟨r,ρ1⟩,e1,a,e2,ds',e3,e4⟩:=e
 cases e4
 refine ⟨ρ,O,fp,rl,r,ρ1,e1,fun v H1 yy=>?_⟩
 obtain ⟨L,fp1,p,q⟩:=yy
 obtain ⟨L',q'⟩:=p.rel.peek q e2
 obtain ⟨pa,vs,rfl,hk,_⟩:=FQ q' e3
 refine ⟨pa,rfl,?_⟩
 cases hT:PD a with
 | false =>
  rw [hT] at hk
  refine .inl ⟨⟨vs,hk⟩,k _ _ ⟨r,.ref pa,a,L,fp1,p,q,rfl,e2,fun N H2 yy=>?_⟩⟩
  obtain ⟨⟨L2,q2⟩,_⟩:=yy
  obtain ⟨pb,ws,e5,hk2,hd⟩:=FQ q2 e3
  cases e5
  rw [hT] at hk2
  have hk2:SqL K H2 pa ws:=hk2
  refine ⟨fun i hi=>?_,fun i hi=>⟨ws,hk2,by rw [hd.len]; exact hi⟩,fun i x H' d y e=>?_⟩
  ·obtain ⟨x,hx⟩:=Ut hd hi
   exact ⟨ws,x,hk2,hx⟩
  ·obtain ⟨rfl,y⟩:=y
   exact ⟨fun _ _ z=>z,hd.get i x d (y ws hk2) e⟩
 | true =>
  rw [hT] at hk
  refine .inr ⟨⟨vs,hk⟩,k _ _ ⟨r,.ref pa,a,L,fp1,p,q,rfl,e2,fun N H2 yy=>?_⟩⟩
  obtain ⟨⟨L2,q2⟩,_⟩:=yy
  obtain ⟨pb,ws,e5,hk2,hd⟩:=FQ q2 e3
  cases e5
  rw [hT] at hk2
  have hk2:SqT K H2 pa ws:=hk2
  refine ⟨fun i hi=>?_,fun i hi=>⟨ws,hk2,by rw [hd.len]; exact hi⟩,fun i x H' d y e=>?_⟩
  ·obtain ⟨x,hx⟩:=Ut hd hi
   exact ⟨ws,x,hk2,hx⟩
  ·obtain ⟨rfl,y⟩:=y
   exact ⟨fun _ _ z=>z,hd.get i x d (y ws hk2) e⟩
end
noncomputable def Wz (K:Frag):Nat→TU
 | 0=>Wy
 | n + 1=>fun v H vs=>∃ a,v = .ref a∧SqT K H a vs∧vs.length = n + 1
noncomputable def sh (n:Nat) (fp:Nat→List Addr):Nat→List Addr:=fun j=>if j < n then [] else fp (j - n)
section
variable {K:Frag} {ρ ρ' ρ1 ρ2:Ro} {σ σ' σ1 σ2:St} {H H' H1 H2:Hp} {O O' N:Addr→Prop} {fp fp' fp1 fp2:Nat→List Addr} {L L1:List Addr}
theorem Nq {n:Nat} {p:Addr}:Fp (sh n fp) p↔Fp fp p:=by
 constructor
 ·rintro ⟨j,h⟩
  unfold sh at h
  split at h
  ·simp at h
  ·exact ⟨_,h⟩
 ·rintro ⟨j,h⟩
  refine ⟨j + n,?_⟩
  unfold sh
  rw [if_neg (by lia),Nat.add_sub_cancel]
  exact h
theorem Qb {n:Nat} {p:Addr}:NN (sh n fp) O p↔NN fp O p:=or_congr Nq Iff.rfl
theorem Rel.block {vs:List V} {bs:List D} (r:Rel K ρ σ H O fp) (q:As (NN fp O) H vs bs):Rel K (bs.map own ++ ρ) (vs.map some ++ σ) H O (sh bs.length fp) where
 len:=by simp [r.len,q.len]
 slot:=fun i st a e=>by
  by_cases hi:i < bs.length
  ·rw [getElem?_append_left (by simpa using hi),getElem?_map] at e
   have hb:bs[i]? = some bs[i]:=by simp [hi]
   rw [hb] at e
   simp only [map_some,own,Option.some.injEq,Prod.mk.injEq] at e
   obtain ⟨rfl,rfl⟩:=e
   have hv:vs[i]? = some (vs[i]'(by rw [q.len]; exact hi)):=by simp
   refine ⟨_,by rw [getElem?_append_left (by simpa [q.len] using hi),getElem?_map,hv]; rfl,?_⟩
   simp only [sh,hi,if_true]
   exact Et (Ft (fun p z=>Qb.mp z) (q.get i _ _ hv hb))
  ·rw [getElem?_append_right (by simpa using hi),length_map] at e
   obtain ⟨v,e1,q1⟩:=r.slot _ _ _ e
   refine ⟨v,by rw [getElem?_append_right (by simpa [q.len] using hi),length_map,q.len]; exact e1,?_⟩
   simp only [sh,hi,if_false]
   exact Dq (fun p z=>Qb.mp z) q1
 out:=fun i h=>by
  unfold sh
  split
  ·rfl
  ·rename_i hi
   exact r.out _ fun st a e=>h st a (by rw [getElem?_append_right (by simpa using hi),length_map]; exact e)
 nd:=fun i=>by
  unfold sh
  split
  ·exact nodup_nil
  ·exact r.nd _
 inj:=fun i j p h1 h2=>by
  unfold sh at h1 h2
  split at h1
  ·simp at h1
  ·split at h2
   ·simp at h2
   ·have:=r.inj _ _ p h1 h2
    lia
 off:=fun i p h=>by
  unfold sh at h
  split at h
  ·simp at h
  ·exact r.off _ p h
 al:=fun p z=>r.al p (Qb.mp z)
theorem Post.unblock {vs:List V} {bs:List D} (hl:vs.length = bs.length) (x:Post K O (sh bs.length fp) H (bs.map own ++ ρ) ρ2 (vs.map some ++ σ) (vs.map some ++ σ) L fp2 H2):Post K O fp H ρ (ρ2.drop bs.length) σ σ L (fun j=>fp2 (j + bs.length)) H2 where
 rel:=by
  have nn:∀ p,NN (fun j=>fp2 (j + bs.length)) (ad O L) p→NN fp2 (ad O L) p:=fun p z=>z.imp (fun ⟨j,h⟩=>⟨_,h⟩) id
  have hlen:=x.rel.len
  rw [length_append,length_map,hl] at hlen
  refine ⟨by rw [length_drop,hlen]; lia,fun i st a e=>?_,fun i h=>?_,fun i=>x.rel.nd _,fun i j p h1 h2=>?_,fun i p h=>x.rel.off _ p h,fun p z=>x.rel.al p (nn p z)⟩
  ·rw [List.getElem?_drop] at e
   obtain ⟨v,e1,q⟩:=x.rel.slot _ _ _ e
   refine ⟨v,?_,Dq nn (by rw [Nat.add_comm]; exact q)⟩
   rw [getElem?_append_right (by rw [length_map]; lia),length_map] at e1
   rw [← e1]
   congr 1
   lia
  ·exact x.rel.out _ fun st a e=>h st a (by rw [List.getElem?_drop,Nat.add_comm]; exact e)
  ·have:=x.rel.inj _ _ p h1 h2
   lia
 nd:=x.nd
 lo:=x.lo
 new:=fun p hp=>(x.new p (hp.imp id fun ⟨j,h⟩=>⟨_,h⟩)).imp Nq.mp id
 kept:=x.kept.mono fun p z=>Nq.mp z
 ln:=rfl
 stab:=fun j st a h n=>by
  have e:(bs.map own ++ ρ)[j + bs.length]? = some (some (st,a)):=by rw [getElem?_append_right (by simp),length_map,Nat.add_sub_cancel]; exact h
  obtain ⟨a',e1,_,f⟩:=x.stab _ _ _ e n
  exact ⟨a',by rw [List.getElem?_drop,Nat.add_comm]; exact e1,rfl,f⟩
theorem Post.updT {p:Addr} {o:HO} {ys:List V} (x:Post K O fp H ρ ρ1 σ σ1 L fp1 H1) (hp:p∈L) (hn:H p = none) (hy:H1 p = some (.lst ys)):Post K O fp H ρ ρ1 σ σ1 L fp1 (upd H1 p o):=by
 have off:∀ i,p ∉ fp1 i:=fun i z=>x.rel.off i p z (.inr hp)
 have alp:∀ q,H1 q≠none→upd H1 p o q≠none:=fun q z=>by
  by_cases e:q = p
  ·subst e; rw [AK]; simp
  ·rw [AH e]; exact z
 have k:Kept (fun q=>q = p) H1 (upd H1 p o):=fun b u e c=>by
  by_cases hb:b = p
  ·subst hb
   rcases c with c | c
   ·exact absurd rfl c
   ·rw [hy] at e; cases e; cases c
  ·rw [AH hb]; exact e
 refine ⟨⟨x.rel.len,fun i st a e=>?_,x.rel.out,x.rel.nd,x.rel.inj,x.rel.off,fun q z=>alp q (x.rel.al q z)⟩,x.nd,x.lo,x.new,fun b u e c=>?_,x.ln,x.stab⟩
 ·obtain ⟨v,e1,q⟩:=x.rel.slot i st a e
  exact ⟨v,e1,q.tr (M:=fun q=>q = p) (fun b z=>by rw [z]; exact .inr (.inr hp)) k (fun b z=>.inl z) fun b hb z=>off i (z ▸ hb)⟩
 ·have hb:b≠p:=fun z=>by rw [z,hn] at e; cases e
  rw [AH hb]
  exact x.kept b u e c
theorem Ey {p:Addr} {o:HO} {ys:List V} (hy:H p = some (.lst ys)):Kept (fun q=>q = p) H (upd H p o):=fun b u e c=>by
 by_cases hb:b = p
 ·subst hb
  rcases c with c | c
  ·exact absurd rfl c
  ·rw [hy] at e; cases e; cases c
 ·rw [AH hb]; exact e
theorem Post.ds {vs:List V} {ds:List D} (x:Post K O fp H ρ ρ1 σ σ1 L fp1 H1) (q:As (NN fp O) H vs ds):As (NN fp1 (ad O L)) H1 vs ds:=
 q.tr (M:=Fp fp) (fun p z=>.inl z) x.kept fun p z=>by
  rcases z with z | z | z
  ·exact (x.new p (.inr z)).imp (fun y=>.inl y) id
  ·exact .inl (.inr z)
  ·exact (x.new p (.inl z)).imp (fun y=>.inl y) id
theorem G7:∀ {vs ws:List V} {ds es:List D},As N H vs ds→As N H ws es→As N H (vs ++ ws) (ds ++ es)
 | [],_,[],_,_,q=>q
 | [],_,_ :: _,_,r,_=>by simp only [As] at r
 | _ :: _,_,[],_,r,_=>by simp only [As] at r
 | v :: vs,ws,d :: ds,es,r,q=>⟨r.1,G7 r.2 q⟩
theorem Sq {n:Nat} {d:D} {bs:List D} {x:V} (q:RepA N H x d) (e:MP n d = some bs):∃ vs,Wz K n x H vs∧As N H vs bs:=by
 cases n with
 | zero =>
  simp only [MP,Option.some.injEq] at e
  subst e
  exact ⟨[x],rfl,q,trivial⟩
 | succ n =>
  simp only [MP] at e
  cases d with
  | tup ds =>
   dsimp only at e
   split at e
   ·rename_i hl
    cases e
    cases q with
    | tup h hz hl' hr=>exact ⟨_,⟨_,rfl,.inl (.inl h),by rw [hl']; exact hl⟩,As.mk hl' hr⟩
   ·cases e
  | _=>simp at e
theorem Ti {r:R} {v:V} {a:A} {n:Option Nat} {Lt:List Addr} (hn:n = nameOf r) (hr:Rel K ρ1 σ H1 (ad O L) fp1) (q:RR K (NN fp1 (ad O L)) H1 σ v r L) (e:peek ρ1 r = some a) (p:Post K (ad O L) fp1 H1 (J.lock ρ1 n) ρ2 σ σ2 Lt fp2 H2) :
  ∃ L',Aq K (NN fp2 (ad (ad O L) Lt)) H2 v a L':=by
 cases r with
 | val b =>
  simp only [peek,Option.some.injEq] at e
  subst e
  refine ⟨L,Aq.tr (M:=Fp fp1) (fun p z=>.inl z) p.kept (fun x z=>?_) (fun x hx z=>?_) q⟩
  ·rcases z with z | z | z
   ·exact (p.new x (.inr z)).imp (fun y=>.inl y) id
   ·exact .inl (.inr z)
   ·exact (p.new x (.inl z)).imp (fun y=>.inl y) id
  ·obtain ⟨i,hi⟩:=z
   exact hr.off i x hi (.inr hx)
 | ref i =>
  subst hn
  simp only [peek] at e
  split at e
  ·rename_i st b hb
   cases e
   obtain ⟨a',e2,es,ea⟩:=p.stab i .ro a (by rw [Ep,hb]; simp [nameOf]) (by decide)
   cases ea rfl
   obtain ⟨v',h1,h2⟩:=p.rel.slot i _ _ e2
   rw [es,q.2] at h1
   cases h1
   exact ⟨_,h2⟩
  ·cases e
theorem KR {it:MI} {pat:Nat} {c:MT} {e:ME} {Q:VK} (h:tE K (A4 it pat c e) σ H Q):tLc (tI K it) (Wz K pat) (tT K c) (tE K e) σ H Q:=by
 obtain ⟨ρ,O,fp,rl,x,ρ',h0,k⟩:=h
 simp only [A4,bind_eq_some_iff] at h0
 obtain ⟨⟨ds,n,ρ1⟩,e1,h0⟩:=h0
 split at h0
 case isFalse=>cases h0
 rename_i hz
 simp only [map_eq_some_iff] at h0
 obtain ⟨⟨es,ρf⟩,e2,e3⟩:=h0
 cases e3
 refine ⟨ρ,O,fp,rl,ds,n,ρ1,e1,fun J H1 yy acc hacc=>?_⟩
 obtain ⟨r,v,a,L,fp1,p1,q1,hn,ha,hJ⟩:=yy
 have hlk:∀ i,n = some i→∃ st,ρ1[i]? = some (some (st,a)):=fun i hi=>by
  rw [hn] at hi
  cases r with
  | val b=>simp [nameOf] at hi
  | ref j =>
   simp only [nameOf,Option.some.injEq] at hi
   subst hi
   simp only [peek] at ha
   split at ha
   ·rename_i st b hb
    cases ha
    exact ⟨st,hb⟩
   ·cases ha
 have rl1:Rel K (lock ρ1 n) σ H1 (ad O L) fp1:=p1.rel.lock
 have st0:Post K (ad O L) fp1 H1 (lock ρ1 n) (lock ρ1 n) σ σ [acc] fp1 (upd H1 acc (.lst [])):=rl1.post.more (Cj hacc) (by simp) fun p hp=>by
  have:p = acc:=by simpa using hp
  subst this
  exact .inr ⟨hacc,by rw [AK]; simp⟩
 refine ⟨fun i m ys H'=>m = ds.length - i∧i≤ds.length∧H' acc = some (.lst ys)∧ys.length≤i∧∃ ρ' fp' done rest,Post K (ad O L) fp1 H1 (lock ρ1 n) ρ' σ σ [acc] fp' H'∧As (NN fp' (ad (ad O L) [acc])) H' ys done∧DL pat c e (ds.drop i) ρ' = some (rest,ρf)∧es = done ++ rest,
  ⟨ds.length,by simp,zero_le _,AK,by simp,lock ρ1 n,fp1,[],es,st0,trivial,by simpa using e2,rfl⟩,?_⟩
 rintro i m ys H2 ⟨rfl,hi,hy,hyl,ρ2,fp2,done,rest,p2,qd,e2,ees⟩
 refine ⟨hy,?_⟩
 obtain ⟨L',src⟩:=Ti hn p1.rel q1 ha p2
 have offacc:∀ j,acc ∉ fp2 j:=fun j z=>p2.rel.off j acc z (.inr (by simp))
 by_cases hlt:i < ds.length
 ·obtain ⟨go,stop,yld⟩:=hJ _ _ ⟨⟨L',src⟩,fun _ _ h=>p2.kept _ _ h (.inr rfl)⟩
  refine .inr ⟨go i hlt,fun x H3 y=>?_⟩
  have hd:ds[i]? = some ds[i]:=by simp [hlt]
  obtain ⟨sm,qx0⟩:=yld i x H3 _ y hd
  have qx:RepA (NN fp2 (ad (ad O L) [acc])) H3 x ds[i]:=qx0
  have p3:Post K (ad O L) fp1 H1 (lock ρ1 n) ρ2 σ σ [acc] fp2 H3:=p2.more sm p2.nd fun p hp=>.inl hp
  have hy3:H3 acc = some (.lst ys):=sm _ _ hy
  have qd3:As (NN fp2 (ad (ad O L) [acc])) H3 ys done:=qd.tr (M:=fun _=>False) (fun _ z=>z.elim) (EG.kept sm) fun p z=>.inl z
  rw [drop_eq_getElem_cons hlt] at e2
  simp only [DL,bind_eq_some_iff] at e2
  obtain ⟨bs,eb,⟨b,ρ3⟩,ec,e4⟩:=e2
  obtain ⟨vs,hu,hvs⟩:=Sq (K:=K) qx eb
  have rb:=p3.rel.block hvs
  refine ⟨vs,hu,_,_,_,rb,b,ρ3,ec,fun fp4 H4 p4=>?_⟩
  have keep:∀ {ρ5:Ro} {fp5:Nat→List Addr} {H5:Hp},Post K (ad (ad O L) [acc]) (sh bs.length fp2) H3 (bs.map own ++ ρ2) ρ5 (vs.map some ++ σ) (vs.map some ++ σ) [] fp5 H5 →
    H5 acc = some (.lst ys)∧Post K (ad O L) fp1 H1 (lock ρ1 n) (ρ5.drop bs.length) σ σ [acc] (fun j=>fp5 (j + bs.length)) H5∧As (NN (fun j=>fp5 (j + bs.length)) (ad (ad O L) [acc])) H5 ys done:=fun {ρ5 fp5 H5} p5=>by
   have u:=p5.unblock hvs.len
   refine ⟨p5.kept _ _ hy3 (.inl fun z=>?_),p3.then u,Jb (fun p z=>FU.mpr z) (u.ds qd3)⟩
   obtain ⟨j,z⟩:=Nq.mp z
   exact offacc j z
  cases b with
  | false =>
   simp only [false_eq_true,if_false] at e4
   dsimp only
   rw [if_neg Bool.false_ne_true]
   obtain ⟨h1,h2,h3⟩:=keep p4
   exact ⟨ds.length - (i + 1),by lia,rfl,hlt,h1,by lia,_,_,done,rest,h2,h3,e4,ees⟩
  | true =>
   simp only [if_true,bind_eq_some_iff,map_eq_some_iff] at e4
   obtain ⟨⟨r5,ρ5⟩,e5,⟨d6,ρ6⟩,e6,⟨rest',ρ7⟩,e7,e8⟩:=e4
   cases e8
   dsimp only
   rw [if_pos rfl]
   refine ⟨ρ3,_,fp4,p4.rel0,r5,ρ5,e5,fun y H5 yy=>?_⟩
   obtain ⟨L5,fp5,p5,q5⟩:=yy
   obtain ⟨fp6,p6,q6⟩:=DW p5 q5 e6
   obtain ⟨h1,h2,h3⟩:=keep (p4.next p6)
   have hacc1:H1 acc = none:=hacc
   refine ⟨h1,lt_of_lt_of_le (Nat.lt_of_le_of_lt hyl hlt) hz,ds.length - (i + 1),by lia,rfl,hlt,AK,by simp; lia,_,_,done ++ [d6],rest',h2.updT (by simp) hacc1 h1,?_,e7,by rw [ees]; simp⟩
   have tr:∀ {ws:List V} {fs:List D},As (NN (fun j=>fp6 (j + bs.length)) (ad (ad O L) [acc])) H5 ws fs→As (NN (fun j=>fp6 (j + bs.length)) (ad (ad O L) [acc])) (upd H5 acc (.lst (ys ++ [y]))) ws fs:=fun q =>
    q.tr (M:=fun q=>q = acc) (fun b z=>by rw [z]; exact .inr (.inr (by simp))) (Ey h1) fun p z=>.inl z
   refine tr (G7 h3 ⟨Ft (fun p z=>?_) q6,trivial⟩)
   exact FU.mpr (z.imp (fun ⟨j,q⟩=>⟨_,q⟩) id)
 ·have:i = ds.length:=by lia
  subst this
  obtain ⟨go,stop,yld⟩:=hJ _ _ ⟨⟨L',src⟩,fun _ _ h=>p2.kept _ _ h (.inr rfl)⟩
  simp only [List.drop_length,DL,Option.some.injEq,Prod.mk.injEq] at e2
  obtain ⟨rfl,rfl⟩:=e2
  refine .inl ⟨stop _ (le_refl _),k _ _ ?_⟩
  have p3:=(p1.then (p2.unlock hlk)).drop
  refine ⟨[acc],fp2,p3,?_⟩
  show Aq _ _ _ _ _ _
  rw [Aq]
  rw [append_nil] at ees
  subst ees
  refine ⟨acc,ys,[],rfl,rfl,hy,le_trans hyl hz,Ao.of (Jb (fun p z=>?_) qd)⟩
  rcases z with z | z | z
  ·exact .inl z
  ·exact .inr (.inl (.inl z))
  ·exact .inr (.inr z)
end
noncomputable def Fo:List (Own × A)→List A→Ro
 | (st,_) :: args,a :: as=>(if st = .own then none else some (st,a)) :: Fo args as
 | [],_=>[]
 | _ :: _,[]=>[]
noncomputable def WG (K:Frag) (O:Addr→Prop) (fp:Nat→List Addr) (H:Hp) (args:List (Own × A)) (as':List A) (vs:List V) (a:A) (v:V) (H':Hp):Prop:=
 ∃ L fp',Post K O fp H (args.map some) (Fo args as') (vs.map some) (vs.map some) L fp' H'∧Aq K (NN fp' (ad O L)) H' v a L
noncomputable def spJ (K:Frag) (Φ:Fn) (np:Nat):Sp:=fun vs H Q _=>∃ args O fp,vs.length = np∧Rel K (args.map some) (vs.map some) H O fp∧∃ a as',Φ args = some (a,as')∧∀ v H',WG K O fp H args as' vs a v H'→Q v H'
theorem Iz:∀ {args:List (Own × A)} {as:List A} {j:Nat} {st:Own} {a:A},(Fo args as)[j]? = some (some (st,a))→∃ a0,args[j]? = some (st,a0)∧st ≠ .own∧as[j]? = some a
 | [],_,j,st,a,h=>by simp [Fo] at h
 | _ :: _,[],j,st,a,h=>by simp [Fo] at h
 | (st0,a0) :: args,b :: as,0,st,a,h=>by
  simp only [Fo,getElem?_cons_zero,Option.some.injEq] at h
  split at h
  ·cases h
  ·rename_i hs
   cases h
   exact ⟨a0,rfl,hs,rfl⟩
 | (st0,a0) :: args,b :: as,j + 1,st,a,h=>by
  simp only [Fo,getElem?_cons_succ] at h
  obtain ⟨a1,h1,h2,h3⟩:=Iz h
  exact ⟨a1,by simpa using h1,h2,by simpa using h3⟩
theorem Ib:∀ {args:List (Own × A)} {as:List A} {j:Nat} {st:Own} {a0 a:A},args[j]? = some (st,a0)→st ≠ .own→as[j]? = some a→(Fo args as)[j]? = some (some (st,a))
 | [],_,j,st,a0,a,h,_,_=>by simp at h
 | _ :: _,[],j,st,a0,a,_,_,h=>by simp at h
 | (st0,b0) :: args,b :: as,0,st,a0,a,h,hs,h2=>by
  simp at h h2
  obtain ⟨rfl,rfl⟩:=h
  subst h2
  simp [Fo,hs]
 | (st0,b0) :: args,b :: as,j + 1,st,a0,a,h,hs,h2=>by
  simp only [Fo,getElem?_cons_succ]
  exact Ib (by simpa using h) hs (by simpa using h2)
theorem IA:∀ {args:List (Own × A)} {as:List A},(Fo args as).length = min args.length as.length
 | [],_=>by simp [Fo]
 | _ :: _,[]=>by simp [Fo]
 | (st,_) :: args,a :: as=>by simp [Fo,IA]
section
variable {K:Frag} {ρ ρ' ρ1 ρ2:Ro} {σ σ' σ1 σ2:St} {H H' H1 H2:Hp} {O O' N:Addr→Prop} {fp fp' fp1 fp2:Nat→List Addr} {L L1:List Addr}
theorem LV {args:List (Own × A)} {vs:List V} {n:Nat} (hl:vs.length = args.length) (x:Post K O fp H (args.map some ++ List.replicate n none) ρ' (vs.map some ++ List.replicate n none) σ' L fp' H') :
  ∃ fp2,Post K O fp H (args.map some) (Fo args ((ρ'.take args.length).map Jl)) (vs.map some) (vs.map some) L fp2 H'∧∀ p,NN fp2 (ad O L) p→NN fp' (ad O L) p:=by
 have hlen:args.length ≤ ρ'.length:=by
  have:=x.rel.len
  have:=x.ln
  simp at this
  lia
 have a0:∀ {j:Nat} {st:Own} {a:A},args[j]? = some (st,a)→(args.map some ++ List.replicate n (none:Slot))[j]? = some (some (st,a)):=fun {j st a} e=>by
  rw [getElem?_append_left (by simpa using Aw e),getElem?_map,e]; rfl
 have v0:∀ {j:Nat},j < args.length→(vs.map some ++ List.replicate n (none:Option V))[j]? = (vs.map some)[j]?:=fun {j} h=>by
  rw [getElem?_append_left (by rw [length_map,hl]; exact h)]
 -- where a lent name stands
 have key:∀ {j:Nat} {st:Own} {a:A},args[j]? = some (st,a)→st ≠ .own→∃ a',ρ'[j]? = some (some (st,a')) ∧ σ'[j]? = (vs.map some)[j]? ∧ (st = .ro→a' = a)∧((ρ'.take args.length).map Jl)[j]? = some a':=fun {j st a} e h=>by
  obtain ⟨a',e1,e2,e3⟩:=x.stab j st a (a0 e) h
  refine ⟨a',e1,by rw [e2,v0 (Aw e)],e3,?_⟩
  rw [getElem?_map,List.getElem?_take_of_lt (Aw e),e1]
  rfl
 let fp2:Nat→List Addr:=fun j=>match (Fo args ((ρ'.take args.length).map Jl))[j]? with
  | some (some _)=>fp' j
  | _=>[]
 have sub:∀ j p,p∈fp2 j→p∈fp' j∧∃ st a,(Fo args ((ρ'.take args.length).map Jl))[j]? = some (some (st,a)):=fun j p h=>by
  simp only [fp2] at h
  split at h
  ·rename_i y e
   exact ⟨h,y.1,y.2,e⟩
  ·simp at h
 have nn:∀ p,NN fp2 (ad O L) p→NN fp' (ad O L) p:=fun p z=>z.imp (fun ⟨j,q⟩=>⟨j,(sub j p q).1⟩) id
 refine ⟨fp2,⟨⟨?_,fun j st a e=>?_,fun j h=>?_,fun j=>?_,fun i j p h1 h2=>x.rel.inj i j p (sub i p h1).1 (sub j p h2).1,fun j p h=>x.rel.off j p (sub j p h).1,fun p z=>x.rel.al p (nn p z)⟩,x.nd,x.lo,fun p hp=>x.new p (hp.imp id fun ⟨j,q⟩=>⟨j,(sub j p q).1⟩),x.kept,rfl,fun j st a e h=>?_⟩,nn⟩
 ·rw [IA]; simp [hl]; lia
 ·obtain ⟨a0,e1,e2,e3⟩:=Iz e
  obtain ⟨a',e4,e5,_,e6⟩:=key e1 e2
  rw [e3] at e6; cases e6
  obtain ⟨v,e7,q⟩:=x.rel.slot j st a e4
  refine ⟨v,by rw [← e5]; exact e7,?_⟩
  have:fp2 j = fp' j:=by simp only [fp2,e]
  rw [this]
  exact Dq nn q
 ·simp only [fp2]
  split
  ·rename_i y e
   exact absurd e (h y.1 y.2)
  ·rfl
 ·simp only [fp2]
  split
  ·exact x.rel.nd j
  ·exact nodup_nil
 ·rw [getElem?_map] at e
  cases q:args[j]? with
  | none=>rw [q] at e; cases e
  | some y =>
   rw [q] at e
   cases e
   obtain ⟨a',e4,e5,e6,e7⟩:=key q h
   exact ⟨a',Ib q h e7,rfl,e6⟩
theorem Rel.start {args:List (Own × A)} {vs:List V} (r:Rel K (args.map some) (vs.map some) H O fp) (n:Nat):Rel K (args.map some ++ List.replicate n none) (vs.map some ++ List.replicate n none) H O fp where
 len:=by have:=r.len; simp at this ⊢; exact this
 slot:=fun i st a e=>by
  by_cases hi:i < args.length
  ·rw [getElem?_append_left (by simpa using hi)] at e
   obtain ⟨v,e1,q⟩:=r.slot i st a e
   exact ⟨v,by rw [getElem?_append_left (by simpa using Aw e1)]; exact e1,q⟩
  ·rw [getElem?_append_right (by simpa using hi),List.getElem?_replicate] at e
   split at e <;> cases e
 out:=fun i h=>r.out i fun st a e=>h st a (by rw [getElem?_append_left (by simpa using Aw e)]; exact e)
 nd:=r.nd
 inj:=r.inj
 off:=r.off
 al:=r.al
theorem Nk {np nn:Nat} {b:MS} {vs:List V} {Q:VK} {E:XK} (h:spJ K (fnM np nn b) np vs H Q E):tS K b { nx:=fun _ H'=>Q .non H',rt:=Q } (vs.map some ++ List.replicate (nn - np) none) H:=by
 obtain ⟨args,O,fp,hl,rl,a,as',e,k⟩:=h
 have hl2:vs.length = args.length:=by have:=rl.len; simp at this; exact this.symm
 simp only [fnM] at e
 split at e
 ·rename_i ha
  simp only [bind_eq_some_iff] at e
  obtain ⟨f,e1,e2⟩:=e
  refine ⟨_,O,fp,rl.start (nn - np),f,e1,?_⟩
  cases f with
  | next ρ' =>
   cases e2
   intro σ' fp' H' p
   obtain ⟨fp2,p2,_⟩:=LV hl2 p
   rw [ha] at p2
   exact k _ _ ⟨[],fp2,p2,Et .non⟩
  | ret b ρ' =>
   cases e2
   intro σ' v L fp' H' p q
   obtain ⟨fp2,p2,n2⟩:=LV hl2 p
   rw [ha] at p2
   exact k _ _ ⟨L,fp2,p2,Dq n2 q⟩
  | brk ρ'=>cases e2
  | cnt ρ'=>cases e2
 ·cases e
theorem RRs.split:∀ {rs:List R} {vs:List V} {L:List Addr},RRs K N H σ vs rs L→L.Nodup→∃ Ls:Nat→List Addr,(∀ j v r,vs[j]? = some v→rs[j]? = some r→RR K N H σ v r (Ls j))∧(∀ j p,p∈Ls j→p∈L)∧(∀ j,(Ls j).Nodup) ∧
  (∀ i j p,p∈Ls i→p∈Ls j→i = j)∧vs.length = rs.length∧∀ j,rs.length≤j→Ls j = []
 | [],[],L,q,nd=>⟨fun _=>[],fun j v r h=>by simp at h,fun j p h=>by simp at h,fun _=>nodup_nil,fun i j p h=>by simp at h,rfl,fun _ _=>rfl⟩
 | [],_ :: _,_,q,_=>by simp only [RRs] at q
 | _ :: _,[],_,q,_=>by simp only [RRs] at q
 | r :: rs,v :: vs,L,q,nd=>by
  simp only [RRs] at q
  obtain ⟨L1,L2,rfl,q1,q2⟩:=q
  obtain ⟨n1,n2,n3⟩:=nodup_append.mp nd
  obtain ⟨Ls,h1,h2,h3,h4,h5,h6⟩:=RRs.split q2 n2
  refine ⟨fun j=>match j with | 0=>L1 | j + 1=>Ls j,fun j w s e1 e2=>?_,fun j p h=>?_,fun j=>?_,fun i j p e1 e2=>?_,by simp [h5],fun j hj=>?_⟩
  ·cases j with
   | zero=>simp at e1 e2; subst e1; subst e2; exact q1
   | succ j=>exact h1 j w s (by simpa using e1) (by simpa using e2)
  ·cases j with
   | zero=>exact mem_append_left _ h
   | succ j=>exact mem_append_right _ (h2 j p h)
  ·cases j with
   | zero=>exact n1
   | succ j=>exact h3 j
  ·cases i with
   | zero =>
    cases j with
    | zero=>rfl
    | succ j=>exact absurd rfl (n3 p e1 p (h2 j p e2))
   | succ i =>
    cases j with
    | zero=>exact absurd rfl (n3 p e2 p (h2 i p e1))
    | succ j=>rw [h4 i j p e1 e2]
  ·cases j with
   | zero=>simp at hj
   | succ j=>exact h6 j (by simpa using hj)
theorem Er:∀ {rs:List R} {j i:Nat},rs[j]? = some (.ref i)→i∈refs rs
 | [],j,i,h=>by simp at h
 | .ref k :: rs,0,i,h=>by simp at h; cases h; simp [refs]
 | .val a :: rs,0,i,h=>by simp at h
 | .ref k :: rs,j + 1,i,h=>by simp only [refs]; exact mem_cons_of_mem _ (Er (by simpa using h))
 | .val a :: rs,j + 1,i,h=>by simp only [refs]; exact Er (by simpa using h)
theorem IH:∀ {rs:List R},(refs rs).Nodup→∀ {i j k:Nat},rs[i]? = some (.ref k)→rs[j]? = some (.ref k)→i = j
 | [],_,i,j,k,h,_=>by simp at h
 | .val a :: rs,nd,0,_,_,h,_=>by simp at h
 | .val a :: rs,nd,_ + 1,0,_,_,h=>by simp at h
 | .val a :: rs,nd,i + 1,j + 1,k,h1,h2=>by
  have e:=IH (rs:=rs) nd (i:=i) (j:=j) (k:=k) (by simpa using h1) (by simpa using h2)
  rw [e]
 | .ref a :: rs,nd,0,0,_,_,_=>rfl
 | .ref a :: rs,nd,0,j + 1,k,h1,h2=>by
  simp at h1; cases h1
  simp only [refs,nodup_cons] at nd
  exact absurd (Er (by simpa using h2)) nd.1
 | .ref a :: rs,nd,i + 1,0,k,h1,h2=>by
  simp at h2; cases h2
  simp only [refs,nodup_cons] at nd
  exact absurd (Er (by simpa using h1)) nd.1
 | .ref a :: rs,nd,i + 1,j + 1,k,h1,h2=>by
  simp only [refs,nodup_cons] at nd
  have e:=IH (rs:=rs) nd.2 (i:=i) (j:=j) (k:=k) (by simpa using h1) (by simpa using h2)
  rw [e]
theorem IM {i k:Nat} {a:A}:(OX ρ k a)[i]? = if i = k then (match ρ[i]? with | some (some (st,_))=>some (some (st,a)) | x=>x) else ρ[i]?:=by
 unfold OX
 split
 ·rename_i st b e
  by_cases h:i = k
  ·subst h
   rw [getElem?_set_self (Aw e),if_pos rfl,e]
  ·rw [getElem?_set_ne (Ne.symm h),if_neg h]
 ·rename_i hn
  by_cases h:i = k
  ·subst h
   rw [if_pos rfl]
   split
   ·rename_i st b e
    exact absurd e (hn st b)
   ·rfl
  ·rw [if_neg h]
theorem Ek:∀ {rs:List R} {as:List A} {ρ:Ro} {i:Nat},i ∉ refs rs→(back rs as ρ)[i]? = ρ[i]?
 | [],as,ρ,i,_=>by cases as <;> rfl
 | .ref k :: rs,[],ρ,i,_=>rfl
 | .val k :: rs,[],ρ,i,_=>rfl
 | .ref k :: rs,a :: as,ρ,i,h=>by
  simp only [refs,mem_cons,not_or] at h
  simp only [back]
  rw [Ek h.2,IM,if_neg h.1]
 | .val k :: rs,a :: as,ρ,i,h=>by
  simp only [refs] at h
  simp only [back]
  exact Ek h
theorem Gd:∀ {rs:List R} {as:List A} {ρ:Ro} {i j:Nat} {st:Own} {b a:A},(refs rs).Nodup→rs[j]? = some (.ref i)→as[j]? = some a → ρ[i]? = some (some (st,b))→(back rs as ρ)[i]? = some (some (st,a))
 | [],as,ρ,i,j,st,b,a,_,h,_,_=>by simp at h
 | _ :: _,[],ρ,i,j,st,b,a,_,_,h,_=>by simp at h
 | .ref k :: rs,c :: as,ρ,i,0,st,b,a,nd,h1,h2,h3=>by
  simp at h1 h2
  cases h1; subst h2
  simp only [refs,nodup_cons] at nd
  simp only [back]
  rw [Ek nd.1,IM,if_pos rfl,h3]
 | .val k :: rs,c :: as,ρ,i,0,st,b,a,nd,h1,h2,h3=>by simp at h1
 | .ref k :: rs,c :: as,ρ,i,j + 1,st,b,a,nd,h1,h2,h3=>by
  simp only [refs,nodup_cons] at nd
  simp only [back]
  have hk:i≠k:=by
   rintro rfl
   exact nd.1 (Er (by simpa using h1))
  exact Gd nd.2 (by simpa using h1) (by simpa using h2) (by rw [IM,if_neg hk]; exact h3)
 | .val k :: rs,c :: as,ρ,i,j + 1,st,b,a,nd,h1,h2,h3=>by
  simp only [refs] at nd
  simp only [back]
  exact Gd nd (by simpa using h1) (by simpa using h2) h3
theorem HR:∀ {rs:List R} {as:List A} {ρ:Ro},(back rs as ρ).length = ρ.length
 | [],as,ρ=>by cases as <;> rfl
 | .ref k :: rs,[],ρ=>rfl
 | .val k :: rs,[],ρ=>rfl
 | .ref k :: rs,a :: as,ρ=>by
  simp only [back]
  rw [HR]
  unfold OX
  split <;> simp
 | .val k :: rs,a :: as,ρ=>by simp only [back]; exact HR
theorem args_get:∀ {rs:List R} {args:List (Own × A)},EH ρ rs = some args→args.length = rs.length∧∀ (j:Nat) (r:R),rs[j]? = some r→∃ y,args[j]? = some y∧Gb ρ r = some y
 | [],args,h=>by
  simp only [EH,Option.some.injEq] at h
  subst h
  exact ⟨rfl,fun j r h=>by simp at h⟩
 | r :: rs,args,h=>by
  simp only [EH,bind_eq_some_iff,map_eq_some_iff] at h
  obtain ⟨y,h1,ys,h2,rfl⟩:=h
  obtain ⟨e1,e2⟩:=args_get h2
  refine ⟨by simp [e1],fun j s hj=>?_⟩
  cases j with
  | zero=>simp at hj; subst hj; exact ⟨y,rfl,h1⟩
  | succ j=>exact e2 j s (by simpa using hj)
theorem Ej {i:Nat} {y:Own × A} (h:Gb ρ (.ref i) = some y):∃ st,ρ[i]? = some (some (st,y.2))∧y.1 ≠ .own∧(st = .ro→y.1 = .ro):=by
 simp only [Gb] at h
 split at h
 ·rename_i a e
  cases h
  exact ⟨_,e,fun z=>(by cases z),fun _=>rfl⟩
 ·rename_i st a hn e
  cases h
  refine ⟨_,e,fun z=>(by cases z),fun z=>?_⟩
  exact (hn z).elim
 ·cases h
end
section
variable {K:Frag} {ρ ρ' ρ1 ρ2:Ro} {σ σ' σ1 σ2:St} {H H' H1 H2:Hp} {O O' N:Addr→Prop} {fp fp' fp1 fp2:Nat→List Addr} {L L1:List Addr}
noncomputable def fpC (rs:List R) (Ls fp1:Nat→List Addr):Nat→List Addr:=fun j=>match rs[j]? with
 | some (.val _)=>Ls j
 | some (.ref i)=>fp1 i
 | none=>[]
noncomputable def ixR (rs:List R) (i:Nat):Option Nat:=rs.findIdx? fun r=>match r with
 | .ref k=>k == i
 | .val _=>false
theorem Gs {rs:List R} {i j:Nat} (h:ixR rs i = some j):rs[j]? = some (.ref i):=by
 unfold ixR at h
 obtain ⟨hj,h1,_⟩:=List.findIdx?_eq_some_iff_getElem.mp h
 cases e:rs[j] with
 | val a=>rw [e] at h1; simp at h1
 | ref k =>
  rw [e] at h1
  have:k = i:=by simpa using h1
  subst this
  rw [getElem?_eq_getElem hj,e]
theorem Gr {rs:List R} {i:Nat} (h:ixR rs i = none):i ∉ refs rs:=by
 unfold ixR at h
 rw [List.findIdx?_eq_none_iff] at h
 intro hm
 have:∀ {rs:List R},i∈refs rs→R.ref i∈rs:=by
  intro rs
  induction rs with
  | nil=>intro h; simp [refs] at h
  | cons r rs ih =>
   intro h
   cases r with
   | val a=>simp only [refs] at h; exact mem_cons_of_mem _ (ih h)
   | ref k =>
    simp only [refs,mem_cons] at h
    rcases h with rfl | h
    ·exact mem_cons_self
    ·exact mem_cons_of_mem _ (ih h)
 have:=h _ (this hm)
 simp at this
theorem Tt {Φ:Fn} {np:Nat} {m:MA} {Q:VK} {E:XK} (hnp:∀ args y,Φ args = some y→args.length = np) (h:tE K (Af Φ m) σ H Q):Q7 (spJ K Φ np) [] E (tA K m) σ H Q:=by
 obtain ⟨ρ,O,fp,rl,x,ρ',e,k⟩:=h
 simp only [Af,bind_eq_some_iff] at e
 obtain ⟨⟨rs,ρ1⟩,e1,args,e2,e3⟩:=e
 split at e3
 case isFalse=>cases e3
 rename_i hnd
 simp only [map_eq_some_iff] at e3
 obtain ⟨⟨a,as'⟩,e3,e4⟩:=e3
 cases e4
 refine ⟨ρ,O,fp,rl,rs,ρ1,e1,fun vs H1 yy=>?_⟩
 obtain ⟨L,fp1,p,q⟩:=yy
 obtain ⟨Ls,s1,s2,s3,s4,s5,s6⟩:=q.split p.nd
 obtain ⟨g1,g2⟩:=args_get e2
 rw [append_nil]
 have rs_of:∀ {j:Nat} {y:Own × A},args[j]? = some y→∃ r v,rs[j]? = some r∧vs[j]? = some v∧Gb ρ1 r = some y:=fun {j y} hy=>by
  have hj:j < rs.length:=by rw [← g1]; exact Aw hy
  obtain ⟨y',h1,h2⟩:=g2 j rs[j] (by simp [hj])
  rw [hy] at h1; cases h1
  exact ⟨rs[j],vs[j]'(by rw [s5]; exact hj),by simp [hj],by simp,h2⟩
 -- what goes with the call
 have fpc:∀ j pp,pp∈fpC rs Ls fp1 j→(∃ a,rs[j]? = some (.val a)∧pp∈Ls j)∨(∃ i,rs[j]? = some (.ref i)∧pp∈fp1 i):=fun j pp hp=>by
  unfold fpC at hp
  split at hp
  ·rename_i a e; exact .inl ⟨a,e,hp⟩
  ·rename_i i e; exact .inr ⟨i,e,hp⟩
  ·simp at hp
 have cN:∀ pp,Fp (fpC rs Ls fp1) pp→NN fp1 (ad O L) pp:=fun pp ⟨j,hp⟩=>by
  rcases fpc j pp hp with ⟨_,_,hp⟩ | ⟨i,_,hp⟩
  ·exact .inr (.inr (s2 j pp hp))
  ·exact .inl ⟨i,hp⟩
 have oN:∀ pp,O pp→¬ Fp (fpC rs Ls fp1) pp:=fun pp ho ⟨j,hp⟩=>by
  rcases fpc j pp hp with ⟨_,_,hp⟩ | ⟨i,_,hp⟩
  ·exact p.lo pp (s2 j pp hp) ho
  ·exact p.rel.off i pp hp (.inl ho)
 have kN:∀ i pp,pp∈fp1 i→i ∉ refs rs→¬ Fp (fpC rs Ls fp1) pp:=fun i pp hp hi ⟨j,hq⟩=>by
  rcases fpc j pp hq with ⟨_,_,hq⟩ | ⟨i',hr,hq⟩
  ·exact p.rel.off i pp hp (.inr (s2 j pp hq))
  ·have:=p.rel.inj i i' pp hp hq
   subst this
   exact hi (Er hr)
 let OC:Addr→Prop:=fun pp=>NN fp1 (ad O L) pp∧¬ Fp (fpC rs Ls fp1) pp
 have cNN:∀ pp,NN (fpC rs Ls fp1) OC pp→NN fp1 (ad O L) pp:=fun pp z=>z.elim (cN pp) fun z=>z.1
 have relC:Rel K (args.map some) (vs.map some) H1 OC (fpC rs Ls fp1):=by
  refine ⟨by simp [g1,s5],fun j st b hb=>?_,fun j h=>?_,fun j=>?_,fun i j pp h1 h2=>?_,fun j pp hp z=>z.2 ⟨j,hp⟩,fun pp z=>p.rel.al pp (cNN pp z)⟩
  ·rw [getElem?_map] at hb
   cases hy:args[j]? with
   | none=>rw [hy] at hb; cases hb
   | some y =>
    rw [hy] at hb
    cases hb
    obtain ⟨r,v,hr,hv,ha⟩:=rs_of hy
    refine ⟨v,by rw [getElem?_map,hv]; rfl,Dq cNN ?_⟩
    have q1:=s1 j v r hv hr
    cases r with
    | val c =>
     simp only [Gb,Option.some.injEq] at ha
     cases ha
     have:fpC rs Ls fp1 j = Ls j:=by simp [fpC,hr]
     rw [this]
     exact q1
    | ref i =>
     obtain ⟨st',h1,h2,_⟩:=Ej ha
     obtain ⟨v',h3,h4⟩:=p.rel.slot i _ _ h1
     rw [q1.2] at h3; cases h3
     have:fpC rs Ls fp1 j = fp1 i:=by simp [fpC,hr]
     rw [this]
     exact h4
  ·unfold fpC
   split
   ·rename_i c e
    obtain ⟨y,hy,_⟩:=g2 j _ e
    exact absurd (by rw [getElem?_map,hy]; rfl) (h y.1 y.2)
   ·rename_i c e
    obtain ⟨y,hy,_⟩:=g2 j _ e
    exact absurd (by rw [getElem?_map,hy]; rfl) (h y.1 y.2)
   ·rfl
  ·unfold fpC
   split
   ·exact s3 j
   ·exact p.rel.nd _
   ·exact nodup_nil
  ·rcases fpc i pp h1 with ⟨c1,r1,z1⟩ | ⟨i1,r1,z1⟩
   ·rcases fpc j pp h2 with ⟨c2,r2,z2⟩ | ⟨i2,r2,z2⟩
    ·exact s4 i j pp z1 z2
    ·exact absurd (.inr (s2 i pp z1)) (p.rel.off i2 pp z2)
   ·rcases fpc j pp h2 with ⟨c2,r2,z2⟩ | ⟨i2,r2,z2⟩
    ·exact absurd (.inr (s2 j pp z2)) (p.rel.off i1 pp z1)
    ·have:=p.rel.inj i1 i2 pp z1 z2
     subst this
     exact IH hnd r1 r2
 refine ⟨args,OC,fpC rs Ls fp1,by rw [s5,← g1]; exact hnp _ _ e3,relC,a,as',e3,fun v H2 ⟨L',fpD,pc,qc⟩=>k v H2 ?_⟩
 -- behind the call
 have hlen:rs.length≤as'.length:=by
  have:=pc.rel.len
  rw [IA] at this
  simp at this
  lia
 let fp2:Nat→List Addr:=fun i=>match ixR rs i with
  | some j=>fpD j
  | none=>fp1 i
 have fp2c:∀ i pp,pp∈fp2 i→(∃ j,rs[j]? = some (.ref i)∧pp∈fpD j)∨(i ∉ refs rs∧pp∈fp1 i):=fun i pp hp=>by
  simp only [fp2] at hp
  split at hp
  ·rename_i j e; exact .inl ⟨j,Gs e,hp⟩
  ·rename_i e; exact .inr ⟨Gr e,hp⟩
 have oOC:∀ pp,O pp→OC pp:=fun pp z=>⟨.inr (.inl z),oN pp z⟩
 have fOC:∀ i pp,pp∈fp1 i→i ∉ refs rs→OC pp:=fun i pp hp hi=>⟨.inl ⟨i,hp⟩,kN i pp hp hi⟩
 have nD:∀ pp,NN fp2 (ad O L') pp→NN fpD (ad OC L') pp:=fun pp z=>by
  rcases z with ⟨i,z⟩ | z | z
  ·rcases fp2c i pp z with ⟨j,_,z⟩ | ⟨hi,z⟩
   ·exact .inl ⟨j,z⟩
   ·exact .inr (.inl (fOC i pp z hi))
  ·exact .inr (.inl (oOC pp z))
  ·exact .inr (.inr z)
 have hnew:∀ pp,(pp∈L'∨Fp fpD pp)→NN fp1 (ad O L) pp∨H1 pp = none:=fun pp z=>(pc.new pp z).imp (cN pp) id
 have back1:∀ pp,(Fp (fpC rs Ls fp1) pp∨H1 pp = none)→Fp fp pp∨H pp = none:=fun pp z=>by
  rcases z with ⟨j,z⟩ | z
  ·rcases fpc j pp z with ⟨_,_,z⟩ | ⟨i,_,z⟩
   ·exact p.new pp (.inl (s2 j pp z))
   ·exact p.new pp (.inr ⟨i,z⟩)
  ·cases e:H pp with
   | none=>exact .inr rfl
   | some o =>
    by_cases hf:Fp fp pp
    ·exact .inl hf
    ·rw [p.kept pp o e (.inl hf)] at z; cases z
 have slot2:∀ i st b,(back rs as' ρ1)[i]? = some (some (st,b))→(∃ j,ixR rs i = some j∧rs[j]? = some (.ref i)∧as'[j]? = some b∧∃ c,ρ1[i]? = some (some (st,c)))∨(ixR rs i = none∧i ∉ refs rs ∧ ρ1[i]? = some (some (st,b))):=fun i st b hb=>by
  cases e:ixR rs i with
  | some j =>
   have hr:=Gs e
   have hj:j < rs.length:=Aw hr
   obtain ⟨y,hy,ha⟩:=g2 j _ hr
   obtain ⟨st',h1,_,_⟩:=Ej ha
   have hb':=Gd (as:=as') (a:=as'[j]'(by lia)) hnd hr (by simp) h1
   rw [hb] at hb'
   cases hb'
   exact .inl ⟨j,rfl,hr,by simp,_,h1⟩
  | none =>
   have hi:=Gr e
   rw [Ek hi] at hb
   exact .inr ⟨rfl,hi,hb⟩
 have rel2:Rel K (back rs as' ρ1) σ H2 (ad O L') fp2:=by
  refine ⟨by rw [HR]; exact p.rel.len,fun i st b hb=>?_,fun i h=>?_,fun i=>?_,fun i1 i2 pp h1 h2=>?_,fun i pp h z=>?_,fun pp z=>pc.rel.al pp (nD pp z)⟩
  ·rcases slot2 i st b hb with ⟨j,ej,hr,hb2,c,hc⟩ | ⟨ej,hi,hb2⟩
   ·obtain ⟨y,hy,ha⟩:=g2 j _ hr
    obtain ⟨st',h1,h2,_⟩:=Ej ha
    obtain ⟨v',h3,h4⟩:=pc.rel.slot j _ _ (Ib (st:=y.1) (a0:=y.2) hy h2 hb2)
    have hv:vs[j]? = some v':=by
     rw [getElem?_map] at h3
     cases e:vs[j]? with
     | none=>rw [e] at h3; cases h3
     | some w=>rw [e] at h3; cases h3; rfl
    have q1:=s1 j v' _ hv hr
    have:fp2 i = fpD j:=by simp only [fp2,ej]
    exact ⟨v',q1.2,by rw [this]; exact Dq nD h4⟩
   ·obtain ⟨v',h3,h4⟩:=p.rel.slot i _ _ hb2
    have:fp2 i = fp1 i:=by simp only [fp2,ej]
    refine ⟨v',h3,?_⟩
    rw [this]
    refine h4.tr (M:=Fp (fpC rs Ls fp1)) cN pc.kept (fun pp z=>?_) fun pp hp=>kN i pp hp hi
    rcases z with ⟨i',z⟩ | z | z
    ·rcases fp2c i' pp z with ⟨j,_,z⟩ | ⟨_,z⟩
     ·exact hnew pp (.inr ⟨j,z⟩)
     ·exact .inl (.inl ⟨i',z⟩)
    ·exact .inl (.inr (.inl z))
    ·exact hnew pp (.inl z)
  ·simp only [fp2]
   split
   ·rename_i j ej
    have hr:=Gs ej
    have hj:j < rs.length:=Aw hr
    obtain ⟨y,hy,ha⟩:=g2 j _ hr
    obtain ⟨st',h1,_,_⟩:=Ej ha
    exact absurd (Gd (as:=as') (a:=as'[j]'(by lia)) hnd hr (by simp) h1) (h _ _)
   ·rename_i ej
    exact p.rel.out i fun st b hb=>h st b (by rw [Ek (Gr ej)]; exact hb)
  ·simp only [fp2]
   split
   ·exact pc.rel.nd _
   ·exact p.rel.nd _
  ·rcases fp2c i1 pp h1 with ⟨j1,r1,z1⟩ | ⟨r1,z1⟩
   ·rcases fp2c i2 pp h2 with ⟨j2,r2,z2⟩ | ⟨r2,z2⟩
    ·have:=pc.rel.inj j1 j2 pp z1 z2
     subst this
     rw [r1] at r2; cases r2; rfl
    ·exact absurd (.inl (fOC i2 pp z2 r2)) (pc.rel.off j1 pp z1)
   ·rcases fp2c i2 pp h2 with ⟨j2,r2,z2⟩ | ⟨r2,z2⟩
    ·exact absurd (.inl (fOC i1 pp z1 r1)) (pc.rel.off j2 pp z2)
    ·exact p.rel.inj i1 i2 pp z1 z2
  ·rcases fp2c i pp h with ⟨j,r1,z1⟩ | ⟨r1,z1⟩
   ·exact pc.rel.off j pp z1 (z.imp (oOC pp) id)
   ·rcases z with z | z
    ·exact p.rel.off i pp z1 (.inl z)
    ·exact pc.lo pp z (fOC i pp z1 r1)
 refine ⟨L',fp2,⟨rel2,pc.nd,fun pp hp z=>pc.lo pp hp (oOC pp z),fun pp hp=>?_,p.kept.trans pc.kept fun pp z=>back1 pp (.inl z),rfl,p.stab.trans fun i st b hb hs=>?_⟩,Dq nD qc⟩
 ·rcases hp with hp | ⟨i,hp⟩
  ·exact back1 pp (pc.new pp (.inl hp))
  ·rcases fp2c i pp hp with ⟨j,_,z⟩ | ⟨_,z⟩
   ·exact back1 pp (pc.new pp (.inr ⟨j,z⟩))
   ·exact p.new pp (.inr ⟨i,z⟩)
 ·cases e:ixR rs i with
  | none=>exact ⟨b,by rw [Ek (Gr e)]; exact hb,rfl,fun _=>rfl⟩
  | some j =>
   have hr:=Gs e
   have hj:j < rs.length:=Aw hr
   obtain ⟨y,hy,ha⟩:=g2 j _ hr
   obtain ⟨st',h1,h2,h3⟩:=Ej ha
   rw [hb] at h1; cases h1
   refine ⟨_,Gd (as:=as') (a:=as'[j]'(by lia)) hnd hr (by simp) hb,rfl,fun z=>?_⟩
   obtain ⟨a',h4,_,h5⟩:=pc.stab j y.1 y.2 (by rw [getElem?_map,hy]; rfl) h2
   obtain ⟨_,_,_,h6⟩:=Iz h4
   have:as'[j]? = some (as'[j]'(by lia)):=by simp
   rw [this] at h6
   have e5:=h5 (h3 z)
   have e6:as'[j]'(by lia) = a':=Option.some.inj h6
   rw [e6,e5]
end
end J
end
section
namespace J
open PySem PySem.Spec PyProof.Rows L2
noncomputable def JE (X:Cx) (e:Expr) (m:ME):Prop:=PE X e (tE X.K m)
noncomputable def JT (X:Cx) (e:Expr) (m:MT):Prop:=PT X e (tT X.K m)
noncomputable def JW (X:Cx) (e:Expr) (m:MT):Prop:=PW X e (tT X.K m)
noncomputable def JA (X:Cx) (es:List Expr) (m:MA):Prop:=PA X es (tA X.K m)
noncomputable def JI (X:Cx) (tg e:Expr) (m:MI):Prop:=PI X tg e (tI X.K m)
noncomputable def JS (X:Cx) (s:Stmt) (m:MS):Prop:=PS X s (tS X.K m)
noncomputable def JSs (X:Cx) (s:List Stmt) (m:MS):Prop:=PSs X s (tS X.K m)
section
variable {X:Cx} {a b c e:Expr} {es:List Expr} {m m1 m2 m3:ME} {ms:MA} {mt mt2:MT} {mi:MI} {p pos pos':Pos} {x:Str} {s:Stmt} {ss:List Stmt} {w1 w2:MS}
theorem AA {t t':TE} (h:PE X e t) (w:∀ σ H Q,t' σ H Q→t σ H Q):PE X e t':=fun pins s σ H Q I q=>h pins s σ H Q I (w σ H Q q)
theorem FC {t t':TT} (h:PT X e t) (w:∀ σ H Q,t' σ H Q→t σ H Q):PT X e t':=fun pins s σ H Q I q=>h pins s σ H Q I (w σ H Q q)
theorem NU {t t':TT} (h:PW X e t) (w:∀ σ H Q,t' σ H Q→t σ H Q):PW X e t':=fun wh pins s σ H Q I q=>h wh pins s σ H Q I (w σ H Q q)
theorem NL {t t':TA} (h:PA X es t) (w:∀ σ H Q,t' σ H Q→t σ H Q):PA X es t':=fun pp pins s σ H Q I q=>h pp pins s σ H Q I (w σ H Q q)
theorem CG {t t':TS} (h:PS X s t) (w:∀ D σ H,t' D σ H→t D σ H):PS X s t':=fun pins s σ H D I q=>h pins s σ H D I (w D σ H q)
theorem LR {t t':TS} (h:PSs X ss t) (w:∀ D σ H,t' D σ H→t D σ H):PSs X ss t':=fun pins s σ H D I q=>h pins s σ H D I (w D σ H q)
theorem HH {tg:Expr} {t t':TI} (h:PI X tg e t) (w:∀ σ H R,t' σ H R→t σ H R):PI X tg e t':=fun pins s σ H R I q=>h pins s σ H R I (w σ H R q)
theorem UQ (i:Nat) (hN:X.N[i]? = some x) (hv:Vis X.env.scope x) (hd:(x == ("__debug__" : Str)) = false) (hcd:(x == ("__classdict__" : Str)) = false):JE X (.Name x pos) (Ab i):=AA (F0 hN hv hd hcd) fun _ _ _ h=>KS h
theorem Ak {i:Int} {j:Nat}:JE X (.Constant (.int i) j pos) (Ae (.int i)):=AA Qp fun _ _ _ h=>Hc (fun _ _=>.int i) h
theorem EV {b:Bool} {j:Nat}:JE X (.Constant (.bool b) j pos) (Ae (.bl b)):=AA Xf fun _ _ _ h=>Hc (fun _ _=>.bl b) h
theorem Kg {j:Nat}:JE X (.Constant .none j pos) (Ae .non):=AA Vz fun _ _ _ h=>Hc (fun _ _=>.non) h
theorem EM {z:Str} {j:Nat} (hz:z.length≤sizeLine):JE X (.Constant (.str z) j pos) (Ae (.str z)):=AA VE fun _ _ _ h=>Hc (fun _ _=>.str z hz) h
theorem Ke {n:Int} (G:GInt X.mg x n) (hg:Gl X x) (hd:(x == ("__debug__" : Str)) = false):JE X (.Name x pos) (Ae (.int n)):=AA (Sx G rfl hg hd) fun _ _ _ h=>Hc (fun _ _=>.int n) h
theorem B0 (h:JE X e m):JE X e (AW m):=AA h fun _ _ _ h=>Q9 h
theorem Aj:JA X [] Ad:=NL Ei fun _ _ _ h=>Hb h
theorem Ac (hs:starEach (e :: es) X.env = (false,eval e X.env) :: starEach es X.env) (h:JE X e m) (t:JA X es ms):JA X (e :: es) (Aa m ms):=NL (C1 h t hs) fun _ _ _ h=>DG h
noncomputable def r1L (r:V→Hp→VK→Prop):List V→Hp→VK→Prop:=fun xs H Q=>∃ x,xs = [x]∧r x H Q
noncomputable def r2L (r:R2):List V→Hp→VK→Prop:=fun xs H Q=>∃ x y,xs = [x,y]∧r x y H Q
noncomputable def m1L (m:ME):MA:=Aa m Ad
noncomputable def m2L (m m':ME):MA:=Aa m (Aa m' Ad)
theorem two {K:Frag} {f:List A→Option A} {r:R2} (ok:OpN K f (r2L r)) {σ:L2.St} {H:Hp} {Q:VK} (h:tE K (opM f (m2L m1 m2)) σ H Q):tOp r (tE K m1) (tE K m2) σ H Q:=by
 have h1:=DG (JP ok h)
 refine tE.mono h1 fun v H1 h2=>tE.mono (DG h2) fun u H2 h3=>?_
 obtain ⟨x,y,e,q⟩:=Hb h3
 cases e
 exact q
theorem one {K:Frag} {f:List A→Option A} {r:V→Hp→VK→Prop} (ok:OpN K f (r1L r)) {σ:L2.St} {H:Hp} {Q:VK} (h:tE K (opM f (m1L m)) σ H Q):tUn r (tE K m) σ H Q:=by
 refine tE.mono (DG (JP ok h)) fun v H1 h2=>?_
 obtain ⟨x,e,q⟩:=Hb h2
 cases e
 exact q
theorem Av {op:Operator} {f:List A→Option A} {r:R2} (ok:OpN X.K f (r2L r)) (ho:OpR X (binaryOp op) r) (ha:JE X a m1) (hb:JE X b m2):JE X (.BinOp a op b pos) (opM f (m2L m1 m2)):=AA (Xh ho ha hb) fun _ _ _ h=>two ok h
theorem PR {op:UnaryOp} {f:List A→Option A} {r:V→Hp→VK→Prop} (ok:OpN X.K f (r1L r)) (ho:UnR X (unaryOp op) r) (ha:JE X a m):JE X (.UnaryOp op a pos) (opM f (m1L m)):=AA (Xi ho ha) fun _ _ _ h=>one ok h
theorem C0 {op:CmpOp} {f:List A→Option A} {r:R2} (ok:OpN X.K f (r2L r)) (ho:OpR X (compareOp op) r) (hm:behindInMarks op b = false) (ha:JE X a m1) (hb:JE X b m2):JE X (.Compare a [op] [b] pos) (opM f (m2L m1 m2)):=AA (Ss ho ha hb hm) fun _ _ _ h=>two ok h
theorem BL {op:CmpOp} {f:List A→Option A} {r:R2} (ok:OpN X.K f (r2L r)) (ho:OpR X (compareOp op) r) (hm:behindInMarks op b = false) (ha:JE X a m1) (hb:JE X b m2):JT X (.Compare a [op] [b] pos) (AG (opM f (m2L m1 m2))):=
 FC (SM ho ha hb hm) fun _ _ _ h=>two ok (IV h)
theorem AR {f:List A→Option A} {r:R2} (ok:OpN X.K f (r2L r)) (ho:IxR X r) (hs:Nj b) (ha:JE X a m1) (hb:JE X b m2):JE X (.Subscript a b pos) (opM f (m2L m1 m2)):=AA (Xg ho ha hb hs) fun _ _ _ h=>two ok h
theorem AJ {id:String} {f:List A→Option A} {r:List V→Hp→VK→Prop} (ok:OpN X.K f r) (hc:BX X (.builtin id) r) (hm:X.mg x = none) (hv:bootBuiltins x = some (.builtin id)) (hn:x ≠ "__name__") (hdb:(x == ("__debug__" : Str)) = false) (hg:Gl X x)
  (he:starEach (e :: es) X.env = (false,eval e X.env) :: starEach es X.env) (hpl:(backTo pos (starEach es X.env)).any (·.1) = false) (ha:JA X (e :: es) ms):JE X (.Call (.Name x p) (e :: es) [] pos) (opM f ms):=
 AA (OP hc hm hv hn hdb hg he hpl ha) fun _ _ _ h=>JP ok h
theorem Ih {T:String} {f:List A→Option A} {r:List V→Hp→VK→Prop} (ok:OpN X.K f r) (hc:BX X (.type T) r) (hm:X.mg x = none) (hv:bootBuiltins x = some (.type T)) (hn:x ≠ "__name__") (hdb:(x == ("__debug__" : Str)) = false) (hg:Gl X x)
  (he:starEach (e :: es) X.env = (false,eval e X.env) :: starEach es X.env) (hpl:(backTo pos (starEach es X.env)).any (·.1) = false) (ha:JA X (e :: es) ms):JE X (.Call (.Name x p) (e :: es) [] pos) (opM f ms):=
 AA (G6 hc hm hv hn hdb hg he hpl ha) fun _ _ _ h=>JP ok h
theorem EL {op:BoolOp} (h:JE X a m):JE X (.BoolOp op [a] pos) m:=VB h
theorem Ee (ha:JE X a m1) (hb:JE X (.BoolOp .And (b :: es) pos) m2):JE X (.BoolOp .And (a :: b :: es) pos) (andM m1 m2):=AA (Vo ha hb) fun _ _ _ h=>Wf h
theorem UO (ha:JE X a m1):JE X (.UnaryOp .Not a pos) (notM m1):=AA (VA ha) fun _ _ _ h=>Wh h
theorem C9 (he:∀ whole,isTrue e X.env whole = (do let v ← whole; standAt e.pos; holding [v] (truthy v))) (h:JE X e m):JT X e (AG m):=FC (SN he h) fun _ _ _ h=>IV h
theorem R0 (ha:JT X a mt):JW X (.BoolOp .And [a] pos) mt:=SR ha
theorem My (ha:JT X a mt):JW X (.BoolOp .Or [a] pos) mt:=VW ha
theorem UU (ha:JT X a mt) (hb:JW X (.BoolOp .And (b :: es) pos) mt2):JW X (.BoolOp .And (a :: b :: es) pos) (J0 mt mt2):=NU (VU ha hb) fun _ _ _ h=>Wt h
theorem PX (ha:JT X a mt) (hb:JW X (.BoolOp .Or (b :: es) pos) mt2):JW X (.BoolOp .Or (a :: b :: es) pos) (orT mt mt2):=NU (Xl ha hb) fun _ _ _ h=>XJ h
theorem HE (h:JW X e mt):JT X e mt:=h.pt
theorem C8 (ha:JT X a mt):JT X (.UnaryOp .Not a pos) (Dm mt):=FC (VQ ha) fun _ _ _ h=>Wu h
theorem Q8 {K:Frag} {f g:List A→Option A} {r r':R2} (ok:OpN K f (r2L r)) (ok':OpN K g (r2L r')) {σ:L2.St} {H:Hp} {Q:VK} (h:tE K (Jc f g m1 m2 m3) σ H Q):Na r r' (tE K m1) (tE K m2) (tE K m3) σ H Q:=by
 obtain ⟨ρ,O,fp,rl,y,ρ',h0,k⟩:=h
 simp only [Jc,bind_eq_some_iff] at h0
 obtain ⟨⟨r1,ρ1⟩,e1,⟨r2,ρ2⟩,e2,as,e3,z,e4,kb,e5,e6⟩:=h0
 refine ⟨ρ,O,fp,rl,r1,ρ1,e1,fun v1 H1 yy=>?_⟩
 obtain ⟨L1,fp1,p1,q1⟩:=yy
 refine ⟨ρ1,ad O L1,fp1,p1.rel,r2,ρ2,e2,fun v2 H2 yy=>?_⟩
 obtain ⟨L2,fp2,p2,q2⟩:=yy
 have p12:=p1.then p2
 have q1':=p2.rr p1.rel q1 fun _ z=>z
 have q2':RR K (NN fp2 (ad O (L1 ++ L2))) H2 σ v2 r2 L2:=by
  have e:ad (ad O L1) L2 = ad O (L1 ++ L2):=funext fun p=>propext JY
  rw [← e]
  exact q2
 have hs:JX K (NN fp2 (ad O (L1 ++ L2))) H2 [v1,v2] as:=p12.rel.peeks (rs:=[r1,r2]) (L:=L1 ++ L2) ⟨L1,L2,rfl,q1',L2,[],by simp,q2',rfl⟩ e3
 have key:=ok _ H2 [v1,v2] as z (fun u H3=>∃ kk,u = .bl kk∧if kk = true then tE K m3 σ H3 fun w H4=>r' v2 w H4 Q else Q (.bl false) H3) hs e4 ?_
 ·obtain ⟨x',y',e,q⟩:=key
  cases e
  exact q
 intro u H3 o
 obtain ⟨sm,L3,q3,nd3,nw3⟩:=o
 have hb:=QG q3 e5
 refine ⟨kb,hb,?_⟩
 have p3:Post K O fp H ρ ρ2 σ σ (L1 ++ L2) fp2 H3:=p12.more sm p12.nd fun p hp=>.inl hp
 cases kb with
 | false =>
  rw [if_neg Bool.false_ne_true]
  simp at e6
  obtain ⟨rfl,rfl⟩:=e6
  exact k _ H3 ⟨[],fp2,p3.drop0,MU (.bl _)⟩
 | true =>
  rw [if_pos rfl]
  simp only [if_true,bind_eq_some_iff,map_eq_some_iff] at e6
  obtain ⟨⟨r3,ρ3⟩,e7,bs,e8,z2,e9,e10⟩:=e6
  cases e10
  refine ⟨ρ2,ad O (L1 ++ L2),fp2,p3.rel,r3,ρ3,e7,fun v3 H4 yy=>?_⟩
  obtain ⟨L4,fp4,p4,q4⟩:=yy
  have p34:=p3.then p4
  have q2'':RR K (NN fp2 (ad O (L1 ++ L2))) H3 σ v2 r2 L2:=by
   cases r2 with
   | ref i=>exact q2'
   | val a=>exact Aq.tr (M:=fun _=>False) (fun _ z=>z.elim) (EG.kept sm) (fun p z=>.inl z) (fun _ _ z=>z) q2'
  have q2f:=p4.rr p3.rel q2'' fun p z=>mem_append_right _ z
  have q4':RR K (NN fp4 (ad O ((L1 ++ L2) ++ L4))) H4 σ v3 r3 L4:=by
   have e:ad (ad O (L1 ++ L2)) L4 = ad O ((L1 ++ L2) ++ L4):=funext fun p=>propext JY
   rw [← e]
   exact q4
  have hs2:JX K (NN fp4 (ad O ((L1 ++ L2) ++ L4))) H4 [v2,v3] bs:=p34.rel.peeks (rs:=[r2,r3]) (L:=L2 ++ L4) ⟨L2,L4,rfl,q2f,L4,[],by simp,q4',rfl⟩ e8
  obtain ⟨x',y',e,q⟩:=ok' _ H4 [v2,v3] bs z2 Q hs2 e9 fun u H5 o=>k u H5 (p34.out o)
  cases e
  exact q
theorem Mv {op op':CmpOp} {f g:List A→Option A} {r r':R2} (ok:OpN X.K f (r2L r)) (ok':OpN X.K g (r2L r')) (ho:OpR X (compareOp op) r) (ho':OpR X (compareOp op') r') (hm:lastMarks [op,op'] [b,c] = false) (ha:JE X a m1) (hb:JE X b m2) (hc:JE X c m3) :
  JE X (.Compare a [op,op'] [b,c] pos) (Jc f g m1 m2 m3):=AA (Qn ho ho' ha hb hc hm) fun _ _ _ h=>Q8 ok ok' h
theorem UT {op op':CmpOp} {f g:List A→Option A} {r r':R2} (ok:OpN X.K f (r2L r)) (ok':OpN X.K g (r2L r')) (ho:OpR X (compareOp op) r) (ho':OpR X (compareOp op') r') (hm:lastMarks [op,op'] [b,c] = false) (ha:JE X a m1) (hb:JE X b m2) (hc:JE X c m3) :
  JT X (.Compare a [op,op'] [b,c] pos) (AG (Jc f g m1 m2 m3)):=FC (Qz ho ho' ha hb hc hm) fun _ _ _ h=>Q8 ok ok' (IV h)
theorem Ef (h:JA X es ms):JE X (.List es pos) (lstM ms):=AA (Vy h) fun _ _ _ h=>Wg h
theorem An {P:Program} {w:World} {K:Frag} {mg:Str→Option Value} {base:Heap} {CX:CXT} {k j:Nat} {ps:List Str} {Φ:Fn} {np:Nat} {E:XK} (D:Def P w K mg base CX k x ps (spJ K Φ np)) (hnp:∀ args y,Φ args = some y→args.length = np)
  (hP:X.prog = P) (hw:X.w = w) (hK:X.K = K) (hm:X.mg = mg) (hb:X.base = base) (hr:Room j X.A) (hkj:k≤j) (hx:Passes CX X E) (hdb:(x == ("__debug__" : Str)) = false) (hg:Gl X x)
  (he:starEach (e :: es) X.env = (false,eval e X.env) :: starEach es X.env) (hpl:(backTo pos (starEach es X.env)).any (·.1) = false) (ha:JA X (e :: es) ms):JE X (.Call (.Name x p) (e :: es) [] pos) (Af Φ ms):=by
 subst hP hw hK hm hb
 exact AA (Vq D hr hkj hx ha hg hdb he hpl) fun _ _ _ h=>Tt hnp h
noncomputable def JEc (X:Cx) (own:List Str) (scope:Scope) (e:Expr) (m:ME):Prop:=∀ C s H fp pins,JE (cxC X own scope C s H fp pins) e m
noncomputable def JTc (X:Cx) (own:List Str) (scope:Scope) (ifs:List Expr) (m:MT):Prop:=∀ C s H fp pins,PTs (cxC X own scope C s H fp pins) ifs (tT X.K m)
theorem Dh {own:List Str} {scope:Scope}:JTc X own scope [] D0:=fun C s H fp pins=>fun _ _ _ H _ I h=>by
 obtain ⟨ρ,O,fp,r,x,ρ',e,k⟩:=h
 cases e
 exact SO _ _ _ H _ I (k fp H r.post)
theorem Gw {own:List Str} {scope:Scope} (h:∀ C s H fp pins,JT (cxC X own scope C s H fp pins) c mt):JTc X own scope [c] mt:=fun C s H fp pins=>SQ (h C s H fp pins)
theorem So {own N:List Str} {sc sco:Scope} (hok:CC own N sc sco = true):∀ y∈own,y ∉ N:=fun y hy=>by
 simp only [CC,and_eq_true,all_eq_true] at hok
 have:=hok.2 y hy
 simpa using this
theorem Dv {scope:Scope} {iter elt:Expr} {ifs:List Expr} {px:Pos} (hok:CC [x] X.N scope X.env.scope = true) (hc:X.calm = true) (hn:X.N.Nodup) (hx:scope.names.lookup x = some .local)
  (hs:∀ z,foldedSetIterable iter X.env z = pure z) (hi:JI X (.Name x px) iter mi) (ht:JTc X [x] scope ifs mt) (he:JEc X [x] scope elt m) :
  JE X (.ListComp elt [⟨.Name x px,iter,ifs,0⟩] scope pos) (A4 mi 0 mt m):=
 AA (Vx (te:=tE X.K m) hok hc ⟨hn⟩ rfl hx hs hi ht (fun C s H fp pins=>he C s H fp pins)) fun _ _ _ h=>KR h
theorem PQ {scope:Scope} {iter elt:Expr} {ifs:List Expr} {px py pt':Pos} {y:Str} {k:Nat} (hok:CC [x,y] X.N scope X.env.scope = true) (hc:X.calm = true) (hn:X.N.Nodup) (hxy:x≠y) (hx:scope.names.lookup x = some .local) (hy:scope.names.lookup y = some .local)
  (hs:∀ z,foldedSetIterable iter X.env z = pure z) (hi:JI X (.Tuple [.Name x px,.Name y py] k pt') iter mi) (ht:JTc X [x,y] scope ifs mt) (he:JEc X [x,y] scope elt m) :
  JE X (.ListComp elt [⟨.Tuple [.Name x px,.Name y py] k pt',iter,ifs,0⟩] scope pos) (A4 mi 2 mt m):=by
 have nw:=So hok
 refine AA (T2 (un:=Wz X.K 2) hc hok hi (te:=tE X.K m) (fun C s H fp pins=>?_) ht (fun C s H fp pins=>he C s H fp pins) hs) fun _ _ _ h=>KR h
 have P:=Qr (X:=cxC X [x,y] scope C s H fp pins) (px:=px) (py:=py) (pos:=pt') (k:=k) hc rfl rfl (nodup_cons.mpr ⟨by
  intro z
  rcases mem_cons.mp z with z | z
  ·exact hxy z
  ·exact nw x (by simp) z,nodup_cons.mpr ⟨nw y (by simp),hn⟩⟩) (lookup_relabel_local hx) (lookup_relabel_local hy)
 intro pins' s' σ0 σ H' v u vs h0 I r hu
 obtain ⟨a,rfl,hq,hl⟩:=hu
 obtain ⟨v1,v2,rfl⟩:=R3 hl
 exact P pins' s' σ0 σ H' _ u _ h0 I r ⟨a,v1,v2,rfl,hq,rfl⟩
theorem VH {tg l:Expr} {tl:TE} (hl:PE X l tl):PI X tg l (WY X.K tl):=by
 intro pins s σ H R I h
 refine thn (hl pins s σ H _ I h) fun v s1 yy=>?_
 obtain ⟨y,H1,I1,r1,q1⟩:=yy
 obtain ⟨a,e,q1⟩:=q1
 subst e
 cases r1
 rcases q1 with ⟨⟨xs,hq⟩,q⟩ | ⟨⟨xs,hq⟩,q⟩
 ·obtain ⟨its,rv,p,hz⟩:=I1.list hq
  refine wpAny_pyIter_list p.isList ?_
  refine ⟨s1.heap.objs.size,[s1.heap.objs.size],_,_,H1,rfl,I1.kept (t':=s1.toks) fun b o e=>get?_push_of_some _ e,O3 a _,⟨_,get?_push_size _ rfl,rfl,rfl⟩,fun b hb=>?_,q⟩
  have e:b = s1.heap.objs.size:=by simpa using hb
  subst e
  exact I1.fpOk (le_refl _) (I1.hok.fresh (le_refl _))
 ·obtain ⟨its,rv,p,hz⟩:=I1.tuple hq
  refine wpAny_pyIter_tuple (show s1.heap.IsTuple a its.toArray from p) ?_
  refine ⟨s1.heap.objs.size,[s1.heap.objs.size],_,_,H1,rfl,I1.kept (t':=s1.toks) fun b o e=>get?_push_of_some _ e,Nf a _,⟨_,get?_push_size _ rfl,rfl,rfl⟩,fun b hb=>?_,q⟩
  have e:b = s1.heap.objs.size:=by simpa using hb
  subst e
  exact I1.fpOk (le_refl _) (I1.hok.fresh (le_refl _))
theorem FR {tg:Expr} (h:JE X e m):JI X tg e (Dy m):=HH (VH h) fun _ _ _ h=>Wi h
theorem Wj {K:Frag} {σ:L2.St} {H:Hp} {R:It→Hp→Prop} (h:tI K (L8 m) σ H R):WZ (tE K m) σ H R:=by
 obtain ⟨ρ,O,fp,rl,ds,n,ρ',e,k⟩:=h
 simp only [L8,bind_eq_some_iff] at e
 obtain ⟨⟨r,ρ1⟩,e1,e2⟩:=e
 dsimp only at e2
 split at e2
 ·rename_i z
  split at e2
  ·rename_i hz
   cases e2
   refine ⟨ρ,O,fp,rl,_,_,e1,fun v H1 yy=>?_⟩
   obtain ⟨L,fp1,p,q⟩:=yy
   have q':Aq K (NN fp1 (ad O L)) H1 v (.fz (.str z)) L:=q
   rw [Aq] at q'
   obtain ⟨rfl,q'⟩:=q'
   cases q'
   refine ⟨z,rfl,k _ _ ⟨.val (.fz .non),.non,.fz .non,[],fp1,p,Et (K:=K) .non,rfl,rfl,fun N H2 _=>?_⟩⟩
   have hl:(EU z).length = z.cps.size:=by simp [EU]
   refine ⟨fun i hi=>by show i < z.cps.size; lia,fun i hi=>by show z.cps.size≤i; lia,fun i v H' d y e=>?_⟩
   obtain ⟨rfl,c,hc,rfl⟩:=y
   refine ⟨fun _ _ z=>z,?_⟩
   have:d = .str ⟨#[c]⟩:=by
    simp only [EU,getElem?_map] at e
    have hc':z.cps.toList[i]? = some c:=by simpa using hc
    rw [hc'] at e
    cases e
    rfl
   subst this
   exact .str _ (by show 1≤sizeLine; decide)
  ·cases e2
 ·cases e2
theorem PU {tg:Expr} (h:JE X e m):JI X tg e (L8 m):=HH (VI h) fun _ _ _ h=>Wj h
theorem Tw {K:Frag} {σ:L2.St} {H:Hp} {R:It→Hp→Prop} (h:tI K (Bt m) σ H R):TY (Cc (tE K m) F7) σ H R:=by
 obtain ⟨ρ,O,fp,rl,ds,n,ρ',e,k⟩:=h
 simp only [Bt,bind_eq_some_iff] at e
 obtain ⟨⟨r,ρ1⟩,e1,e2⟩:=e
 dsimp only at e2
 split at e2
 ·rename_i j
  split at e2
  ·rename_i hz
   cases e2
   refine ⟨ρ,O,fp,rl,_,_,e1,fun v H1 yy=>?_⟩
   obtain ⟨L,fp1,p,q⟩:=yy
   have q':Aq K (NN fp1 (ad O L)) H1 v (.fz (.int j)) L:=q
   rw [Aq] at q'
   obtain ⟨rfl,q'⟩:=q'
   cases q'
   refine ⟨j,rfl,hz.1,hz.2,k _ _ ⟨.val (.fz .non),.non,.fz .non,[],fp1,p,Et (K:=K) .non,rfl,rfl,fun N H2 _=>?_⟩⟩
   have hl:(Cu 0 j.toNat).length = j.toNat:=by simp [Cu]
   refine ⟨fun i hi=>by show i < j.toNat; lia,fun i hi=>by show j.toNat≤i; lia,fun i v H' d y e=>?_⟩
   obtain ⟨rfl,rfl⟩:=y
   refine ⟨fun _ _ z=>z,?_⟩
   have hi:i < j.toNat:=by have:=Aw e; lia
   simp only [Cu,getElem?_map,List.getElem?_range hi,map_some,Option.some.injEq] at e
   subst e
   exact .int _
  ·cases e2
 ·cases e2
theorem Dg {tg:Expr} (hg:Gl X "range") (hm:X.mg "range" = none) (hs:starEach [a] X.env = [(false,eval a X.env)]) (h:JE X a m):JI X tg (.Call (.Name "range" p) [a] [] pos) (Bt m):=HH (OR hg hm (C1 h Ei hs) hs) fun _ _ _ h=>Tw h
theorem A7:JSs X [] AY:=LR SJ fun _ _ _ h=>TB h
theorem Al (h:JS X s w1):JSs X [s] w1:=SK h
theorem Ah (h:JS X s w1) (t:JSs X ss w2):JSs X (s :: ss) (Ap w1 w2):=LR (Qy h t) fun _ _ _ h=>Wr h
theorem Lu:JS X s IS:=fun _ _ _ _ _ _ y=>by
 obtain ⟨_,_,_,_,_,h,_⟩:=y
 cases h
theorem Fb (hs:swapsWith e none pos.line X.env = pure false) (h:JE X e m):JS X (.Expr e pos) (EJ m):=CG (Kx h hs) fun _ _ _ h=>Wl h
theorem Ax (h:JE X e m):JS X (.Return (some e) pos) (retS m):=CG (VN h) fun _ _ _ h=>Wq h
theorem Ca {st st':List Stmt} (hc:JT X c mt) (ha:JSs X st w1) (hb:JSs X st' w2):JS X (.If c st st' pos) (ifS mt w1 w2):=CG (Xk hc ha hb) fun _ _ _ h=>XH h
theorem AD (i:Nat) (hN:X.N.Nodup) (hi:X.N[i]? = some x) (hx:Loc X.env.scope x) (hf:X.fn x = true) (hs:swapsWith e (some (.Name x pos')) pos.line X.env = pure false) (h:JE X e m):JS X (.Assign [.Name x pos'] e pos) (Ar i m):=
 CG (VO hN hi hx h hs (.inl hf)) fun _ _ _ h=>Rb h
theorem Fc {st:List Stmt} (n:Nat) (hp:PassesOwn (model X.prog X.w) X.A X.env X.xe) (hc:JT X c mt) (hb:JSs X st w1):JS X (.While c st [] pos) (F9 n mt w1):=CG (Qx hp hc hb) fun _ _ _ h=>Rc h
theorem GX {tg iter:Expr} {st:List Stmt} {is:List Nat} {one:Bool} (hp:PassesOwn (model X.prog X.w) X.A X.env X.xe) (hc:X.calm = true) (hi:JI X tg iter mi) (hg:PG X tg (Ol X.K is one)) (hb:JSs X st w1)
  (hs:∀ y,foldedSetIterable iter X.env y = pure y):JS X (.For tg iter st [] pos) (GU is one mi w1):=CG (VM hp hc hi hg hb hs) fun _ _ _ h=>Wn h
theorem ID (i:Nat) (hN:X.N.Nodup) (hi:X.N[i]? = some x) (hx:Loc X.env.scope x) (hf:X.fn x = true):PG X (.Name x pos) (Ol X.K [i] true):=HG hN hi hx (.inl hf)
theorem NP:PGs X [] (E7 []):=NQ
theorem GD (i:Nat) {is:List Nat} (hN:X.N.Nodup) (hi:X.N[i]? = some x) (hx:Loc X.env.scope x) (hf:X.fn x = true) (t:PGs X es (E7 is))
  (hs:(assignEach (.Name x pos :: es) X.env).map (·.2) = assign (.Name x pos) X.env :: (assignEach es X.env).map (·.2)):PGs X (.Name x pos :: es) (E7 (i :: is)):=IE (HG hN hi hx (.inl hf)) t hs
theorem NO {is:List Nat} {k:Nat} (hc:X.calm = true) (h:PGs X es (E7 is)) (hn:(assignEach es X.env).length = is.length) (hst:(assignEach es X.env).findIdx? (·.1) = none):PG X (.Tuple es k pos) (Ol X.K is false):=Qq hc h hn hst
theorem US {tg:Expr} {is:List Nat} (hg:PG X tg (Ol X.K is false)) (hs:swapsWithSole [tg] e pos.line X.env = pure false) (hw:swappedStores [tg] e X.env = pure none) (h1:(assignEach [tg] X.env).map (·.2) = [assign tg X.env]) (h:JE X e m) :
  JS X (.Assign [tg] e pos) (K1 is m):=CG (Qw h hg hs hw h1) fun _ _ _ h=>Ws h
end
end J
end
section
namespace L2
open PySem PySem.Spec PyProof.Rows
section
variable {P:Program} {w:World} {H:Hp} {s:Shared} {N N':Addr→Prop}
theorem QF (hok:HOk P w H s.heap) {A:Around} {n:Nat} {x y:V} {d e:D} {v u:Value} (r:RepA N H x d) (q:RepA N' H y e) (rx:RelV x v) (ry:RelV y u) (hs:Sh n d) (hu:A.units + n < cLine):SeqAt.RcNeAt A s v u (!eqD d e):=by
 cases r with
 | non =>
  cases rx
  cases q with
  | non=>cases ry; exact SeqAt.RcNeAt.none_none
  | bl b=>cases ry; exact SeqAt.RcNeAt.none_bool b
  | int b=>obtain ⟨t,rfl⟩:=ry; exact SeqAt.RcNeAt.none_int b t
  | str b=>obtain ⟨t,rfl⟩:=ry; exact SeqAt.RcNeAt.none_str b t
  | lst h=>cases ry; obtain ⟨its,_,hl⟩:=AX hok h; exact SeqAt.RcNeAt.none_list hl (lt0 hu)
  | tup h=>cases ry; obtain ⟨its,_,hl⟩:=Bn hok h; exact SeqAt.RcNeAt.none_tuple hl (lt0 hu)
 | bl a =>
  cases rx
  cases q with
  | non=>cases ry; exact SeqAt.RcNeAt.bool_none a
  | bl b=>cases ry; exact SeqAt.RcNeAt.bool_bool a b
  | int b=>obtain ⟨t,rfl⟩:=ry; exact SeqAt.RcNeAt.bool_int a b t
  | str b=>obtain ⟨t,rfl⟩:=ry; exact SeqAt.RcNeAt.bool_str a b t
  | lst h=>cases ry; obtain ⟨its,_,hl⟩:=AX hok h; exact SeqAt.RcNeAt.bool_list a hl (lt0 hu)
  | tup h=>cases ry; obtain ⟨its,_,hl⟩:=Bn hok h; exact SeqAt.RcNeAt.bool_tuple a hl (lt0 hu)
 | int a =>
  obtain ⟨t',rfl⟩:=rx
  cases q with
  | non=>cases ry; exact SeqAt.RcNeAt.int_none a t'
  | bl b=>cases ry; exact SeqAt.RcNeAt.int_bool a t' b
  | int b=>obtain ⟨t,rfl⟩:=ry; exact SeqAt.RcNeAt.int_int a t' b t
  | str b=>obtain ⟨t,rfl⟩:=ry; exact SeqAt.RcNeAt.int_str a t' b t
  | lst h=>cases ry; obtain ⟨its,_,hl⟩:=AX hok h; exact SeqAt.RcNeAt.int_list a t' hl (lt0 hu)
  | tup h=>cases ry; obtain ⟨its,_,hl⟩:=Bn hok h; exact SeqAt.RcNeAt.int_tuple a t' hl (lt0 hu)
 | str a =>
  obtain ⟨t',rfl⟩:=rx
  cases q with
  | non=>cases ry; exact SeqAt.RcNeAt.str_none a t'
  | bl b=>cases ry; exact SeqAt.RcNeAt.str_bool a t' b
  | int b=>obtain ⟨t,rfl⟩:=ry; exact SeqAt.RcNeAt.str_int a t' b t
  | str b=>obtain ⟨t,rfl⟩:=ry; exact SeqAt.RcNeAt.str_str a t' b t
  | lst h=>cases ry; obtain ⟨its,_,hl⟩:=AX hok h; exact SeqAt.RcNeAt.str_list a t' hl (lt0 hu)
  | tup h=>cases ry; obtain ⟨its,_,hl⟩:=Bn hok h; exact SeqAt.RcNeAt.str_tuple a t' hl (lt0 hu)
 | @lst a vs ds h hz hn hl hr =>
  cases rx
  obtain ⟨its,rv,hil⟩:=AX hok h
  cases hs with
  | @lst n _ hs =>
   cases q with
   | non=>cases ry; exact SeqAt.RcNeAt.list_none hil (lt0 hu)
   | bl b=>cases ry; exact SeqAt.RcNeAt.list_bool b hil (lt0 hu)
   | int b=>obtain ⟨t,rfl⟩:=ry; exact SeqAt.RcNeAt.list_int b t hil (lt0 hu)
   | str b=>obtain ⟨t,rfl⟩:=ry; exact SeqAt.RcNeAt.list_str b t hil (lt0 hu)
   | @lst a' vs' es h' hz' hn' hl' hr' =>
    cases ry
    obtain ⟨its',rv',hil'⟩:=AX hok h'
    have l1:=rv.length
    have l2:=rv'.length
    rw [eqDl]
    by_cases hlen:ds.length = es.length
    ·rw [DQ hlen,show ds.length = its.toArray.size by simp; lia]
     refine SeqAt.RcNeAt.lists hil hil' (by simp; lia) (lt0 hu) (Eo rv rv' hl hl' fun i v d v' e u u' e1 e2 e3 e4 ru ru'=>?_)
     exact Ka hok (hr i v d e1 e2) (hr' i v' e e3 e4) ru ru' (hs d (mem_of_getElem? e2)) (lt1 hu)
    ·have:Cf ds es = false:=by
      cases q:Cf ds es with
      | false=>rfl
      | true=>exact absurd (DR q) hlen
     rw [this]
     exact SeqAt.RcNeAt.lists_lengths hil hil' (by simp; lia) (lt0 hu)
   | tup h' =>
    cases ry
    obtain ⟨its',_,hl'⟩:=Bn hok h'
    exact SeqAt.RcNeAt.list_tuple hil hl' (lt0 hu)
 | @tup a vs ds h hz hl hr =>
  cases rx
  obtain ⟨its,rv,hil⟩:=Bn hok h
  cases hs with
  | @tup n _ hs =>
   cases q with
   | non=>cases ry; exact SeqAt.RcNeAt.tuple_none hil (lt0 hu)
   | bl b=>cases ry; exact SeqAt.RcNeAt.tuple_bool b hil (lt0 hu)
   | int b=>obtain ⟨t,rfl⟩:=ry; exact SeqAt.RcNeAt.tuple_int b t hil (lt0 hu)
   | str b=>obtain ⟨t,rfl⟩:=ry; exact SeqAt.RcNeAt.tuple_str b t hil (lt0 hu)
   | @tup a' vs' es h' hz' hl' hr' =>
    cases ry
    obtain ⟨its',rv',hil'⟩:=Bn hok h'
    have l1:=rv.length
    have l2:=rv'.length
    have q:=SeqAt.RcNeAt.tuples (A:=A) hil hil' (lt0 hu) (Eo rv rv' hl hl' fun i v d v' e u u' e1 e2 e3 e4 ru ru'=>Ka hok (hr i v d e1 e2) (hr' i v' e e3 e4) ru ru' (hs d (mem_of_getElem? e2)) (lt1 hu))
    rw [eqDt]
    by_cases hlen:ds.length = es.length
    ·have e1:(its.toArray.size == its'.toArray.size) = true:=by simp; lia
     have e2:min its.toArray.size its'.toArray.size = ds.length:=by simp; lia
     rw [e1,e2,Bool.and_true,← DQ hlen] at q
     exact q
    ·have e1:(its.toArray.size == its'.toArray.size) = false:=by simp; lia
     have e3:Cf ds es = false:=by
      cases q:Cf ds es with
      | false=>rfl
      | true=>exact absurd (DR q) hlen
     rw [e1,Bool.and_false] at q
     rw [e3]
     exact q
   | lst h' =>
    cases ry
    obtain ⟨its',_,hl'⟩:=AX hok h'
    exact SeqAt.RcNeAt.tuple_list hil hl' (lt0 hu)
end
section
variable {X:Cx} {k:Nat}
noncomputable def Xq:R2:=fun x y H Q=>∃ d e,Rep H x d∧Rep H y e∧Sh 16 d∧Q (.bl (!eqD d e)) H
theorem MM (hr:Room k X.A):OpR X (compareOp .NotEq) Xq:=by
 intro pins s σ H x y v u Q I rx ry h
 obtain ⟨d,e,r1,r2,hs,q⟩:=h
 exact EqBoolInt.of_rcne (QF I.hok r1 r2 rx ry hs (by have:=hr.units; lia)) ⟨.bl _,H,I,rfl,q⟩
end
end L2
namespace J
open PySem PySem.Spec PyProof.Rows L2
section
variable {K:Frag} {N:Addr→Prop} {H H':Hp} {L:List Addr} {v:V} {a:A}
theorem Ci {d:D}:Aq K N H v (.fz d) L↔L = []∧RepA N H v d:=by rw [Aq]
theorem A6 {i:Int} (h:Aq K N H v (.fz (.int i)) L):v = .int i:=by
 obtain ⟨_,h⟩:=Ci.mp h
 cases h; rfl
theorem Cs {z:Str} (h:Aq K N H v (.fz (.str z)) L):v = .str z∧z.length≤sizeLine:=by
 obtain ⟨_,h⟩:=Ci.mp h
 cases h with
 | str z hz=>exact ⟨rfl,hz⟩
theorem Eh {d:D} (h:RepA N H v d):K2 K N H (.fz d) v H:=⟨fun _ _ z=>z,[],Et (K:=K) (Ft (fun p z=>z.elim id fun q=>by simp at q) h),nodup_nil,fun _ h=>by simp at h⟩
theorem Di {i:Int}:K2 K N H (.fz (.int i)) (.int i) H:=Eh (.int i)
theorem Dw {b:Bool}:K2 K N H (.fz (.bl b)) (.bl b) H:=Eh (.bl b)
theorem GB {z:Str} (h:z.length≤sizeLine):K2 K N H (.fz (.str z)) (.str z) H:=Eh (.str z h)
theorem HF {p:Addr} {vs:List V} {ds:List D} (hp:H p = none) (hz:vs.length≤sizeLine) (q:As N H vs ds):K2 K N H (.lst (ds.map A.fz)) (.ref p) (upd H p (.lst vs)):=by
 have sm:=Cj (o:=.lst vs) hp
 refine ⟨sm,[p],?_,by simp,fun b hb=>by simp at hb; rw [hb]; exact hp⟩
 rw [Aq]
 refine ⟨p,vs,[],rfl,rfl,AK,hz,Ao.of (q.tr (M:=fun _=>False) (fun _ z=>z.elim) (EG.kept sm) fun b z=>?_)⟩
 rcases z with z | z
 ·exact .inl z
 ·simp at z; subst z; exact .inr hp
noncomputable def fzU:A→Option D
 | .fz d=>some d
 | .lst _ | .tup _ | .scr _ | .dic _=>none
noncomputable def CA:D→Option Int
 | .int i=>some i
 | .non | .bl _ | .str _ | .lst _ | .tup _=>none
noncomputable def CN:D→Option Str
 | .str z=>some z
 | .non | .bl _ | .int _ | .lst _ | .tup _=>none
noncomputable def Bk (a:A):Option Int:=(fzU a).bind CA
noncomputable def BF (a:A):Option Str:=(fzU a).bind CN
theorem FO {a:A} {d:D} (h:fzU a = some d):a = .fz d:=by
 cases a with
 | fz d'=>cases h; rfl
 | _=>cases h
theorem A1 {a:A} {i:Int} (h:Bk a = some i):a = .fz (.int i):=by
 obtain ⟨d,h1,h2⟩:=bind_eq_some_iff.mp h
 cases FO h1
 cases d with
 | int j=>cases h2; rfl
 | _=>cases h2
theorem Ck {a:A} {z:Str} (h:BF a = some z):a = .fz (.str z):=by
 obtain ⟨d,h1,h2⟩:=bind_eq_some_iff.mp h
 cases FO h1
 cases d with
 | str j=>cases h2; rfl
 | _=>cases h2
noncomputable def on1 (f:A→Option A):List A→Option A
 | []=>none
 | [a]=>f a
 | _ :: _ :: _=>none
noncomputable def on2 (f:A→A→Option A):List A→Option A
 | []=>none
 | [_]=>none
 | [a,b]=>f a b
 | _ :: _ :: _ :: _=>none
noncomputable def on3 (f:A→A→A→Option A):List A→Option A
 | []=>none
 | [_]=>none
 | [_,_]=>none
 | [a,b,c]=>f a b c
 | _ :: _ :: _ :: _ :: _=>none
theorem Dd {f:A→Option A} {as:List A} {c:A} (h:on1 f as = some c):∃ a,as = [a]∧f a = some c:=by
 cases as with
 | nil=>cases h
 | cons a as=>cases as with
  | nil=>exact ⟨a,rfl,h⟩
  | cons b as=>cases h
theorem BM {f:A→A→Option A} {as:List A} {c:A} (h:on2 f as = some c):∃ a b,as = [a,b]∧f a b = some c:=by
 cases as with
 | nil=>cases h
 | cons a as=>cases as with
  | nil=>cases h
  | cons b as=>cases as with
   | nil=>exact ⟨a,b,rfl,h⟩
   | cons b as=>cases h
theorem Qk {f:A→A→A→Option A} {as:List A} {c:A} (h:on3 f as = some c):∃ x y z,as = [x,y,z]∧f x y z = some c:=by
 cases as with
 | nil=>cases h
 | cons a as=>cases as with
  | nil=>cases h
  | cons b as=>cases as with
   | nil=>cases h
   | cons c as=>cases as with
    | nil=>exact ⟨a,b,c,rfl,h⟩
    | cons b as=>cases h
noncomputable def Ce:A→Option (List (Key × D))
 | .dic kvs=>some kvs
 | .fz _ | .lst _ | .tup _ | .scr _=>none
theorem Hx {a:A} {kvs:List (Key × D)} (h:Ce a = some kvs):a = .dic kvs:=by
 cases a with
 | dic k=>cases h; rfl
 | _=>cases h
noncomputable def CD:A→Option Unit
 | .fz .non=>some ()
 | .fz (.bl _) | .fz (.int _) | .fz (.str _) | .fz (.lst _) | .fz (.tup _) | .lst _ | .tup _ | .scr _ | .dic _=>none
theorem NH {a:A} {u:Unit} (h:CD a = some u):a = .fz .non:=by
 cases a with
 | fz d=>cases d with
  | non=>rfl
  | _=>cases h
 | _=>cases h
noncomputable def FP (C:Int→Int→Bool) (g:Int→Int→Int):List A→Option A:=on2 fun a b=>(Bk a).bind fun i=>(Bk b).bind fun j=>if C i j then some (.fz (.int (g i j))) else none
noncomputable def Lp (g:Int→Int→Bool):List A→Option A:=on2 fun q1 q2=>(Bk q1).bind fun i=>(Bk q2).bind fun j=>some (.fz (.bl (g i j)))
theorem cons_of {xs:List V} {a:A} {as:List A} (h:JX K N H xs (a :: as)):∃ x t L1,xs = x :: t∧Aq K N H x a L1∧JX K N H t as:=by
 cases xs with
 | nil=>cases h
 | cons x t =>
  obtain ⟨⟨L,h⟩,q⟩:=h
  exact ⟨x,t,L,rfl,h,q⟩
theorem CJ {xs:List V} {a:A} (h:JX K N H xs [a]):∃ x L1,xs = [x]∧Aq K N H x a L1:=by
 obtain ⟨x,t,L1,rfl,h1,q⟩:=cons_of h
 cases t with
 | nil=>exact ⟨x,L1,rfl,h1⟩
 | cons y t=>cases q
theorem A9 {xs:List V} {a b:A} (h:JX K N H xs [a,b]):∃ x y L1 L2,xs = [x,y]∧Aq K N H x a L1∧Aq K N H y b L2:=by
 obtain ⟨x,t,L1,rfl,h1,q⟩:=cons_of h
 obtain ⟨y,L2,rfl,h2⟩:=CJ q
 exact ⟨x,y,L1,L2,rfl,h1,h2⟩
theorem Gy {C:Int→Int→Bool} {C':Int→Int→Prop} {g:Int→Int→Int} (hC:∀ i j,C i j = true→C' i j):OpN K (FP C g) (r2L (rI C' fun i j=>.int (g i j))):=by
 intro N H xs as b Q hs e k
 replace e:=BM e
 obtain ⟨a1,b1,rfl,e⟩:=e
 simp only [bind_eq_some_iff] at e
 obtain ⟨i,ei,j,ej,e⟩:=e
 cases A1 ei
 cases A1 ej
 split at e
 ·rename_i hc
  cases e
  obtain ⟨x,y,L1,L2,rfl,h1,h2⟩:=A9 hs
  cases A6 h1
  cases A6 h2
  exact ⟨_,_,rfl,i,j,rfl,rfl,hC i j hc,k _ _ Di⟩
 ·cases e
theorem Gz {g:Int→Int→Int}:OpN K (FP (fun _ _=>true) g) (r2L (rI0 fun i j=>.int (g i j))):=by
 intro N H xs as b Q hs e k
 replace e:=BM e
 obtain ⟨a1,b1,rfl,e⟩:=e
 simp only [bind_eq_some_iff] at e
 obtain ⟨i,ei,j,ej,e⟩:=e
 cases A1 ei
 cases A1 ej
 rw [if_pos trivial] at e
 cases e
 obtain ⟨x,y,L1,L2,rfl,h1,h2⟩:=A9 hs
 cases A6 h1
 cases A6 h2
 exact ⟨_,_,rfl,i,j,rfl,rfl,k _ _ Di⟩
theorem LD {g:Int→Int→Bool}:OpN K (Lp g) (r2L (rI0 fun i j=>.bl (g i j))):=by
 intro N H xs as b Q hs e k
 replace e:=BM e
 obtain ⟨q1,q2,rfl,e⟩:=e
 replace e:=bind_eq_some_iff.mp e
 obtain ⟨i,eq1,e⟩:=e
 cases A1 eq1
 clear eq1
 replace e:=bind_eq_some_iff.mp e
 obtain ⟨j,eq2,e⟩:=e
 cases A1 eq2
 clear eq2
 cases e
 obtain ⟨x,y,L1,L2,rfl,h1,h2⟩:=A9 hs
 cases A6 h1
 cases A6 h2
 exact ⟨_,_,rfl,i,j,rfl,rfl,k _ _ Dw⟩
noncomputable def BN:=FP (fun _ _=>true) fun i j=>i - j
noncomputable def Lf:=FP (fun _ j=>decide (0 < j∧j < 1073741824)) fun i j=>i / j
noncomputable def Ip:=FP (fun _ j=>decide (0 < j)) fun i j=>i % j
noncomputable def SG:=FP (fun i j=>decide (0≤j∧j≤1000000∧i.natAbs < 2 ^ 64)) fun i j=>i ^ j.toNat
noncomputable def Ew:=FP (fun i j=>decide (0≤j∧j≤1000000∧i.natAbs < 2 ^ 64)) fun i j=>i * 2 ^ j.toNat
noncomputable def Hr:=FP (fun _ j=>decide (0≤j)) fun i j=>i / 2 ^ j.toNat
noncomputable def Ge:=FP (fun _ _=>true) fun i j=>Builtin.bitAnd i j
noncomputable def Mm:=FP (fun _ _=>true) fun i j=>Builtin.bitOr i j
noncomputable def gtA:=Lp fun i j=>decide (j < i)
noncomputable def geA:=Lp fun i j=>decide (j≤i)
theorem NI:OpN K Lf (r2L (rI Ui fun i j=>.int (i / j))):=Gy fun i j h=>by simpa [Ui] using h
theorem G4:OpN K Ip (r2L (rI (fun _ j=>0 < j) fun i j=>.int (i % j))):=Gy fun i j h=>by simpa using h
theorem Ve:OpN K SG (r2L (rI Ob fun i j=>.int (i ^ j.toNat))):=Gy fun i j h=>by simpa [Ob] using h
theorem MH:OpN K Ew (r2L (rI Ob fun i j=>.int (i * 2 ^ j.toNat))):=Gy fun i j h=>by simpa [Ob] using h
theorem Vf:OpN K Hr (r2L (rI (fun _ j=>0≤j) fun i j=>.int (i / 2 ^ j.toNat))):=Gy fun i j h=>by simpa using h
noncomputable def C2:A→Option (List D)
 | .fz (.lst ds)=>some ds
 | .lst as=>fzs as
 | .fz .non | .fz (.bl _) | .fz (.int _) | .fz (.str _) | .fz (.tup _) | .tup _ | .scr _ | .dic _=>none
theorem Eg {ds:List D} (q:Aq K N H v a L) (e:C2 a = some ds):∃ p vs,v = .ref p∧H p = some (.lst vs)∧vs.length≤sizeLine∧As N H vs ds:=by
 cases a with
 | fz d =>
  obtain ⟨_,q⟩:=Ci.mp q
  cases d with
  | lst es =>
   simp only [C2,Option.some.injEq] at e
   subst e
   cases q with
   | lst h hz hn hl hr=>exact ⟨_,_,rfl,h,hz,As.mk hl hr⟩
  | _=>simp [C2] at e
 | lst as =>
  simp only [C2] at e
  rw [Aq] at q
  obtain ⟨p,vs,L',rfl,rfl,h,hz,hs⟩:=q
  exact ⟨p,vs,rfl,h,hz,(hs.fzs e).2⟩
 | _=>simp [C2] at e
noncomputable def Az:List A→Option A:=on2 fun a b=>((Bk a).bind fun i=>(Bk b).map fun j=>A.fz (.int (i + j))).or (((BF a).bind fun x=>(BF b).bind fun y=>if x.length + y.length≤LIM then some (.fz (.str (x ++ y))) else none).or ((C2 a).bind fun xs=>(C2 b).bind fun ys=>if xs.length + ys.length≤LIM then some (.lst ((xs ++ ys).map A.fz)) else none))
theorem L9 (x y:Str):(x ++ y).length = x.length + y.length:=strLen_append x y
theorem A3:OpN K Az (r2L fun x y H Q=>(rI0 (fun i j=>.int (i + j))) x y H Q∨(∃ i j,x = .str i∧y = .str j∧i.length + j.length≤sizeLine∧Q (.str (i ++ j)) H)∨VX x y H Q):=by
 intro N H xs as b Q hs e k
 replace e:=BM e
 obtain ⟨a,b,rfl,e⟩:=e
 rcases or_eq_some_iff.mp e with e | ⟨_,e⟩
 ·simp only [bind_eq_some_iff,map_eq_some_iff] at e
  obtain ⟨i,ei,j,ej,rfl⟩:=e
  cases A1 ei
  cases A1 ej
  obtain ⟨x,y,L1,L2,rfl,h1,h2⟩:=A9 hs
  cases A6 h1
  cases A6 h2
  exact ⟨_,_,rfl,.inl ⟨i,j,rfl,rfl,k _ _ Di⟩⟩
 ·rcases or_eq_some_iff.mp e with e | ⟨_,e⟩
  ·simp only [bind_eq_some_iff] at e
   obtain ⟨i,ei,j,ej,e9⟩:=e
   cases Ck ei
   cases Ck ej
   split at e9
   ·rename_i hz
    cases e9
    obtain ⟨x,y,L1,L2,rfl,h1,h2⟩:=A9 hs
    obtain ⟨rfl,_⟩:=Cs h1
    obtain ⟨rfl,_⟩:=Cs h2
    exact ⟨_,_,rfl,.inr (.inl ⟨i,j,rfl,rfl,hz,k _ _ (GB (by rw [L9]; exact hz))⟩)⟩
   ·cases e9
  ·simp only [bind_eq_some_iff] at e
   obtain ⟨ds,e1,es,e2,e3⟩:=e
   split at e3
   ·rename_i hz
    cases e3
    obtain ⟨x,y,L1,L2,rfl,h1,h2⟩:=A9 hs
    obtain ⟨p,vs,rfl,hp,z1,q1⟩:=Eg h1 e1
    obtain ⟨p',vs',rfl,hp',z2,q2⟩:=Eg h2 e2
    have hl:(vs ++ vs').length≤sizeLine:=by rw [length_append,q1.len,q2.len]; exact hz
    exact ⟨_,_,rfl,.inr (.inr ⟨p,p',vs,vs',rfl,rfl,hp,hp',by rw [length_append] at hl; exact hl,fun q hq=>k _ _ (HF hq hl (G7 q1 q2))⟩)⟩
   ·cases e3
theorem AM {X:Cx}:OpR X (binaryOp .Add) (fun x y H Q=>(rI0 (fun i j=>.int (i + j))) x y H Q∨(∃ i j,x = .str i∧y = .str j∧i.length + j.length≤sizeLine∧Q (.str (i ++ j)) H)∨VX x y H Q):=Vg.or (ML.or Vi)
noncomputable def MB:List A→Option A:=on2 fun q1 q2=>(Bk q1).bind fun i=>(Bk q2).bind fun j=>if (-(2 ^ 64) < i∧i < 2 ^ 64)∨(-(2 ^ 64) < j∧j < 2 ^ 64) then some (.fz (.int (i * j))) else none
theorem Kt:OpN K MB (r2L (rI Rp fun i j=>.int (i * j))):=by
 intro N H xs as b Q hs e k
 replace e:=BM e
 obtain ⟨q1,q2,rfl,e⟩:=e
 replace e:=bind_eq_some_iff.mp e
 obtain ⟨i,eq1,e⟩:=e
 cases A1 eq1
 clear eq1
 replace e:=bind_eq_some_iff.mp e
 obtain ⟨j,eq2,e⟩:=e
 cases A1 eq2
 clear eq2
 split at e
 ·rename_i hc
  cases e
  obtain ⟨x,y,L1,L2,rfl,h1,h2⟩:=A9 hs
  cases A6 h1
  cases A6 h2
  exact ⟨_,_,rfl,i,j,rfl,rfl,hc,k _ _ Di⟩
 ·cases e
noncomputable def ER:List A→Option A:=on1 fun q1=>(Bk q1).bind fun i=>some (.fz (.int (-i)))
theorem MF:OpN K ER (r1L (rU fun i=>.int (-i))):=by
 intro N H xs as b Q hs e k
 replace e:=Dd e
 obtain ⟨q1,rfl,e⟩:=e
 replace e:=bind_eq_some_iff.mp e
 obtain ⟨i,eq1,e⟩:=e
 cases A1 eq1
 clear eq1
 cases e
 obtain ⟨x,L1,rfl,h1⟩:=CJ hs
 cases A6 h1
 exact ⟨_,rfl,i,rfl,k _ _ Di⟩
mutual
noncomputable def shB:Nat→D→Bool
 | _,.non=>true
 | _,.bl _=>true
 | _,.int _=>true
 | _,.str _=>true
 | 0,.lst _=>false
 | 0,.tup _=>false
 | n + 1,.lst ds=>F4 n ds
 | n + 1,.tup ds=>F4 n ds
noncomputable def F4:Nat→List D→Bool
 | _,[]=>true
 | n,d :: ds=>shB n d && F4 n ds
end
mutual
theorem M4:∀ {n:Nat} {d:D},shB n d = true→Sh n d
 | _,.non,_=>.non
 | _,.bl b,_=>.bl b
 | _,.int i,_=>.int i
 | _,.str x,_=>.str x
 | 0,.lst _,h=>by simp [shB] at h
 | 0,.tup _,h=>by simp [shB] at h
 | n + 1,.lst ds,h=>.lst (KJ (by simpa [shB] using h))
 | n + 1,.tup ds,h=>.tup (KJ (by simpa [shB] using h))
theorem KJ:∀ {n:Nat} {ds:List D},F4 n ds = true→∀ d∈ds,Sh n d
 | _,[],_,d,hd=>by simp at hd
 | n,e :: ds,h,d,hd=>by
  simp only [F4,and_eq_true] at h
  rcases mem_cons.mp hd with q | hd
  ·rw [q]; exact M4 h.1
  ·exact KJ h.2 d hd
end
noncomputable def eqA:List A→Option A:=on2 fun a b=>(er a).bind fun d=>(er b).bind fun e=>if shB 16 d then some (.fz (.bl (eqD d e))) else none
noncomputable def neA:List A→Option A:=on2 fun a b=>(er a).bind fun d=>(er b).bind fun e=>if shB 16 d then some (.fz (.bl (!eqD d e))) else none
theorem II {d:D} (q:Aq K N H v a L) (e:er a = some d):Rep H v d:=(Aq.er q e).rep
theorem DU:OpN K eqA (r2L X2):=by
 intro N H xs as b Q hs e k
 replace e:=BM e
 obtain ⟨a,b,rfl,e⟩:=e
 simp only [bind_eq_some_iff] at e
 obtain ⟨d,e1,d',e2,e3⟩:=e
 split at e3
 ·rename_i hz
  cases e3
  obtain ⟨x,y,L1,L2,rfl,h1,h2⟩:=A9 hs
  exact ⟨_,_,rfl,d,d',II h1 e1,II h2 e2,M4 hz,k _ _ Dw⟩
 ·cases e3
theorem Qi:OpN K neA (r2L Xq):=by
 intro N H xs as b Q hs e k
 replace e:=BM e
 obtain ⟨a,b,rfl,e⟩:=e
 simp only [bind_eq_some_iff] at e
 obtain ⟨d,e1,d',e2,e3⟩:=e
 split at e3
 ·rename_i hz
  cases e3
  obtain ⟨x,y,L1,L2,rfl,h1,h2⟩:=A9 hs
  exact ⟨_,_,rfl,d,d',II h1 e1,II h2 e2,M4 hz,k _ _ Dw⟩
 ·cases e3
noncomputable def ltA:List A→Option A:=on2 fun a b=>((Bk a).bind fun i=>(Bk b).map fun j=>A.fz (.bl (decide (i < j)))).or ((BF a).bind fun x=>(BF b).map fun y=>A.fz (.bl (decide (x.cps.toList < y.cps.toList))))
noncomputable def leA:List A→Option A:=on2 fun a b=>((Bk a).bind fun i=>(Bk b).map fun j=>A.fz (.bl (decide (i≤j)))).or ((BF a).bind fun x=>(BF b).map fun y=>A.fz (.bl (!decide (y.cps.toList < x.cps.toList))))
theorem JL:OpN K ltA (r2L T6):=by
 intro N H xs as b Q hs e k
 replace e:=BM e
 obtain ⟨a,b,rfl,e⟩:=e
 rcases or_eq_some_iff.mp e with e | ⟨_,e⟩
 ·simp only [bind_eq_some_iff,map_eq_some_iff] at e
  obtain ⟨i,ei,j,ej,rfl⟩:=e
  cases A1 ei
  cases A1 ej
  obtain ⟨x,y,L1,L2,rfl,h1,h2⟩:=A9 hs
  cases A6 h1
  cases A6 h2
  exact ⟨_,_,rfl,.inl ⟨i,j,rfl,rfl,k _ _ Dw⟩⟩
 ·simp only [bind_eq_some_iff,map_eq_some_iff] at e
  obtain ⟨i,ei,j,ej,rfl⟩:=e
  cases Ck ei
  cases Ck ej
  obtain ⟨x,y,L1,L2,rfl,h1,h2⟩:=A9 hs
  obtain ⟨rfl,_⟩:=Cs h1
  obtain ⟨rfl,_⟩:=Cs h2
  exact ⟨_,_,rfl,.inr ⟨i,j,rfl,rfl,k _ _ Dw⟩⟩
theorem Iu:OpN K leA (r2L T4):=by
 intro N H xs as b Q hs e k
 replace e:=BM e
 obtain ⟨a,b,rfl,e⟩:=e
 rcases or_eq_some_iff.mp e with e | ⟨_,e⟩
 ·simp only [bind_eq_some_iff,map_eq_some_iff] at e
  obtain ⟨i,ei,j,ej,rfl⟩:=e
  cases A1 ei
  cases A1 ej
  obtain ⟨x,y,L1,L2,rfl,h1,h2⟩:=A9 hs
  cases A6 h1
  cases A6 h2
  exact ⟨_,_,rfl,.inl ⟨i,j,rfl,rfl,k _ _ Dw⟩⟩
 ·simp only [bind_eq_some_iff,map_eq_some_iff] at e
  obtain ⟨i,ei,j,ej,rfl⟩:=e
  cases Ck ei
  cases Ck ej
  obtain ⟨x,y,L1,L2,rfl,h1,h2⟩:=A9 hs
  obtain ⟨rfl,_⟩:=Cs h1
  obtain ⟨rfl,_⟩:=Cs h2
  exact ⟨_,_,rfl,.inr ⟨i,j,rfl,rfl,k _ _ Dw⟩⟩
noncomputable def CO:D→Bool
 | .lst _=>false
 | .tup _=>false
 | .non | .bl _ | .int _ | .str _=>true
theorem Np {d:D} (r:RepA N H v d) (h:CO d = true):FG v = true:=by
 cases r with
 | lst=>simp [CO] at h
 | tup=>simp [CO] at h
 | _=>rfl
theorem Uv {x y:V} {d e:D} (r:RepA N H x d) (q:RepA N H y e) (hd:CO d = true) (he:CO e = true):eqV x y = eqD d e:=by
 cases r with
 | lst=>simp [CO] at hd
 | tup=>simp [CO] at hd
 | _ =>
  cases q with
  | lst=>simp [CO] at he
  | tup=>simp [CO] at he
  | _=>rfl
noncomputable def inD (d:D) (ds:List D):Bool:=ds.any fun e=>eqD e d
theorem Pz {x:V} {d:D} (r:RepA N H x d) (hd:CO d = true):∀ {vs:List V} {ds:List D},As N H vs ds→ds.all CO = true→vs.all FG = true∧inV x vs = inD d ds
 | [],[],_,_=>⟨rfl,rfl⟩
 | [],_ :: _,q,_=>by simp only [As] at q
 | _ :: _,[],q,_=>by simp only [As] at q
 | v :: vs,e :: ds,q,h=>by
  simp only [all_cons,and_eq_true] at h
  obtain ⟨h1,h2⟩:=Pz r hd q.2 h.2
  refine ⟨by simp [Np q.1 h.1,h1],?_⟩
  simp only [inV,inD,any_cons] at h2 ⊢
  rw [h2,Uv q.1 r h.1 hd]
noncomputable def inA (neg:Bool):List A→Option A:=on2 fun a b=>((BF a).bind fun x=>(BF b).map fun y=>A.fz (.bl (if neg then !(!(Builtin.Str.occurrences y x 0 y.length 1).isEmpty) else !(Builtin.Str.occurrences y x 0 y.length 1).isEmpty))).or ((fzU a).bind fun d=>(Br b).bind fun ds=>if CO d && ds.all CO then some (.fz (.bl (if neg then !inD d ds else inD d ds))) else none)
theorem JK (neg:Bool):OpN K (inA neg) (r2L fun x y H Q=>rIn K neg x y H Q∨∃ i j,x = .str i∧y = .str j∧Q (.bl (if neg then !(!(Builtin.Str.occurrences j i 0 j.length 1).isEmpty) else !(Builtin.Str.occurrences j i 0 j.length 1).isEmpty)) H):=by
 intro N H xs as b Q hs e k
 replace e:=BM e
 obtain ⟨a,b,rfl,e⟩:=e
 rcases or_eq_some_iff.mp e with e | ⟨_,e⟩
 ·simp only [bind_eq_some_iff,map_eq_some_iff] at e
  obtain ⟨i,ei,j,ej,rfl⟩:=e
  cases Ck ei
  cases Ck ej
  obtain ⟨x,y,L1,L2,rfl,h1,h2⟩:=A9 hs
  obtain ⟨rfl,_⟩:=Cs h1
  obtain ⟨rfl,_⟩:=Cs h2
  exact ⟨_,_,rfl,.inr ⟨i,j,rfl,rfl,k _ _ Dw⟩⟩
 ·simp only [bind_eq_some_iff] at e
  obtain ⟨d,ed,ds,e1,e2⟩:=e
  cases FO ed
  split at e2
  ·rename_i hz
   cases e2
   simp only [and_eq_true] at hz
   obtain ⟨x,y,L1,L2,rfl,h1,h2⟩:=A9 hs
   obtain ⟨_,h1⟩:=Ci.mp h1
   obtain ⟨p,vs,rfl,hp,q⟩:=Gq h2 e1
   obtain ⟨f1,f2⟩:=Pz h1 hz.1 q hz.2
   refine ⟨_,_,rfl,.inl ⟨p,vs,rfl,hp,Np h1 hz.1,f1,?_⟩⟩
   rw [f2]
   exact k _ _ Dw
  ·cases e2
theorem Iy {X:Cx}:OpR X (compareOp .In) (fun x y H Q=>rIn X.K false x y H Q∨∃ i j,x = .str i∧y = .str j∧Q (.bl (if false = true then !(!(Builtin.Str.occurrences j i 0 j.length 1).isEmpty) else !(Builtin.Str.occurrences j i 0 j.length 1).isEmpty)) H):=OJ.or OK
theorem ON {X:Cx}:OpR X (compareOp .NotIn) (fun x y H Q=>rIn X.K true x y H Q∨∃ i j,x = .str i∧y = .str j∧Q (.bl (if true = true then !(!(Builtin.Str.occurrences j i 0 j.length 1).isEmpty) else !(Builtin.Str.occurrences j i 0 j.length 1).isEmpty)) H):=Kv.or Kw
noncomputable def ixA:List A→Option A:=on2 fun a b=>(Bk b).bind fun i=>((BF a).bind fun z=>(atI z.cps.toList i).map fun c=>A.fz (.str ⟨#[c]⟩)).or ((Br a).bind fun ds=>(atI ds i).map A.fz)
theorem Up {vs:List V} {ds:List D} {i:Int} {d:D} (q:As N H vs ds) (e:atI ds i = some d):∃ v,atI vs i = some v∧RepA N H v d:=by
 unfold atI at e ⊢
 rw [q.len]
 simp only [bind_eq_some_iff] at e ⊢
 obtain ⟨j,e1,e2⟩:=e
 obtain ⟨v,hv⟩:=Ut q (Aw e2)
 exact ⟨v,⟨j,e1,hv⟩,q.get j v d hv e2⟩
theorem AS:OpN K ixA (r2L (rIx K)):=by
 intro N H xs as b Q hs e k
 replace e:=BM e
 obtain ⟨a,b,rfl,e⟩:=e
 obtain ⟨i,ei,e8⟩:=bind_eq_some_iff.mp e
 cases A1 ei
 rcases or_eq_some_iff.mp e8 with e | ⟨_,e⟩
 ·simp only [bind_eq_some_iff,map_eq_some_iff] at e
  obtain ⟨z,ez,c,e1,rfl⟩:=e
  cases Ck ez
  obtain ⟨x,y,L1,L2,rfl,h1,h2⟩:=A9 hs
  obtain ⟨rfl,hz⟩:=Cs h1
  cases A6 h2
  exact ⟨_,_,rfl,.inr (.inr ⟨z,i,c,rfl,rfl,hz,e1,k _ _ (GB (by show 1≤sizeLine; decide))⟩)⟩
 ·simp only [bind_eq_some_iff,map_eq_some_iff] at e
  obtain ⟨ds,e1,d,e2,rfl⟩:=e
  obtain ⟨x,y,L1,L2,rfl,h1,h2⟩:=A9 hs
  cases A6 h2
  obtain ⟨p,vs,rfl,hp,q⟩:=Gq h1 e1
  obtain ⟨v,hv,q2⟩:=Up q e2
  rcases hp with hp | hp
  ·exact ⟨_,_,rfl,.inl ⟨p,vs,i,v,rfl,rfl,hp,hv,k _ _ (Eh q2)⟩⟩
  ·exact ⟨_,_,rfl,.inr (.inl ⟨p,vs,i,v,rfl,rfl,hp,hv,k _ _ (Eh q2)⟩)⟩
noncomputable def Bs:List A→Option A:=on1 fun a=>((BF a).map fun z=>A.fz (.int z.length)).or ((Br a).map fun ds=>A.fz (.int ds.length))
theorem Cr:OpN K Bs (Xp K):=by
 intro N H xs as b Q hs e k
 replace e:=Dd e
 obtain ⟨a,rfl,e⟩:=e
 rcases or_eq_some_iff.mp e with e | ⟨_,e⟩
 ·obtain ⟨z,ez,rfl⟩:=map_eq_some_iff.mp e
  cases Ck ez
  obtain ⟨x,L1,rfl,h1⟩:=CJ hs
  obtain ⟨rfl,hz⟩:=Cs h1
  exact .inr ⟨z,rfl,hz,k _ _ Di⟩
 ·obtain ⟨ds,e1,rfl⟩:=map_eq_some_iff.mp e
  obtain ⟨x,L1,rfl,h1⟩:=CJ hs
  obtain ⟨p,vs,rfl,hp,q⟩:=Gq h1 e1
  refine .inl ⟨p,vs,rfl,hp,?_⟩
  rw [q.len]
  exact k _ _ Di
theorem Bb {X:Cx}:BX X (.builtin "len") (Xp X.K):=J3.or J4
noncomputable def O8:List A→Option A:=on1 fun q1=>(Bk q1).bind fun i=>some (.fz (.int (if i < 0 then -i else i)))
theorem Qe:OpN K O8 (fun xs H Q=>∃ i,xs = [.int i]∧Q (.int (if i < 0 then -i else i)) H):=by
 intro N H xs as b Q hs e k
 replace e:=Dd e
 obtain ⟨q1,rfl,e⟩:=e
 replace e:=bind_eq_some_iff.mp e
 obtain ⟨i,eq1,e⟩:=e
 cases A1 eq1
 clear eq1
 cases e
 obtain ⟨x,L1,rfl,h1⟩:=CJ hs
 cases A6 h1
 exact ⟨i,rfl,k _ _ Di⟩
noncomputable def Ds:List D→Option (List Bool)
 | []=>some []
 | .bl b :: ds=>(Ds ds).map (b :: ·)
 | _ :: _=>none
theorem HU:∀ {vs:List V} {ds:List D} {bs:List Bool},As N H vs ds→Ds ds = some bs→vs = DK bs
 | [],[],bs,_,e=>by simp [Ds] at e; subst e; rfl
 | [],_ :: _,_,q,_=>by simp only [As] at q
 | _ :: _,[],_,q,_=>by simp only [As] at q
 | v :: vs,d :: ds,bs,q,e=>by
  cases d with
  | bl b =>
   simp only [Ds,map_eq_some_iff] at e
   obtain ⟨bs',e1,rfl⟩:=e
   have:=HU q.2 e1
   obtain ⟨q1,_⟩:=q
   cases q1
   subst this
   rfl
  | _=>simp [Ds] at e
noncomputable def HQ:List A→Option A:=on1 fun a=>(C2 a).bind fun ds=>(Ds ds).map fun bs=>.fz (.bl (bs.all id))
noncomputable def Pa:List A→Option A:=on1 fun a=>(C2 a).bind fun ds=>(Ds ds).map fun bs=>.fz (.bl (bs.any id))
theorem Iq:OpN K HQ (X0 K):=by
 intro N H xs as b Q hs e k
 replace e:=Dd e
 obtain ⟨a,rfl,e⟩:=e
 simp only [bind_eq_some_iff,map_eq_some_iff] at e
 obtain ⟨ds,e1,bs,e2,rfl⟩:=e
 obtain ⟨x,L1,rfl,h1⟩:=CJ hs
 obtain ⟨p,vs,rfl,hp,hz,q⟩:=Eg h1 e1
 cases HU q e2
 exact ⟨p,bs,rfl,.inl (.inl hp),k _ _ Dw⟩
theorem U8:OpN K Pa (X1 K):=by
 intro N H xs as b Q hs e k
 replace e:=Dd e
 obtain ⟨a,rfl,e⟩:=e
 simp only [bind_eq_some_iff,map_eq_some_iff] at e
 obtain ⟨ds,e1,bs,e2,rfl⟩:=e
 obtain ⟨x,L1,rfl,h1⟩:=CJ hs
 obtain ⟨p,vs,rfl,hp,hz,q⟩:=Eg h1 e1
 cases HU q e2
 exact ⟨p,bs,rfl,.inl (.inl hp),k _ _ Dw⟩
noncomputable def E9 (f:D→Bool):List A→Option A:=on1 fun a=>(er a).map fun d=>.fz (.bl (f d))
theorem Vc {T:String} {f:D→Bool}:OpN K (E9 f) (r1L fun x H Q=>∃ d,Rep H x d∧Q (.bl (f d)) H):=by
 intro N H xs as b Q hs e k
 replace e:=Dd e
 obtain ⟨a,rfl,e⟩:=e
 simp only [map_eq_some_iff] at e
 obtain ⟨d,e1,rfl⟩:=e
 obtain ⟨x,L1,rfl,h1⟩:=CJ hs
 exact ⟨x,rfl,d,II h1 e1,k _ _ Dw⟩
theorem IU {T:String} {f:D→Bool} {m:ME} {σ:L2.St} {Q:VK} (h:tE K (opM (E9 f) (m1L m)) σ H Q):tCB (rIs T f) (Cc (tE K m) (Cc (tC (.ty T)) F7)) σ H Q:=by
 have h2:=one (Vc (T:=T)) h
 exact tE.mono h2 fun x H1 ⟨d,r,q⟩=>⟨x,d,rfl,r,q⟩
end
end J
end
section
namespace L2
open PySem PySem.Spec PyProof.Rows
section
variable {X:Cx}
noncomputable def OT:V→Option Int→Option Int→Hp→VK→Prop:=fun x lo hi H Q=>∃ z,x = .str z∧z.length≤sizeLine∧Q (.str (Txt.slice z lo hi)) H
theorem M8:SlR X OT:=by
 intro pins s σ H x v vl vu lo hi sl Q I rx hs pl pu h
 obtain ⟨z,rfl,hz,q⟩:=h
 obtain ⟨t,rfl⟩:=rx
 refine ⟨"str",_,F.slot_str_getitem.lookup,typeIs_str _ _ _,?_⟩
 have fin:∀ t' k,EP X pins σ Q (.str (Txt.slice z lo hi) t') { s with toks:=k }:=fun t' k=>⟨.str _,H,I.tok k,⟨_,rfl⟩,q⟩
 obtain ⟨o,ho,hc,hd⟩:=hs
 cases pl with
 | none =>
  cases pu with
  | none=>exact wpAny_getItem_str_slice (l:=none) (u:=none) (st:=none) ⟨o,ho,hc,hd⟩ rfl (post_val_or_str ⟨le_trans (slice_le z _ _) hz,fun t' k=>fin t' k⟩)
  | int j tj=>exact wpAny_getItem_str_slice (l:=none) (u:=some (j,tj)) (st:=none) ⟨o,ho,hc,hd⟩ rfl (post_val_or_str ⟨le_trans (slice_le z _ _) hz,fun t' k=>fin t' k⟩)
 | int i ti =>
  cases pu with
  | none=>exact wpAny_getItem_str_slice (l:=some (i,ti)) (u:=none) (st:=none) ⟨o,ho,hc,hd⟩ rfl (post_val_or_str ⟨le_trans (slice_le z _ _) hz,fun t' k=>fin t' k⟩)
  | int j tj=>exact wpAny_getItem_str_slice (l:=some (i,ti)) (u:=some (j,tj)) (st:=none) ⟨o,ho,hc,hd⟩ rfl (post_val_or_str ⟨le_trans (slice_le z _ _) hz,fun t' k=>fin t' k⟩)
end
end L2
namespace J
open PySem PySem.Spec PyProof.Rows L2
section
variable {X:Cx} {a b c e:Expr} {es:List Expr} {m m1 m2 m3:ME} {ms:MA} {p pos pos' p2 apos cpos q:Pos} {x:Str}
variable {K:Frag} {H:Hp} {σ:L2.St}
theorem UL (hg:Gl X "isinstance") (hg2:Gl X "int") (B:Blt X.mg X.K) (he:starEach [a,.Name "int" q] X.env = [(false,eval a X.env),(false,eval (.Name "int" q) X.env)]) (he2:starEach [.Name "int" q] X.env = [(false,eval (.Name "int" q) X.env)]) (ha:JE X a m) :
  JE X (.Call (.Name "isinstance" p) [a,.Name "int" q] [] pos) (opM (E9 isInt) (m1L m)):=AA (Vs hg hg2 B he he2 ha) fun _ _ _ h=>IU h
theorem PL (hg:Gl X "isinstance") (hg2:Gl X "bool") (B:Blt X.mg X.K) (he:starEach [a,.Name "bool" q] X.env = [(false,eval a X.env),(false,eval (.Name "bool" q) X.env)]) (he2:starEach [.Name "bool" q] X.env = [(false,eval (.Name "bool" q) X.env)]) (ha:JE X a m) :
  JE X (.Call (.Name "isinstance" p) [a,.Name "bool" q] [] pos) (opM (E9 isBool) (m1L m)):=AA (Vr hg hg2 B he he2 ha) fun _ _ _ h=>IU h
theorem PM (hg:Gl X "isinstance") (hg2:Gl X "list") (B:Blt X.mg X.K) (he:starEach [a,.Name "list" q] X.env = [(false,eval a X.env),(false,eval (.Name "list" q) X.env)]) (he2:starEach [.Name "list" q] X.env = [(false,eval (.Name "list" q) X.env)]) (ha:JE X a m) :
  JE X (.Call (.Name "isinstance" p) [a,.Name "list" q] [] pos) (opM (E9 Hh) (m1L m)):=AA (Vt hg hg2 B he he2 ha) fun _ _ _ h=>IU h
theorem UM (hg:Gl X "isinstance") (hg2:Gl X "tuple") (B:Blt X.mg X.K) (he:starEach [a,.Name "tuple" q] X.env = [(false,eval a X.env),(false,eval (.Name "tuple" q) X.env)]) (he2:starEach [.Name "tuple" q] X.env = [(false,eval (.Name "tuple" q) X.env)]) (ha:JE X a m) :
  JE X (.Call (.Name "isinstance" p) [a,.Name "tuple" q] [] pos) (opM (E9 isTup) (m1L m)):=AA (Vu hg hg2 B he he2 ha) fun _ _ _ h=>IU h
theorem PN (hg:Gl X "isinstance") (hg2:Gl X "str") (B:Blt X.mg X.K) (he:starEach [a,.Name "str" q] X.env = [(false,eval a X.env),(false,eval (.Name "str" q) X.env)]) (he2:starEach [.Name "str" q] X.env = [(false,eval (.Name "str" q) X.env)]) (ha:JE X a m) :
  JE X (.Call (.Name "isinstance" p) [a,.Name "str" q] [] pos) (opM (E9 isStr) (m1L m)):=AA (Vv hg hg2 B he he2 ha) fun _ _ _ h=>IU h
noncomputable def Ya:A→Option (Option Int)
 | .fz (.int i)=>some (some i)
 | _=>none
noncomputable def slF (x:A) (lo hi:Option Int):Option A:=match x with
 | .fz (.str z)=>some (.fz (.str (Txt.slice z lo hi)))
 | _=>none
noncomputable def DE:List A→Option A:=on2 fun x q2=>(Bk q2).bind fun j=>slF x none (some j)
noncomputable def Dn:List A→Option A:=on2 fun x q2=>(Bk q2).bind fun i=>slF x (some i) none
noncomputable def Ct:List A→Option A:=on3 fun x q2 q3=>(Bk q2).bind fun i=>(Bk q3).bind fun j=>slF x (some i) (some j)
theorem M7 {N:Addr→Prop} {v:V} {a b:A} {L:List Addr} {lo hi:Option Int} {Q:VK} (h:Aq K N H v a L) (e:slF a lo hi = some b) (k:∀ u H',K2 K N H b u H'→Q u H'):OT v lo hi H Q:=by
 unfold slF at e
 split at e
 ·rename_i z
  cases e
  obtain ⟨rfl,hz⟩:=Cs h
  exact ⟨z,rfl,hz,k _ _ (GB (le_trans (slice_le z _ _) hz))⟩
 ·cases e
theorem Gu (ha:JE X a m1) (hb:JE X b m2):JE X (.Subscript a (.Slice none (some b) none p2) pos) (opM DE (m2L m1 m2)):=by
 refine AA (LO M8 ha NS (NT hb)) fun σ H Q h=>?_
 have ok:OpN X.K DE (r2L fun x y H Q=>∃ j,y = .int j∧OT x none (some j) H Q):=by
  intro N H xs as b Q hs e k
  replace e:=BM e
  obtain ⟨x,q2,rfl,e⟩:=e
  replace e:=bind_eq_some_iff.mp e
  obtain ⟨j,eq2,e⟩:=e
  cases A1 eq2
  clear eq2
  obtain ⟨x,y,L1,L2,rfl,h1,h2⟩:=A9 hs
  cases A6 h2
  exact ⟨_,_,rfl,j,rfl,M7 h1 e k⟩
 exact tE.mono (two ok h) fun x H1 h1=>tE.mono h1 fun y H2 ⟨j,e,q⟩=>⟨j,e,q⟩
theorem Gv (ha:JE X a m1) (hb:JE X b m2):JE X (.Subscript a (.Slice (some b) none none p2) pos) (opM Dn (m2L m1 m2)):=by
 refine AA (LO M8 ha (NT hb) NS) fun σ H Q h=>?_
 have ok:OpN X.K Dn (r2L fun x y H Q=>∃ j,y = .int j∧OT x (some j) none H Q):=by
  intro N H xs as b Q hs e k
  replace e:=BM e
  obtain ⟨x,q2,rfl,e⟩:=e
  replace e:=bind_eq_some_iff.mp e
  obtain ⟨j,eq2,e⟩:=e
  cases A1 eq2
  clear eq2
  obtain ⟨x,y,L1,L2,rfl,h1,h2⟩:=A9 hs
  cases A6 h2
  exact ⟨_,_,rfl,j,rfl,M7 h1 e k⟩
 exact tE.mono (two ok h) fun x H1 h1=>tE.mono h1 fun y H2 ⟨j,e,q⟩=>⟨j,e,q⟩
noncomputable def Dp:List D→Option (List Str)
 | []=>some []
 | .str z :: ds=>(Dp ds).map (z :: ·)
 | _ :: _=>none
theorem HJ {N:Addr→Prop}:∀ {vs:List V} {ds:List D} {zs:List Str},As N H vs ds→Dp ds = some zs→vs = zs.map V.str
 | [],[],zs,_,e=>by simp [Dp] at e; subst e; rfl
 | [],_ :: _,_,q,_=>by simp only [As] at q
 | _ :: _,[],_,q,_=>by simp only [As] at q
 | v :: vs,d :: ds,zs,q,e=>by
  cases d with
  | str z =>
   simp only [Dp,map_eq_some_iff] at e
   obtain ⟨zs',e1,rfl⟩:=e
   have:=HJ q.2 e1
   obtain ⟨q1,_⟩:=q
   cases q1
   subst this
   rfl
  | _=>simp [Dp] at e
theorem Pw (zs:List Str):(glue zs).length = (zs.map (·.length)).sum:=by
 show (glue zs).cps.size = _
 simp [glue,List.length_flatten,Function.comp_def]
 rfl
theorem Tb {sep:Str} (h:sep.length = 0):sep = ("" : Str):=by
 cases sep with
 | mk c =>
  have:c = #[]:=Array.eq_empty_of_size_eq_zero h
  subst this
  decide +kernel
noncomputable def DF (f:Str→List A→Option A) (m:ME) (ms:MA):ME:=fun ρ=>(m ρ).bind fun p=>match p.1 with
 | .val (.fz (.str z))=>(ms p.2).bind fun q=>(peeks q.2 q.1).bind fun as=>(f z as).map fun a=>(.val a,q.2)
 | _=>none
theorem Ra {f:Str→List A→Option A} {r:V→List V→Hp→VK→Prop} {Q:VK} (ok:∀ z,z.length≤sizeLine→OpN K (f z) fun xs H Q=>r (.str z) xs H Q) (h:tE K (DF f m ms) σ H Q):tBM K "str" r (tE K m) (tA K ms) σ H Q:=by
 obtain ⟨ρ,O,fp,rl,y,ρ',h0,k⟩:=h
 simp only [DF,bind_eq_some_iff] at h0
 obtain ⟨⟨r1,ρ1⟩,e1,h0⟩:=h0
 dsimp only at h0
 split at h0
 ·rename_i z
  simp only [bind_eq_some_iff,map_eq_some_iff] at h0
  obtain ⟨⟨rs,ρ2⟩,e2,as,e3,c,e4,e5⟩:=h0
  cases e5
  refine ⟨ρ,O,fp,rl,_,ρ1,e1,fun v H1 yy=>?_⟩
  obtain ⟨L,fp1,p,q⟩:=yy
  obtain ⟨rfl,hz⟩:=Cs (K:=K) q
  have p':=p.drop0
  refine ⟨rfl,ρ1,O,fp1,p'.rel0,rs,ρ2,e2,fun vs H2 yy=>?_⟩
  obtain ⟨L2,fp2,p2,q2⟩:=yy
  exact ok z hz _ H2 vs as c Q (p2.rel.peeks q2 e3) e4 fun u H3 o=>k u H3 ((p2.out o).pre p')
 ·cases h0
noncomputable def CB (sep:Str):List A→Option A:=on1 fun b=>if sep.length = 0 then (C2 b).bind fun ds=>(Dp ds).bind fun zs=>if (zs.map (·.length)).sum≤16777216 then some (.fz (.str (glue zs))) else none else none
theorem Se (sep:Str) (hz:sep.length≤sizeLine):OpN K (CB sep) fun xs H Q=>rJoin K (.str sep) xs H Q:=by
 intro N H xs as b Q hs e k
 replace e:=Dd e
 obtain ⟨b,rfl,e⟩:=e
 split at e
 ·rename_i h0
  simp only [bind_eq_some_iff] at e
  obtain ⟨ds,e1,zs,e2,e3⟩:=e
  split at e3
  ·rename_i hl
   cases e3
   obtain ⟨x,L1,rfl,h1⟩:=CJ hs
   obtain ⟨p,vs,rfl,hp,hz',q⟩:=Eg h1 e1
   cases HJ q e2
   cases Tb h0
   refine ⟨_,p,zs,rfl,rfl,.inl (.inl hp),?_,?_⟩
   ·have:("" : Str).length = 0:=by decide +kernel
    rw [this,Nat.mul_zero,Nat.add_zero]
    exact hl
   ·rw [Mw]
    exact k _ _ (GB (by rw [Pw]; exact hl))
  ·cases e3
 ·cases e
theorem Fz (hbase:attributeBase a "join" X.env (eval a X.env) = eval a X.env) (hline:(apos.endLine == cpos.line) = true) (B:Blt X.mg X.K) (hs:starEach [e] X.env = [(false,eval e X.env)]) (ha:JE X a m1) (he:JE X e m2) :
  JE X (.Call (.Attribute a "join" apos) [e] [] cpos) (DF CB m1 (m1L m2)):=by
 refine AA (Sz rfl B hbase hline hs ha he) fun σ H Q h=>?_
 exact tE.mono (Ra Se h) fun x H1 ⟨ty,q⟩=>⟨ty,DG q |> fun q=>tE.mono q fun y H2 q=>Hb q⟩
noncomputable def Ic (z:Str):List A→Option A:=on1 fun q1=>(BF q1).bind fun y=>if 0≤Txt.find z y then some (.fz (.int (Txt.find z y))) else none
theorem Qh (z:Str) (hz:z.length≤sizeLine):OpN K (Ic z) fun xs H Q=>MQ (.str z) xs H Q:=by
 intro N H xs as b Q hs e k
 replace e:=Dd e
 obtain ⟨q1,rfl,e⟩:=e
 replace e:=bind_eq_some_iff.mp e
 obtain ⟨y,eq1,e⟩:=e
 cases Ck eq1
 clear eq1
 split at e
 ·rename_i h0
  cases e
  obtain ⟨x,L1,rfl,h1⟩:=CJ hs
  obtain ⟨rfl,_⟩:=Cs h1
  exact ⟨z,y,rfl,rfl,h0,k _ _ Di⟩
 ·cases e
theorem PK (hbase:attributeBase a "index" X.env (eval a X.env) = eval a X.env) (hline:(apos.endLine == cpos.line) = true) (B:Blt X.mg X.K) (hc:X.calm = true) (hs:starEach [e] X.env = [(false,eval e X.env)]) (ha:JE X a m1) (he:JE X e m2) :
  JE X (.Call (.Attribute a "index" apos) [e] [] cpos) (DF Ic m1 (m1L m2)):=by
 refine AA (Qo rfl B hc hbase hline hs ha he) fun σ H Q h=>?_
 exact tE.mono (Ra Qh h) fun x H1 ⟨ty,q⟩=>⟨ty,DG q |> fun q=>tE.mono q fun y H2 q=>Hb q⟩
noncomputable def Hf:List D→Option (List Int)
 | []=>some []
 | .int z :: ds=>(Hf ds).map (z :: ·)
 | _ :: _=>none
theorem Ny {N:Addr→Prop}:∀ {vs:List V} {ds:List D} {zs:List Int},As N H vs ds→Hf ds = some zs→vs = zs.map V.int
 | [],[],zs,_,e=>by simp [Hf] at e; subst e; rfl
 | [],_ :: _,_,q,_=>by simp only [As] at q
 | _ :: _,[],_,q,_=>by simp only [As] at q
 | v :: vs,d :: ds,zs,q,e=>by
  cases d with
  | int z =>
   simp only [Hf,map_eq_some_iff] at e
   obtain ⟨zs',e1,rfl⟩:=e
   have:=Ny q.2 e1
   obtain ⟨q1,_⟩:=q
   cases q1
   subst this
   rfl
  | _=>simp [Hf] at e
end
section
variable {K:Frag} {ρ ρ' ρ1 ρ2:Ro} {σ σ' σ1 σ2:L2.St} {H H' H1 H2:Hp} {O O' N:Addr→Prop} {fp fp' fp1 fp2:Nat→List Addr} {L L1:List Addr}
theorem Post.mut {i:Nat} {st:Own} {a a':A} {v:V} {p:Addr} {o:HO} {vs:List V} {L':List Addr} (x:Post K O fp H ρ ρ1 σ σ L fp1 H1) (hi : ρ1[i]? = some (some (st,a))) (hst:st ≠ .ro) (hv : σ[i]? = some (some v)) (hp:p∈fp1 i) (hy:H1 p = some (.lst vs))
  (hL:∀ q∈L',q∈fp1 i∨q∈L) (nd:L'.Nodup) (hr:Aq K (NN fp1 (ad O L)) (upd H1 p o) v a' L'):Post K O fp H ρ (ρ1.set i (some (st,a'))) σ σ [] (pt fp1 i L') (upd H1 p o):=by
 have alp:∀ q,H1 q≠none→upd H1 p o q≠none:=fun q z=>by
  by_cases e:q = p
  ·subst e; rw [AK]; simp
  ·rw [AH e]; exact z
 have k:=Ey (o:=o) hy
 -- first the heap,then the slot
 have nn:∀ q,NN (pt fp1 i L') (ad O []) q→NN fp1 (ad O L) q:=fun q z=>by
  rcases z with ⟨j,z⟩ | z | z
  ·rcases Bl z with ⟨_,z⟩ | ⟨_,z⟩
   ·rcases hL q z with z | z
    ·exact .inl ⟨i,z⟩
    ·exact .inr (.inr z)
   ·exact .inl ⟨j,z⟩
  ·exact .inr (.inl z)
  ·simp at z
 have dis:∀ q∈L',∀ j,j≠i→q ∉ fp1 j:=fun q hq j hj z=>by
  rcases hL q hq with w | w
  ·exact hj (x.rel.inj j i q z w)
  ·exact x.rel.off j q z (.inr w)
 refine ⟨⟨by rw [length_set]; exact x.rel.len,fun j st' b e=>?_,fun j h=>?_,fun j=>?_,fun j1 j2 q h1 h2=>?_,fun j q h z=>?_,fun q z=>alp q (x.rel.al q (nn q z))⟩,nodup_nil,fun q h=>by simp at h,fun q h=>?_,fun b u e c=>?_,rfl,fun j st' b e h=>?_⟩
 ·by_cases hj:j = i
  ·subst hj
   rw [getElem?_set_self (Aw hi)] at e
   cases e
   exact ⟨v,hv,by rw [D6]; exact Dq nn hr⟩
  ·rw [getElem?_set_ne (Ne.symm hj)] at e
   obtain ⟨w,e1,q⟩:=x.rel.slot j _ _ e
   refine ⟨w,e1,?_⟩
   rw [Fq hj]
   exact q.tr (M:=fun q=>q = p) (fun b z=>by rw [z]; exact .inl ⟨i,hp⟩) k (fun b z=>.inl (nn b z)) fun b hb z=>hj (x.rel.inj j i p (z ▸ hb) hp)
 ·by_cases hj:j = i
  ·subst hj
   exact absurd (getElem?_set_self (Aw hi)) (h st a')
  ·rw [Fq hj]
   exact x.rel.out j fun st' b e=>h st' b (by rw [getElem?_set_ne (Ne.symm hj)]; exact e)
 ·by_cases hj:j = i
  ·subst hj; rw [D6]; exact nd
  ·rw [Fq hj]; exact x.rel.nd j
 ·rcases Bl h1 with ⟨e1,z1⟩ | ⟨e1,z1⟩
  ·rcases Bl h2 with ⟨e2,z2⟩ | ⟨e2,z2⟩
   ·rw [e1,e2]
   ·exact absurd z2 (dis q z1 j2 e2)
  ·rcases Bl h2 with ⟨e2,z2⟩ | ⟨e2,z2⟩
   ·exact absurd z1 (dis q z2 j1 e1)
   ·exact x.rel.inj j1 j2 q z1 z2
 ·have z':=HN.mp z
  rcases Bl h with ⟨_,z1⟩ | ⟨_,z1⟩
  ·rcases hL q z1 with w | w
   ·exact x.rel.off i q w (.inl z')
   ·exact x.lo q w z'
  ·exact x.rel.off j q z1 (.inl z')
 ·rcases h with h | ⟨j,h⟩
  ·simp at h
  ·rcases Bl h with ⟨_,z1⟩ | ⟨_,z1⟩
   ·rcases hL q z1 with w | w
    ·exact x.new q (.inr ⟨i,w⟩)
    ·exact x.new q (.inl w)
   ·exact x.new q (.inr ⟨j,z1⟩)
 ·have e1:=x.kept b u e c
  by_cases hb:b = p
  ·subst hb
   rw [hy] at e1
   cases e1
   rcases c with c | c
   ·rcases x.new b (.inr ⟨i,hp⟩) with z | z
    ·exact absurd z c
    ·rw [e] at z; cases z
   ·cases c
  ·rw [AH hb]; exact e1
 ·obtain ⟨b',e1,_,f⟩:=x.stab j st' b e h
  by_cases hj:j = i
  ·subst hj
   rw [hi] at e1
   cases e1
   exact ⟨a',getElem?_set_self (Aw hi),rfl,fun z=>absurd z hst⟩
  ·exact ⟨b',by rw [getElem?_set_ne (Ne.symm hj)]; exact e1,rfl,f⟩
theorem Ao.app:∀ {vs ws:List V} {as bs:List A} {L1 L2:List Addr},Ao K N H vs as L1→Ao K N H ws bs L2→Ao K N H (vs ++ ws) (as ++ bs) (L1 ++ L2)
 | [],ws,[],bs,L1,L2,r,q=>by
  simp only [Ao] at r
  subst r
  exact q
 | [],_,_ :: _,_,_,_,r,_=>by simp only [Ao] at r
 | _ :: _,_,[],_,_,_,r,_=>by simp only [Ao] at r
 | v :: vs,ws,a :: as,bs,L1,L2,r,q=>by
  simp only [Ao] at r
  obtain ⟨M1,M2,rfl,h1,h2⟩:=r
  simp only [cons_append,Ao]
  exact ⟨M1,M2 ++ L2,by simp,h1,Ao.app h2 q⟩
noncomputable def E8 (ρ:Ro) (i:Nat):Option (Own × List A):=match ρ[i]? with
 | some (some (.ro,_))=>none
 | some (some (st,.lst as))=>some (st,as)
 | _=>none
theorem Fx {i:Nat} {st:Own} {as:List A} (h:E8 ρ i = some (st,as)) : ρ[i]? = some (some (st,.lst as))∧st ≠ .ro:=by
 unfold E8 at h
 split at h
 ·cases h
 ·rename_i st' as' hn e
  cases h
  exact ⟨e,fun z=>hn z⟩
 ·cases h
noncomputable def DB (i:Nat) (m:ME):MS:=fun ρ=>(E8 ρ i).bind fun _=>(m ρ).bind fun p=>(keep p.2 p.1).bind fun q=>(E8 q.2 i).bind fun h=>if h.2.length < LIM then some (.next (q.2.set i (some (h.1,.lst (h.2 ++ [q.1]))))) else none
theorem Wk {i:Nat} {m:ME} {D:Ends} (h:tS K (DB i m) D σ H):N8 (tBM K "list" NV (Nc i) (Cc (tE K m) F7)) D σ H:=by
 obtain ⟨ρ,O,fp,rl,fl,e,w⟩:=h
 simp only [DB,bind_eq_some_iff] at e
 obtain ⟨⟨st0,as0⟩,e0,⟨r,ρ1⟩,e1,⟨a,ρ2⟩,e2,⟨st,as⟩,e3,e4⟩:=e
 split at e4
 ·rename_i hz
  cases e4
  obtain ⟨g0,_⟩:=Fx e0
  obtain ⟨v,hv,q0⟩:=rl.slot i _ _ g0
  rw [Aq] at q0
  obtain ⟨p0,vs0,_,rfl,_,hp0,_,_⟩:=q0
  refine ⟨_,hv,.inl ⟨rfl,vs0,.inl (.inl hp0)⟩,ρ,O,fp,rl,r,ρ1,e1,fun y H1 yy=>?_⟩
  obtain ⟨L,fp1,p,q⟩:=yy
  obtain ⟨L2,fp2,p2,q2⟩:=GY p q e2
  obtain ⟨g,gst⟩:=Fx e3
  obtain ⟨v',hv',qi⟩:=p2.rel.slot i _ _ g
  rw [hv] at hv'; cases hv'
  rw [Aq] at qi
  obtain ⟨pa,vs,L',e5,e6,hp,hz',hs⟩:=qi
  cases e5
  have hlen:=hs.len
  refine ⟨p0,vs,y,rfl,rfl,hp,by rw [hlen]; exact hz,w _ _ _ (p2.mut (a':=.lst (as ++ [a])) (L':=p0 :: (L' ++ L2)) g gst hv (by rw [e6]; simp) hp (fun b hb=>?_) ?_ ?_)⟩
  ·rcases mem_cons.mp hb with rfl | hb
   ·rw [e6]; simp
   ·rcases mem_append.mp hb with hb | hb
    ·rw [e6]; simp [hb]
    ·exact .inr hb
  ·have n1:=p2.rel.nd i
   rw [e6] at n1
   have n2:(p0 :: L').Nodup:=n1
   have:((p0 :: L') ++ L2).Nodup:=nodup_append.mpr ⟨n2,p2.nd,fun b hb c hc e=>by
    subst e
    exact p2.rel.off i b (by rw [e6]; exact hb) (.inr hc)⟩
   simpa using this
  ·rw [Aq]
   have k:=Ey (o:=.lst (vs ++ [y])) hp
   have pn:NN fp2 (ad O L2) p0:=.inl ⟨i,by rw [e6]; simp⟩
   have n1:=p2.rel.nd i
   rw [e6] at n1
   have h1:Ao K (NN fp2 (ad O L2)) (upd H1 p0 (.lst (vs ++ [y]))) vs as L':=hs.tr (M:=fun b=>b = p0) (fun b z=>z ▸ pn) k (fun b z=>.inl z) fun b hb z=>by
    subst z
    exact (nodup_cons.mp n1).1 hb
   have h2:Aq K (NN fp2 (ad O L2)) (upd H1 p0 (.lst (vs ++ [y]))) y a L2:=q2.tr (M:=fun b=>b = p0) (fun b z=>z ▸ pn) k (fun b z=>.inl z) fun b hb z=>by
    subst z
    exact p2.rel.off i b (by rw [e6]; simp) (.inr hb)
   have h3:Ao K (NN fp2 (ad O L2)) (upd H1 p0 (.lst (vs ++ [y]))) [y] [a] L2:=by
    simp only [Ao]
    exact ⟨L2,[],by simp,h2,rfl⟩
   refine ⟨p0,vs ++ [y],L' ++ L2,rfl,rfl,AK,?_,Ao.app h1 h3⟩
   rw [length_append,hlen]
   exact hz
 ·cases e4
noncomputable def GS (i:Nat) (m:ME):MS:=fun ρ=>(E8 ρ i).bind fun _=>(m ρ).bind fun p=>(peek p.2 p.1).bind fun b=>(C2 b).bind fun ds=>(E8 p.2 i).bind fun h=>if h.2.length + ds.length≤LIM then some (.next (p.2.set i (some (h.1,.lst (h.2 ++ ds.map A.fz))))) else none
theorem Wm {i:Nat} {m:ME} {D:Ends} (h:tS K (GS i m) D σ H):N8 (tBM K "list" NW (Nc i) (Cc (tE K m) F7)) D σ H:=by
 obtain ⟨ρ,O,fp,rl,fl,e,w⟩:=h
 simp only [GS,bind_eq_some_iff] at e
 obtain ⟨⟨st0,as0⟩,e0,⟨r,ρ1⟩,e1,bb,e2,ds,e2',⟨st,as⟩,e3,e4⟩:=e
 split at e4
 ·rename_i hz
  cases e4
  obtain ⟨g0,_⟩:=Fx e0
  obtain ⟨v,hv,q0⟩:=rl.slot i _ _ g0
  rw [Aq] at q0
  obtain ⟨p0,vs0,_,rfl,_,hp0,_,_⟩:=q0
  refine ⟨_,hv,.inl ⟨rfl,vs0,.inl (.inl hp0)⟩,ρ,O,fp,rl,r,ρ1,e1,fun y H1 yy=>?_⟩
  obtain ⟨L,fp1,p,q⟩:=yy
  obtain ⟨Lb,qb⟩:=p.rel.peek q e2
  obtain ⟨pb,ws,rfl,hpb,hzb,qd⟩:=Eg qb e2'
  have p2:=p.drop0
  obtain ⟨g,gst⟩:=Fx e3
  obtain ⟨v',hv',qi⟩:=p2.rel.slot i _ _ g
  rw [hv] at hv'; cases hv'
  rw [Aq] at qi
  obtain ⟨pa,vs,L',e5,e6,hp,hz',hs⟩:=qi
  cases e5
  have hlen:=hs.len
  have hl2:vs.length + ws.length≤sizeLine:=by rw [hlen,qd.len]; exact hz
  refine ⟨p0,pb,vs,ws,rfl,rfl,hp,hpb,hl2,w _ _ _ (p2.mut (a':=.lst (as ++ ds.map A.fz)) (L':=p0 :: L') g gst hv (by rw [e6]; simp) hp (fun b hb=>.inl (by rw [e6]; exact hb)) (by have:=p2.rel.nd i; rw [e6] at this; exact this) ?_)⟩
  rw [Aq]
  have k:=Ey (o:=.lst (vs ++ ws)) hp
  have pn:NN fp1 (ad O []) p0:=.inl ⟨i,by rw [e6]; simp⟩
  have n1:=p2.rel.nd i
  rw [e6] at n1
  have h1:Ao K (NN fp1 (ad O [])) (upd H1 p0 (.lst (vs ++ ws))) vs as L':=hs.tr (M:=fun b=>b = p0) (fun b z=>z ▸ pn) k (fun b z=>.inl z) fun b hb z=>by
   subst z
   exact (nodup_cons.mp n1).1 hb
  have h2:As (NN fp1 (ad O [])) (upd H1 p0 (.lst (vs ++ ws))) ws ds:=(Jb (fun b z=>z.imp id fun y=>y.imp id fun y=>by simp at y) qd).tr (M:=fun b=>b = p0) (fun b z=>z ▸ pn) k fun b z=>.inl z
  refine ⟨p0,vs ++ ws,L',rfl,rfl,AK,by rw [length_append]; exact hl2,?_⟩
  have:=Ao.app h1 (Ao.of h2)
  rw [append_nil] at this
  exact this
 ·cases e4
noncomputable def LS (i:Nat) (mk me:ME):MS:=fun ρ=>(me ρ).bind fun p=>(share p.2 p.1).bind fun s=>(E8 s.2 i).bind fun _=>(mk s.2).bind fun t=>match t.1 with
 | .val (.fz (.int k))=>(E8 t.2 i).bind fun h=>(ixN h.2.length k).map fun j=>.next (t.2.set i (some (h.1,.lst (h.2.set j (.fz s.1)))))
 | _=>none
theorem Ao.setFz:∀ {vs:List V} {as:List A} {L:List Addr} {j:Nat} {v:V} {d:D},Ao K N H vs as L→RepA N H v d→∃ L',Ao K N H (vs.set j v) (as.set j (.fz d)) L'∧(∀ q∈L',q∈L)∧(L.Nodup→L'.Nodup)
 | [],[],L,j,v,d,r,_=>⟨L,by simpa using r,fun _ h=>h,id⟩
 | [],_ :: _,_,_,_,_,r,_=>by simp only [Ao] at r
 | _ :: _,[],_,_,_,_,r,_=>by simp only [Ao] at r
 | x :: vs,a :: as,L,0,v,d,r,q=>by
  simp only [Ao] at r
  obtain ⟨M1,M2,rfl,h1,h2⟩:=r
  refine ⟨M2,?_,fun b h=>mem_append_right _ h,fun h=>(nodup_append.mp h).2.1⟩
  simp only [List.set_cons_zero,Ao]
  exact ⟨[],M2,rfl,Et q,h2⟩
 | x :: vs,a :: as,L,j + 1,v,d,r,q=>by
  simp only [Ao] at r
  obtain ⟨M1,M2,rfl,h1,h2⟩:=r
  obtain ⟨L',g1,g2,g3⟩:=Ao.setFz (j:=j) h2 q
  refine ⟨M1 ++ L',?_,fun b h=>?_,fun h=>?_⟩
  ·simp only [List.set_cons_succ,Ao]
   exact ⟨M1,L',rfl,h1,g1⟩
  ·rcases mem_append.mp h with h | h
   ·exact mem_append_left _ h
   ·exact mem_append_right _ (g2 b h)
  ·obtain ⟨n1,n2,n3⟩:=nodup_append.mp h
   exact nodup_append.mpr ⟨n1,g3 n2,fun b hb c hc e=>n3 b hb c (g2 c hc) e⟩
theorem Wo {i:Nat} {mk me:ME} {D:Ends} (h:tS K (LS i mk me) D σ H):Q6 (tE K me) (WV (Nc i) (tE K mk) T9) D σ H:=by
 obtain ⟨ρ,O,fp,rl,fl,e,w⟩:=h
 simp only [LS,bind_eq_some_iff] at e
 obtain ⟨⟨r,ρ1⟩,e1,⟨d,ρ2⟩,e2,⟨st0,as0⟩,e0,⟨r3,ρ3⟩,e3,e4⟩:=e
 dsimp only at e4
 split at e4
 ·rename_i kk
  simp only [bind_eq_some_iff,map_eq_some_iff] at e4
  obtain ⟨⟨st,as⟩,e5,j,e6,e7⟩:=e4
  cases e7
  refine ⟨ρ,O,fp,rl,r,ρ1,e1,fun y H1 yy=>?_⟩
  obtain ⟨L,fp1,p,q⟩:=yy
  obtain ⟨fp2,p2,q2⟩:=DW p q e2
  obtain ⟨g0,_⟩:=Fx e0
  obtain ⟨v,hv,q0⟩:=p2.rel.slot i _ _ g0
  rw [Aq] at q0
  obtain ⟨p0,vs0,_,rfl,_,hp0,_,_⟩:=q0
  refine ⟨_,hv,ρ2,O,fp2,p2.rel0,_,ρ3,e3,fun y2 H2 yy=>?_⟩
  obtain ⟨L3,fp3,p3,q3⟩:=yy
  cases A6 (K:=K) q3
  have p4:=(p2.next p3).drop0
  obtain ⟨g,gst⟩:=Fx e5
  obtain ⟨v',hv',qi⟩:=p4.rel.slot i _ _ g
  rw [hv] at hv'; cases hv'
  rw [Aq] at qi
  obtain ⟨pa,vs,L',e8,e9,hp,hz',hs⟩:=qi
  cases e8
  have hlen:=hs.len
  have qy:RepA (NN fp3 (ad O [])) H2 y d:=(Ft (fun b z=>FU.mpr z) q2).tr (M:=Fp fp2) (fun b z=>.inl z) p3.kept fun b z=>by
   rcases z with z | z | z
   ·exact (p3.new b (.inr z)).imp (fun y=>.inl y) id
   ·exact .inl (.inr z)
   ·simp at z
  have k:=Ey (o:=.lst (vs.set j y)) hp
  have pn:NN fp3 (ad O []) p0:=.inl ⟨i,by rw [e9]; simp⟩
  have n1:=p4.rel.nd i
  rw [e9] at n1
  have h1:Ao K (NN fp3 (ad O [])) (upd H2 p0 (.lst (vs.set j y))) vs as L':=hs.tr (M:=fun b=>b = p0) (fun b z=>z ▸ pn) k (fun b z=>.inl z) fun b hb z=>by
   subst z
   exact (nodup_cons.mp n1).1 hb
  have h2:RepA (NN fp3 (ad O [])) (upd H2 p0 (.lst (vs.set j y))) y d:=qy.tr (M:=fun b=>b = p0) (fun b z=>z ▸ pn) k fun b z=>.inl z
  obtain ⟨L4,g1,g2,g3⟩:=Ao.setFz (j:=j) h1 h2
  refine ⟨p0,vs,kk,j,rfl,rfl,hp,by rw [hlen]; exact e6,w _ _ _ (p4.mut (a':=.lst (as.set j (.fz d))) (L':=p0 :: L4) g gst hv (by rw [e9]; simp) hp (fun b hb=>?_) ?_ ?_)⟩
  ·rcases mem_cons.mp hb with rfl | hb
   ·exact .inl (by rw [e9]; simp)
   ·exact .inl (by rw [e9]; simp [g2 b hb])
  ·exact nodup_cons.mpr ⟨fun z=>(nodup_cons.mp n1).1 (g2 _ z),g3 (nodup_cons.mp n1).2⟩
  ·rw [Aq]
   exact ⟨p0,vs.set j y,L4,rfl,rfl,AK,by rw [length_set]; exact hz',g1⟩
 ·cases e4
end
section
variable {X:Cx} {a b c e:Expr} {es:List Expr} {m m1 m2 m3:ME} {ms:MA} {p pos pos' p2 apos cpos q npos:Pos} {x:Str}
theorem Ii (i:Nat) (hN:X.N[i]? = some x) (hv:Vis X.env.scope x) (hd:(x == ("__debug__" : Str)) = false) (hcd:(x == ("__classdict__" : Str)) = false) (hbase:attributeBase (.Name x npos) "append" X.env (eval (.Name x npos) X.env) = eval (.Name x npos) X.env) (hline:(apos.endLine == cpos.line) = true)
  (hs:starEach [e] X.env = [(false,eval e X.env)]) (hw:swapsWith (.Call (.Attribute (.Name x npos) "append" apos) [e] [] cpos) none pos.line X.env = pure false) (he:JE X e m):JS X (.Expr (.Call (.Attribute (.Name x npos) "append" apos) [e] [] cpos) pos) (DB i m):=
 CG (Kx (NM PySem.F.plainAttrs_list PySem.F.slot_list_append PySem.F.type_list_append JJ (F0 hN hv hd hcd) (C1 he Ei hs) hbase (by rw [hs]; rfl) hline hs rfl) hw) fun _ _ _ h=>Wk h
theorem PV (i:Nat) (hN:X.N[i]? = some x) (hv:Vis X.env.scope x) (hd:(x == ("__debug__" : Str)) = false) (hcd:(x == ("__classdict__" : Str)) = false) (hbase:attributeBase (.Name x npos) "extend" X.env (eval (.Name x npos) X.env) = eval (.Name x npos) X.env) (hline:(apos.endLine == cpos.line) = true)
  (hs:starEach [e] X.env = [(false,eval e X.env)]) (hw:swapsWith (.Call (.Attribute (.Name x npos) "extend" apos) [e] [] cpos) none pos.line X.env = pure false) (he:JE X e m):JS X (.Expr (.Call (.Attribute (.Name x npos) "extend" apos) [e] [] cpos) pos) (GS i m):=
 CG (Kx (NM PySem.F.plainAttrs_list PySem.F.slot_list_extend PySem.F.type_list_extend OF (F0 hN hv hd hcd) (C1 he Ei hs) hbase (by rw [hs]; rfl) hline hs rfl) hw) fun _ _ _ h=>Wm h
theorem Mx (i:Nat) (hN:X.N[i]? = some x) (hv:Vis X.env.scope x) (hd:(x == ("__debug__" : Str)) = false) (hcd:(x == ("__classdict__" : Str)) = false)
  (ha:∀ v,assign (.Subscript (.Name x npos) b pos') X.env v = (do
   let ov ← holding [v] (eval (.Name x npos) X.env)
   let iv ← holding [v,ov] (eval b X.env)
   standAt pos'
   holding [v,ov,iv] (setItem ov iv v)
   release [v,ov,iv] []))
  (hs:swapsWithSole [.Subscript (.Name x npos) b pos'] e pos.line X.env = pure false) (hw:swappedStores [.Subscript (.Name x npos) b pos'] e X.env = pure none) (h1:(assignEach [.Subscript (.Name x npos) b pos'] X.env).map (·.2) = [assign (.Subscript (.Name x npos) b pos') X.env])
  (hk:JE X b m1) (he:JE X e m2):JS X (.Assign [.Subscript (.Name x npos) b pos'] e pos) (LS i m1 m2):=
 CG (Qw he (VG (F0 hN hv hd hcd) hk set_list ha) hs hw h1) fun _ _ _ h=>Wo h
end
end J
end
section
namespace PySem
open Sem (wp)
theorem JD.miss_keys:typeLookup (.type "list") "keys" = pure none:=am_miss_of_fast dK
theorem JD.entry_loop:entryFor table "dict.update.loop" = some Builtin.«dict.update.loop»:=entryFor_of_tree (by kernel_rfl)
theorem JD.plain_loop:plainId "dict.update.loop" = true:=by decide +kernel
theorem JD.getAttrQ_miss {prog:Program} {w:World} {A:Around} {E:Value→Shared→Prop} {s:Shared} {a:Addr} {o:Obj} {xs:Array Value} {k:Nat} {name:Str} {Q:Option Value→Shared→Prop}
  (hx:s.heap.get? a = some o) (hc:o.cls = .type "list") (hdat:o.data = .seq xs k) (hd:o.dict = none) (hmiss:typeLookup (.type "list") name = pure none) (hname:(["__module__","__name__","__qualname__","__doc__","__annotations__"]:List Str).contains name = false) (hA:A.handled = none)
  (h:∀ h' tk e,Heap.NewExcOf s.heap h' e "AttributeError" → Q none { s with heap:=h',toks:=tk }) (hsz:name.length + 100≤sizeLine:=by size_fits) :
  wpAny (model prog w) A (getAttr? (.ref a) name) Q E s:=by
 obtain ⟨c,dct,dat,sl⟩:=o
 simp only at hc hdat hd
 subst hc hdat hd
 obtain ⟨hp,g,d,tk,os⟩:=s
 have hT:∀ tk',(⟨hp,g,d,tk',os⟩:Shared).TypeIs (.ref a) "list" := fun _=>⟨_,hx,rfl⟩
 have f1:=sub_AttributeError
 have f3:=F.slot_list_getattribute.lookup
 have f4:=F.slot_list_getattribute.bind (.ref a)
 have f5:=am_list_getattr_none
 unfold getAttr? getAttrBy? getAttrBy
 repeat (any_goals (first | assumption | exact hT _ | ((with_reducible show wpAny _ _ (call (Value.builtin "list.__getattribute__") _ _) _ _ _); refine call_meets F.slot_list_getattribute (hT _) am_entry_list_getattribute (F.args_list_getattribute_2 _ _) (meets_getattribute_miss_list a xs k sl name _ hmiss hname hsz) ⟨hx,hA,fun h' tk' e hx'=>?_⟩) | wp_step))
 obtain ⟨t',u',he⟩:=hx'.there
 show wpAny _ _ (getattributeRaised _ _ _ _ _ _ _) _ _ _
 unfold getattributeRaised
 repeat (any_goals (first | assumption | wp_step))
 exact h _ _ _ hx'.of
theorem JD.dict_keep {prog:Program} {w:World} {Kk:Type} [DecidableEq Kk] {knd:KeyKind prog w Kk} {h h':Heap} {d:Addr} {kvs:List (Kk × Value)} (hd:h.DictOf knd d kvs) (k:∀ o,h.get? d = some o→h'.get? d = some o):h'.DictOf knd d kvs:=by
 obtain ⟨o,es,ep,ho,r⟩:=hd
 exact ⟨o,es,ep,k o ho,r⟩
section
variable {prog:Program} {w:World} {Kk:Type} [DecidableEq Kk] {knd:KeyKind prog w Kk} {A:Around} {E:Value→Shared→Prop} {R:Result→Shared→Prop}
theorem JD.pairItems {s:Shared} {t:Addr} {its:Array Value} {Q:List Value→Shared→Prop} (ht:PyProof.Rows.IsTup s.heap t its) (h:Q its.toList s):wpAny (model prog w) A (Builtin.Dict.pairItems (.ref t)) Q E s:=by
 obtain ⟨o,ho,hc,n,hd⟩:=ht
 unfold Builtin.Dict.pairItems
 refine wpAny_bind (wpAny_typeOf (T := "tuple") ⟨o,ho,hc⟩ ?_)
 rw [if_pos (by decide)]
 unfold seqItems?
 refine wpAny_bind (wpAny_bind (wpAny_load ho ?_))
 rw [hd]
 exact wpAny_pure (wpAny_pure h)
theorem JD.stored_new {kvs:List (Kk × Value)} {i:Nat} (hi:i < kvs.length) (nd:(kvs.map (·.1)).Nodup):stored (kvs.take i) (kvs[i]).1 (kvs[i]).2 = kvs.take (i + 1):=by
 unfold stored
 rw [if_neg]
 ·rw [List.take_succ,getElem?_eq_getElem hi]
  rfl
 ·intro h
  rw [List.any_eq_true] at h
  obtain ⟨x,hx,he⟩:=h
  obtain ⟨j,hj,rfl⟩:=mem_iff_getElem.mp hx
  rw [length_take] at hj
  have hj':j < i:=by lia
  have e1:(kvs.take i)[j] = kvs[j]:=by simp
  rw [e1] at he
  have e2:(kvs[j]).1 = (kvs[i]).1:=by simpa using he
  have n:=pairwise_iff_getElem.mp nd j i (by simpa using (by lia:j < kvs.length)) (by simpa using hi) hj'
  simp at n
  exact n e2
theorem JD.loop {I l d:Addr} {items:Array Value} {kvs:List (Kk × Value)} (hA:A.handled = none) (hIl:l≠I) (hId:d≠I) (hld:d≠l) (hsz:kvs.length≤sizeLine) (hnd:(kvs.map (·.1)).Nodup) (hlen:items.size = kvs.length)
  (ts:Nat→Addr) (hit:∀ i (h:i < kvs.length),items[i]? = some (.ref (ts i))) (htd:∀ i,i < kvs.length→ts i≠d∧ts i≠I) :
  ∀ (k i:Nat) (s:Shared) (tk:Tok),kvs.length - i = k→i≤kvs.length→s.heap.IsListIter I l i→s.heap.IsList l items→s.heap.DictOf knd d (kvs.take i) →
   (∀ j (h:j < kvs.length),∃ key,knd.is (kvs[j]).1 key = true∧PyProof.Rows.IsTup s.heap (ts j) #[key,(kvs[j]).2]) →
   (∀ h' tk',h'.DictOf knd d kvs→(∀ b o,b≠I→b≠d→s.heap.get? b = some o→h'.get? b = some o)→R (.ok (.ret .none)) { s with heap:=h',toks:=tk' }) →
   codeAny (model prog w) A (.builtin "dict.update.loop" ⟨[.ref d,.ref I,.int (i:Int) tk,.none],[]⟩) R s:=by
 intro k
 induction k with
 | zero =>
  intro i s tk hk hi hst hl hd ht hR
  have hin:i = kvs.length:=by lia
  subst hin
  refine codeAny_builtin JD.entry_loop ?_
  rw [Around.under_plainId JD.plain_loop _]
  have W:=Walks.list (prog:=prog) (w:=w) (A:=A.in1) (by exact hA) I l hIl items
  show wpAny _ A.in1 (pyNext (.ref I) >>= _) _ _ s
  refine wpAny_bind (W.done s _ _ ⟨by rw [hlen]; exact hst,hl⟩ fun h' tk' hk'=>?_)
  have hd':h'.DictOf knd d kvs:=by
   rw [List.take_length] at hd
   exact JD.dict_keep hd fun o e=>hk' d o (by simpa using hId) e
  show wpAny _ _ (Builtin.Dict.addKeywords d [] >>= fun _=>ret Value.none) _ _ _
  exact wpAny_bind (wpAny_pure (wpAny_pure (hR h' tk' hd' fun b o hb _ e=>hk' b o (by simpa using hb) e)))
 | succ k ih =>
  intro i s tk hk hi hst hl hd ht hR
  have hlt:i < kvs.length:=by lia
  refine codeAny_builtin JD.entry_loop ?_
  rw [Around.under_plainId JD.plain_loop _]
  have W:=Walks.list (prog:=prog) (w:=w) (A:=A.in1) (by exact hA) I l hIl items
  show wpAny _ A.in1 (pyNext (.ref I) >>= _) _ _ s
  refine wpAny_bind (W.item i s _ _ (by rw [hlen]; exact hlt) ⟨hst,hl⟩ fun v h' tk' hv st' hk'=>?_)
  rw [hit i hlt] at hv
  cases hv
  have keepI:∀ b o,b≠I→s.heap.get? b = some o→h'.get? b = some o:=fun b o hb e=>hk' b o (by simpa using hb) e
  have ht':∀ j (h:j < kvs.length),∃ key,knd.is (kvs[j]).1 key = true∧PyProof.Rows.IsTup h' (ts j) #[key,(kvs[j]).2]:=fun j h=>by
   obtain ⟨key,h1,o,h2,h3⟩:=ht j h
   exact ⟨key,h1,o,keepI _ o (htd j h).2 h2,h3⟩
  have hd':h'.DictOf knd d (kvs.take i):=JD.dict_keep hd fun o e=>keepI d o hId e
  obtain ⟨key,hkey,htup⟩:=ht' i hlt
  refine wpAny_bind (wpAny_holding ?_)
  refine wpAny_bind (wpAny_tryCatch (JD.pairItems (s:={ s with heap:=h',toks:=tk' }) htup ?_))
  show wpAny _ _ (holding [key,(kvs[i]).2] (dictSet d key (kvs[i]).2)) _ _ _
  have hl2:(kvs.take i).length≤sizeLine:=by rw [length_take]; lia
  refine wpAny_holding (wpAny_dictSet_pairs (s:={ s with heap:=h',toks:=tk' }) (hsz:=hl2) hkey hd' fun h2 hd2 hs2=>?_)
  rw [JD.stored_new hlt hnd] at hd2
  have keep2:∀ b o,b≠d→h'.get? b = some o→h2.get? b = some o:=fun b o hb e=>(hs2.2 b hb).trans e
  refine wpAny_pure ⟨plainId_quiet JD.plain_loop _,?_⟩
  have e1:rawInt ((i:Int) + 1) = .int (((i + 1:Nat)):Int) 0:=rfl
  rw [e1]
  refine ih (i + 1) { s with heap:=h2,toks:=tk' + 1 } 0 (by lia) hlt ?_ ?_ hd2 (fun j h=>?_) fun h3 tk3 hd3 hk3=>?_
  ·exact st'.1.at fun o e=>keep2 I o (Ne.symm hId) e
  ·exact st'.2.at fun o e=>keep2 l o (Ne.symm hld) e
  ·obtain ⟨key,h1,o,h2',h3'⟩:=ht' j h
   exact ⟨key,h1,o,keep2 _ o (htd j h).1 h2',h3'⟩
  ·exact hR h3 tk3 hd3 fun b o hb hb2 e=>hk3 b o hb hb2 (keep2 b o hb2 (keepI b o hb e))
theorem JD.call {s:Shared} {l:Addr} {items:Array Value} {kvs:List (Kk × Value)} {Q:Value→Shared→Prop} {ol:Obj} {nl:Nat} (hA:A.handled = none) (hol:s.heap.get? l = some ol) (hcl:ol.cls = .type "list") (hdl:ol.data = .seq items nl) (hdd:ol.dict = none) (hsz:kvs.length≤sizeLine) (hnd:(kvs.map (·.1)).Nodup) (hlen:items.size = kvs.length)
  (ts:Nat→Addr) (hit:∀ i (h:i < kvs.length),items[i]? = some (.ref (ts i)))
  (ht:∀ j (h:j < kvs.length),∃ key,knd.is (kvs[j]).1 key = true∧PyProof.Rows.IsTup s.heap (ts j) #[key,(kvs[j]).2])
  (h:∀ h' tk',h'.DictOf knd s.heap.objs.size kvs→(∀ b o,s.heap.get? b = some o→h'.get? b = some o)→Q (.ref s.heap.objs.size) { s with heap:=h',toks:=tk' }) :
  wpAny (model prog w) A (call (.type "dict") [.ref l]) Q E s:=by
 refine callType_codes (Q₁:=fun obj s₁=>obj = .ref s.heap.objs.size∧s₁ = { s with heap:=s.heap.push { cls:=.type "dict",data:=.dict #[] } }) F.kt_called_dict (F.kt_typeCall_dict_1 _) F.entry_dict_init (kt_code_dict_new _ ⟨rfl,rfl⟩) ?_
 rintro obj s₁ ⟨rfl,rfl⟩
 have hnew:(s.heap.push { cls:=.type "dict",data:=.dict #[] }).DictOf knd s.heap.objs.size []:=Heap.DictOf.new s.heap
 have hol':(s.heap.push { cls:=.type "dict",data:=.dict #[] }).get? l = some ol:=get?_push_of_some _ hol
 have hdo:l≠s.heap.objs.size:=fun e=>absurd (lt_size hol) (by rw [e]; exact lt_irrefl _)
 have hts:∀ i,i < kvs.length→ts i < s.heap.objs.size:=fun i hi=>by
  obtain ⟨_,_,o,ho,_⟩:=ht i hi
  exact lt_size ho
 refine ⟨hnew.typeIs,F.args_dict_init_2 _ _,?_⟩
 unfold Builtin.«dict.__init__»
 refine wpAny_bind ?_
 unfold Builtin.Dict.selfAndRest
 refine wpAny_bind (wpAny_notOrdered_dict hnew.typeIs ?_)
 show wpAny _ _ (pure (s.heap.objs.size,[Value.ref l])) _ _ _
 refine wpAny_pure ?_
 show wpAny _ _ (Builtin.Dict.updateFrom "dict.__init__" s.heap.objs.size (.ref l) [] .none) _ _ _
 unfold Builtin.Dict.updateFrom
 refine wpAny_bind (wpAny_typeOf (T := "list") ⟨ol,hol',hcl⟩ ?_)
 rw [if_pos (by decide)]
 refine wpAny_bind (JD.getAttrQ_miss hol' hcl hdl hdd JD.miss_keys dK (by exact hA) (fun h1 tk1 e x=>?_) dK)
 simp only [Option.isNone_none,if_true]
 have keep1:∀ b o,s.heap.get? b = some o→h1.get? b = some o:=fun b o e=>x.keeps b o (get?_push_of_some _ e)
 have hbig:s.heap.objs.size < h1.objs.size:=by
  obtain ⟨o,_,_,ho,_⟩:=hnew
  exact lt_size (x.keeps _ _ ho)
 refine wpAny_bind (wpAny_rule (wpAny_bind (wpAny_pyIter_list (items:=items) ⟨ol,keep1 _ _ hol,hcl,nl,hdl⟩ ?_)))
 refine wpAny_pure ⟨plainId_quiet JD.plain_loop _,?_⟩
 have e1:rawInt 0 = .int (((0:Nat)):Int) 0:=rfl
 rw [e1]
 have hIs:∀ b,b < h1.objs.size→b≠h1.objs.size:=fun b hb=>ne_of_lt hb
 have hl1:l < h1.objs.size:=lt_size (keep1 _ _ hol)
 refine JD.loop (knd:=knd) (I:=h1.objs.size) (l:=l) (d:=s.heap.objs.size) (kvs:=kvs) (items:=items) (by exact hA) (hIs _ hl1) (hIs _ hbig) (Ne.symm hdo) hsz hnd hlen ts hit (fun i hi=>⟨ne_of_lt (hts i hi),hIs _ (Nat.lt_trans (hts i hi) hbig)⟩) kvs.length 0 _ 0 (by lia) (zero_le _) ?_ ?_ ?_ ?_ ?_
 ·exact ⟨_,get?_push_size _ rfl,rfl,rfl⟩
 ·exact ⟨ol,get?_push_of_some _ (keep1 _ _ hol),hcl,nl,hdl⟩
 ·rw [List.take_zero]
  exact JD.dict_keep hnew fun o e=>get?_push_of_some _ (x.keeps _ _ e)
 ·intro j hj
  obtain ⟨key,h1',o,h2,h3⟩:=ht j hj
  exact ⟨key,h1',o,get?_push_of_some _ (keep1 _ _ h2),h3⟩
 ·intro h' tk' hd' hk'
  refine ⟨rfl,h h' tk' hd' fun b o e=>?_⟩
  have lt:=lt_size e
  exact hk' b o (hIs _ (Nat.lt_trans lt hbig)) (ne_of_lt lt) (get?_push_of_some _ (keep1 _ _ e))
end
end PySem
end
section
namespace L2
open PySem PySem.Spec PyProof.Rows
section
variable {κ:Type} [DecidableEq κ]
noncomputable def F8 (kvs:List (κ × V)) (k : κ):Option V:=(kvs.find? fun kv=>decide (kv.1 = k)).map (·.2)
noncomputable def putK (kvs:List (κ × V)) (k : κ) (v:V):List (κ × V):=
 if (kvs.any fun kv=>decide (kv.1 = k)) = true then kvs.map (fun kv=>if kv.1 = k then (kv.1,v) else kv) else kvs ++ [(k,v)]
theorem Ja {p : κ × V} {r:List (κ × V)} {k : κ} (e:p.1 = k):F8 (p :: r) k = some p.2:=by simp [F8,find?_cons,e]
theorem IZ {p : κ × V} {r:List (κ × V)} {k : κ} (e:¬ p.1 = k):F8 (p :: r) k = F8 r k:=by simp [F8,find?_cons,e]
theorem Mg (k : κ):∀ kvs:List (κ × V),(kvs.any fun kv=>decide (kv.1 = k)) = (F8 kvs k).isSome
 | []=>rfl
 | p :: r=>by
  rw [any_cons]
  by_cases e:p.1 = k
  ·simp only [Ja e,decide_eq_true e,Bool.true_or,Option.isSome_some]
  ·rw [IZ e,decide_eq_false e,Bool.false_or]; exact Mg k r
theorem D4 (kvs:List (κ × V)) (k : κ) (v:V):(putK kvs k v).length≤kvs.length + 1:=by
 unfold putK
 split
 ·rw [length_map]; lia
 ·rw [length_append,length_cons,length_nil]; lia
theorem HM.isSome_eq {o:Option V} {u:Option Value} (r:HM o u):o.isSome = u.isSome:=by
 cases o with
 | none=>cases u with
  | none=>rfl
  | some _=>exact (show False from r).elim
 | some _=>cases u with
  | none=>exact (show False from r).elim
  | some _=>rfl
theorem KV.val {kvs:List (κ × V)} {vs:List (κ × Value)} (r:KV kvs vs) (k : κ):HM (F8 kvs k) (valueAt vs k):=by
 unfold KV at r
 induction r with
 | nil=>exact True.intro
 | @cons p q ps qs h t ih =>
  obtain ⟨h1,h2⟩:=h
  by_cases e:p.1 = k
  ·have e':q.1 = k:=h1.symm.trans e
   have b:valueAt (q :: qs) k = some q.2:=by simp [valueAt,find?_cons,e']
   rw [Ja e,b]; exact h2
  ·have e':¬ q.1 = k:=fun z=>e (h1.trans z)
   have b:valueAt (q :: qs) k = valueAt qs k:=by simp [valueAt,find?_cons,e']
   rw [IZ e,b]; exact ih
theorem KV.any {kvs:List (κ × V)} {vs:List (κ × Value)} (r:KV kvs vs) (k : κ):(kvs.any fun kv=>decide (kv.1 = k)) = vs.any fun kv=>decide (kv.1 = k):=by
 unfold KV at r
 induction r with
 | nil=>rfl
 | cons h t ih=>rw [any_cons,any_cons,ih,h.1]
theorem KV.repl {kvs:List (κ × V)} {vs:List (κ × Value)} (r:KV kvs vs) (k : κ) {y:V} {u:Value} (ry:RelV y u) :
  KV (kvs.map fun kv=>if kv.1 = k then (kv.1,y) else kv) (vs.map fun kv=>if kv.1 = k then (kv.1,u) else kv):=by
 unfold KV at r ⊢
 induction r with
 | nil=>exact .nil
 | @cons p q ps qs h t ih =>
  rw [map_cons,map_cons]
  refine .cons ?_ ih
  obtain ⟨h1,h2⟩:=h
  by_cases e:p.1 = k
  ·rw [if_pos e,if_pos (h1.symm.trans e)]; exact ⟨h1,ry⟩
  ·rw [if_neg e,if_neg (fun z=>e (h1.trans z))]; exact ⟨h1,h2⟩
theorem KV.put {kvs:List (κ × V)} {vs:List (κ × Value)} (r:KV kvs vs) (k : κ) {y:V} {u:Value} (ry:RelV y u):KV (putK kvs k y) (stored vs k u):=by
 unfold putK stored
 rw [r.any k]
 by_cases e:(vs.any fun kv=>decide (kv.1 = k)) = true
 ·rw [if_pos e,if_pos e]; exact r.repl k ry
 ·rw [if_neg e,if_neg e]; exact Paired.snoc r ⟨rfl,ry⟩
theorem KV.keys {kvs:List (κ × V)} {vs:List (κ × Value)} (r:KV kvs vs):kvs.map (·.1) = vs.map (·.1):=by
 unfold KV at r
 induction r with
 | nil=>rfl
 | cons h t ih=>rw [map_cons,map_cons,ih,h.1]
theorem KV.length {kvs:List (κ × V)} {vs:List (κ × Value)} (r:KV kvs vs):kvs.length = vs.length:=Paired.length r
end
theorem Ij {P:Program} {w:World} {k:Key} {u:Value} (r:RelV (kV k) u):(Bm P w).is k u = true:=by
 cases k with
 | inl i=>obtain ⟨t,e⟩:=(show ∃ t,u = Value.int i t from r); subst e; exact Lx P w i t
 | inr x=>obtain ⟨t,e⟩:=(show ∃ t,u = Value.str x t from r); subst e; exact Ly P w x t
theorem JG {P:Program} {w:World}:∀ {ks:List Key} {us:List Value},Vals (ks.map kV) us→ItemsAre (Bm P w) ks us
 | [],_,r=>by rw [map_nil] at r; cases r; exact .nil
 | k :: ks,_,r=>by
  rw [map_cons] at r
  cases r with
  | cons h t=>exact .cons (Ij h) (JG t)
noncomputable abbrev KT (H:Hp):List (List Key × V)→List (List Key × Addr × Value)→Prop:=Paired fun p q=>p.1 = q.1∧H q.2.1 = some (.tup (p.1.map kV))∧RelV p.2 q.2.2
theorem KT.val {H:Hp} {kvs:List (List Key × V)} {xs:List (List Key × Addr × Value)} (r:KT H kvs xs) (k:List Key):HM (F8 kvs k) ((atKey xs k).map (·.2)):=by
 induction r with
 | nil=>exact True.intro
 | @cons p q ps qs h t ih =>
  obtain ⟨h1,_,h2⟩:=h
  by_cases e:p.1 = k
  ·have e':q.1 = k:=h1.symm.trans e
   have b:atKey (q :: qs) k = some q.2:=by simp [atKey,find?_cons,e']
   rw [Ja e,b]; exact h2
  ·have e':¬ q.1 = k:=fun z=>e (h1.trans z)
   have b:atKey (q :: qs) k = atKey qs k:=by simp [atKey,find?_cons,e']
   rw [IZ e,b]; exact ih
theorem KT.repl {H:Hp} {kvs:List (List Key × V)} {xs:List (List Key × Addr × Value)} (r:KT H kvs xs) (k:List Key) {y:V} {u:Value} (ry:RelV y u) :
  KT H (kvs.map fun kv=>if kv.1 = k then (kv.1,y) else kv) (xs.map (putAt k u)):=by
 induction r with
 | nil=>exact .nil
 | @cons p q ps qs h t ih =>
  rw [map_cons,map_cons]
  refine .cons ?_ ih
  obtain ⟨h1,h2,h3⟩:=h
  unfold putAt
  by_cases e:p.1 = k
  ·rw [if_pos e,if_pos (h1.symm.trans e)]; exact ⟨h1,h2,ry⟩
  ·rw [if_neg e,if_neg (fun z=>e (h1.trans z))]; exact ⟨h1,h2,h3⟩
theorem KT.put {H:Hp} {kvs:List (List Key × V)} {xs:List (List Key × Addr × Value)} (r:KT H kvs xs) (k:List Key) {b:Addr} {y:V} {u:Value} (hb:H b = some (.tup (k.map kV))) (ry:RelV y u) :
  KT H (putK kvs k y) (storedH xs k b u):=by
 have e:(kvs.any fun kv=>decide (kv.1 = k)) = (atKey xs k).isSome:=by
  rw [Mg,(r.val k).isSome_eq,isSome_map]
 unfold putK storedH
 rw [e]
 by_cases q:(atKey xs k).isSome = true
 ·rw [if_pos q,if_pos q]; exact r.repl k ry
 ·rw [if_neg q,if_neg q]; exact Paired.snoc r ⟨rfl,hb,ry⟩
theorem KT.keeps {H H':Hp} {kvs:List (List Key × V)} {xs:List (List Key × Addr × Value)} (r:KT H kvs xs) (ht:∀ b ys,H b = some (.tup ys)→H' b = some (.tup ys)):KT H' kvs xs:=
 Paired.mapP r fun _ _ z=>⟨z.1,ht _ _ z.2.1,z.2.2⟩
section
variable {P:Program} {w:World} {H:Hp} {h:Heap} {a:Addr}
theorem Ua {u:HO} (ok:HOk P w H h) (e:Rd H a u):BO P w H h a u:=e.ok ok
theorem JB {kvs:List (Key × V)} (ok:HOk P w H h) (e:Rd H a (.dK kvs)):kvs.length≤sizeLine∧(a == sysModules) = false∧∃ vs,KV kvs vs∧h.DictOf (Bm P w) a vs:=
 show BO P w H h a (.dK kvs) from Ua ok e
theorem Pj {kvs:List (Key × V)} (ok:HOk P w H h) (e:H a = some (.dK kvs)):kvs.length≤sizeLine∧(a == sysModules) = false∧∃ vs,KV kvs vs∧h.DictOf (Bm P w) a vs:=JB ok (.inl e)
theorem Il {ks:List Key} (ok:HOk P w H h) (e:H a = some (.tup (ks.map kV))):(tupleKind (Bm P w)).is h ks a:=by
 obtain ⟨_,its,r,o,h1,h2,n,h3⟩:=(show BO P w H h a (.tup (ks.map kV)) from ok a _ e)
 exact ⟨o,its.toArray,n,h1,h2,h3,by simpa using JG r⟩
theorem Le {kvs:List (List Key × V)} (ok:HOk P w H h) (e:Rd H a (.dT kvs)):kvs.length≤sizeLine∧(a == sysModules) = false ∧
  ∃ xs,KT H kvs xs∧h.DictOfH (tupleKind (Bm P w)) a xs:=by
 obtain ⟨z,y,xs,r,o,es,ep,h1,h2,h3,h4,h5⟩:=(show BO P w H h a (.dT kvs) from Ua ok e)
 refine ⟨z,y,xs,r,o,es,ep,h1,h2,h3,h4,fun x hx=>?_,h5⟩
 have all:∀ {l:List (List Key × V)} {m:List (List Key × Addr × Value)},KT H l m→∀ x∈m,(tupleKind (Bm P w)).is h x.1 x.2.1:=by
  intro l m q
  induction q with
  | nil=>intro x hx; exact nomatch hx
  | @cons p q ps qs hq t ih =>
   intro x hx
   rcases mem_cons.mp hx with e | hx
   ·subst e
    exact Il ok (by rw [← hq.1]; exact hq.2.1)
   ·exact ih x hx
 exact all r x hx
theorem WR {kvs:List (List Key × V)} (ok:HOk P w H h) (e:H a = some (.dT kvs)):kvs.length≤sizeLine∧(a == sysModules) = false ∧
  ∃ xs,KT H kvs xs∧h.DictOfH (tupleKind (Bm P w)) a xs:=Le ok (.inl e)
end
noncomputable def GL (H:Hp) (a:Addr) (y:V) (r:Option V):Prop:=
 (∃ kvs k,Rd H a (.dK kvs)∧y = kV k∧r = F8 kvs k)∨∃ kvs k b,Rd H a (.dT kvs)∧y = .ref b∧H b = some (.tup (k.map kV))∧r = F8 kvs k
noncomputable def WH (H:Hp) (a:Addr) (y v:V) (H':Hp):Prop:=
 (∃ kvs k,H a = some (.dK kvs)∧y = kV k∧kvs.length < sizeLine∧H' = upd H a (.dK (putK kvs k v))) ∨
 ∃ kvs k b,H a = some (.dT kvs)∧y = .ref b∧H b = some (.tup (k.map kV))∧kvs.length < sizeLine∧H' = upd H a (.dT (putK kvs k v))
theorem GL.k {H:Hp} {a:Addr} {kvs:List (Key × V)} {k:Key} (e:H a = some (.dK kvs)):GL H a (kV k) (F8 kvs k):=.inl ⟨kvs,k,.inl e,rfl,rfl⟩
section
variable {X:Cx} {pins:List (Addr × Obj)} {σ:St} {H:Hp} {s:Shared} {a:Addr} {y v:V} {u r:Value} {o:Option V} {A:Around} {E:Value→Shared→Prop}
theorem Inv.big (I:Inv X pins σ H s):sysModules < s.heap.objs.size:=by
 have h:mainGlobals < s.heap.objs.size:=(I.mod.glob.keeps I.bk).lt
 exact Nat.lt_trans (by decide) h
theorem Oi {Q:Value→Shared→Prop} (hu:A.units + 1 < cLine) (I:Inv X pins σ H s) (g:GL H a y (some v)) (ry:RelV y u) (h:∀ w' s',Inv X pins σ H s'→RelV v w'→Q w' s') :
  wpAny (model X.prog X.w) A (getItem (.ref a) u) Q E s:=by
 rcases g with ⟨kvs,k,e,ey,l⟩ | ⟨kvs,k,b,e,ey,eb,l⟩
 ·subst ey
  obtain ⟨z,hd,vs,rel,dd⟩:=JB I.hok e
  obtain ⟨w',hw,rw'⟩:=HM.some_of (v:=v) (o:=valueAt vs k) (by rw [l]; exact rel.val k)
  exact wpAny_getItem_of (Ij ry) dd.mapOf hw (h w' _ (I.tok _) rw')
 ·subst ey
  cases (show u = Value.ref b from ry)
  obtain ⟨z,hd,xs,rel,dd⟩:=Le I.hok e
  obtain ⟨w',hw,rw'⟩:=HM.some_of (v:=v) (o:=(atKey xs k).map (·.2)) (by rw [l]; exact rel.val k)
  obtain ⟨p,hp,hp2⟩:=map_eq_some_iff.mp hw
  refine wpAny_getItem_heap (tupleKind_room_in1 hu) (Il I.hok eb) dd hp ?_
  rw [hp2]
  exact h w' _ (I.tok _) rw'
theorem XX {Q:Value→Shared→Prop} (hu:A.units + 1 < cLine) (I:Inv X pins σ H s) (g:GL H a y o) (ry:RelV y u) (h:∀ s',Inv X pins σ H s'→Q (.bool o.isSome) s') :
  wpAny (model X.prog X.w) A (compareOp .In u (.ref a)) Q E s:=by
 rcases g with ⟨kvs,k,e,ey,l⟩ | ⟨kvs,k,b,e,ey,eb,l⟩
 ·subst ey
  obtain ⟨z,hd,vs,rel,dd⟩:=JB I.hok e
  refine wpAny_in_of (Ij ry) hd dd.mapOf ?_
  rw [← (rel.val k).isSome_eq,← l]
  exact h _ (I.tok _)
 ·subst ey
  cases (show u = Value.ref b from ry)
  obtain ⟨z,hd,xs,rel,dd⟩:=Le I.hok e
  refine wpAny_in_heap (tupleKind_room_in1 hu) (Il I.hok eb) hd dd ?_
  have q:=(rel.val k).isSome_eq
  rw [isSome_map] at q
  rw [← q,← l]
  exact h _ (I.tok _)
theorem RE {Q:Value→Shared→Prop} (hu:A.units + 1 < cLine) (I:Inv X pins σ H s) (g:GL H a y o) (ry:RelV y u) (h:∀ s',Inv X pins σ H s'→Q (.bool (!o.isSome)) s') :
  wpAny (model X.prog X.w) A (compareOp .NotIn u (.ref a)) Q E s:=by
 rcases g with ⟨kvs,k,e,ey,l⟩ | ⟨kvs,k,b,e,ey,eb,l⟩
 ·subst ey
  obtain ⟨z,hd,vs,rel,dd⟩:=JB I.hok e
  refine wpAny_notIn_of (Ij ry) hd dd.mapOf ?_
  rw [← (rel.val k).isSome_eq,← l]
  exact h _ (I.tok _)
 ·subst ey
  cases (show u = Value.ref b from ry)
  obtain ⟨z,hd,xs,rel,dd⟩:=Le I.hok e
  refine wpAny_notIn_heap (tupleKind_room_in1 hu) (Il I.hok eb) hd dd ?_
  have q:=(rel.val k).isSome_eq
  rw [isSome_map] at q
  rw [← q,← l]
  exact h _ (I.tok _)
theorem J7 {h':Heap} {t':Nat} {ob:HO} (I:Inv X pins σ H s) (mu:Mut (H a)) (hs:Heap.SameBut a s.heap h') (he:∃ q,h'.get? a = some q) (new:BO X.prog X.w (upd H a ob) h' a ob) :
  Inv X pins σ (upd H a ob) { s with heap:=h',toks:=t' }:=
 I.write (x:=a) (e:=a) mu (.inl rfl) (fun b q hb z=>(hs.2 b hb).trans z) he new
theorem Ph {P:Program} {w:World} {H':Hp} {h':Heap} {kvs:List (Key × V)} {vs:List (Key × Value)} (z:kvs.length≤sizeLine) (hd:(a == sysModules) = false) (rel:KV kvs vs) (dd:h'.DictOf (Bm P w) a vs) :
  BO P w H' h' a (.dK kvs):=⟨z,hd,vs,rel,dd⟩
theorem Oj {H':Hp} {Q:Unit→Shared→Prop} (hu:A.units + 1 < cLine) (I:Inv X pins σ H s) (g:WH H a y v H') (ry:RelV y u) (rv:RelV v r) (h:∀ s',Inv X pins σ H' s'→Q () s') :
  wpAny (model X.prog X.w) A (setItem (.ref a) u r) Q E s:=by
 rcases g with ⟨kvs,k,e,ey,l,eH⟩ | ⟨kvs,k,b,e,ey,eb,l,eH⟩
 ·subst ey eH
  obtain ⟨z,hd,vs,rel,dd⟩:=Pj I.hok e
  have hz:vs.length≤sizeLine:=by rw [← rel.length]; exact z
  have hl:(putK kvs k v).length≤sizeLine:=by have:=D4 kvs k v; lia
  refine wpAny_setItem_pairs (hsz:=hz) (Ij ry) dd fun h' dd' hs=>h _ ?_
  have he:∃ q,h'.get? a = some q:=let ⟨q,_,_,hq,_⟩:=dd'; ⟨q,hq⟩
  exact J7 I (by rw [e]; exact True.intro) hs he (Ph hl hd (rel.put k rv) dd')
 ·subst ey eH
  cases (show u = Value.ref b from ry)
  obtain ⟨z,hd,xs,rel,dd⟩:=WR I.hok e
  have hz:xs.length≤sizeLine:=by rw [← Paired.length rel]; exact z
  have hl:(putK kvs k v).length≤sizeLine:=by have:=D4 kvs k v; lia
  refine wpAny_setItem_heap (hsz:=hz) (tupleKind_room_in1 hu) (Il I.hok eb) dd fun h' dd' hs=>h _ ?_
  obtain ⟨q,es,ep,hq,h2,h3,h4,_,h5⟩:=dd'
  refine J7 I (by rw [e]; exact True.intro) hs ⟨q,hq⟩ ⟨hl,hd,_,(rel.put k eb rv).keeps fun c ys ec=>?_,q,es,ep,hq,h2,h3,h4,h5⟩
  rw [AH (Lz ec e (fun z=>nomatch z))]
  exact ec
end
section
variable {X:Cx} {pins:List (Addr × Obj)} {σ:St} {H:Hp} {s:Shared} {a:Addr} {kvs:List (Key × V)} {k:Key} {u:Value} {A:Around} {E:Value→Shared→Prop}
theorem WQ {Q:Value→Shared→Prop} (I:Inv X pins σ H s) (e:Rd H a (.dK kvs)) (h:∀ t s',Inv X pins σ H s'→Q (.int kvs.length t) s'):wpAny (model X.prog X.w) A (call (.builtin "len") [.ref a]) Q E s:=by
 obtain ⟨z,hd,vs,rel,dd⟩:=JB I.hok e
 refine call_len_dict hd dd (by rw [← rel.length]; rw [sizeLine_eq] at z; lia) ?_
 rw [← rel.length]
 exact h _ _ (I.tok _)
end
noncomputable def Uj (i:Expr):Prop:=∀ ov iv,subscripted i false ov iv = operate [ov,iv] (getItem ov iv)
theorem Tj {prog:Program} {w:World} {A:Around} {E:Value→Shared→Prop} {s:Shared} {env:Env} {value slice:Expr} {pos:Pos} {T id:String} {Q:Value→Shared→Prop}
  (hl:typeLookup (.type T) "__getitem__" = pure (some (.builtin id))) (hs:Uj slice)
  (h:wpAny (model prog w) A (eval value env) (fun o s₁=>wpAny (model prog w) A (eval slice env) (fun i s₂=>s₂.TypeIs o T∧wpAny (model prog w) A (getItem o i) Q E s₂) E s₁) E s) :
  wpAny (model prog w) A (eval (.Subscript value slice pos) env) Q E s:=by
 refine Subscript_ (wpAny_mono h (fun o s₁ h₁=>wpAny_mono h₁ (fun i s₂ h₂=>?_) fun _ _ x=>x) fun _ _ x=>x)
 obtain ⟨hT,h₂⟩:=h₂
 unfold subscriptTail
 refine wpAny_bind ?_
 rw [getitemInPython_of_ne hT.not_modules]
 refine wpAny_bind (wpAny_specialOf hT hl ?_)
 have fin:wpAny (model prog w) A (subscripted slice false o i) (fun r s₃=>wpAny (model prog w) A (letTemporaryGo value o r >>= fun _=>pure r) Q E s₃) E s₂:=by
  rw [hs o i]
  exact wpAny_operating (wpAny_mono h₂ (fun r s₃ h₃=>wpAny_bind (wpAny_letTemporaryGo (wpAny_pure h₃))) fun _ _ x=>x)
 first
  | exact wpAny_pure (wpAny_bind fin)
  | exact wpAny_bind (wpAny_pure (wpAny_bind fin))
  | exact wpAny_bind fin
theorem Lc {X:Cx} {pins:List (Addr × Obj)} {σ:St} {H:Hp} {s:Shared} {a:Addr} {y:V} {o:Option V} (I:Inv X pins σ H s) (g:GL H a y o):s.TypeIs (.ref a) "dict" := by
 rcases g with ⟨kvs,k,e,_,_⟩ | ⟨kvs,k,b,e,_,_,_⟩
 ·obtain ⟨_,_,vs,_,dd⟩:=JB I.hok e
  exact dd.typeIs
 ·obtain ⟨_,_,xs,_,dd⟩:=Le I.hok e
  exact dd.typeIs
noncomputable def Xz (td ty:TE):TE:=fun σ H Q=>td σ H fun x H1=>ty σ H1 fun y H2=>∃ a v,x = .ref a∧GL H2 a y (some v)∧Q v H2
noncomputable def X5 (ty td:TE):TE:=fun σ H Q=>ty σ H fun y H1=>td σ H1 fun x H2=>∃ a o,x = .ref a∧GL H2 a y o∧Q (.bl o.isSome) H2
noncomputable def Ts (ty td:TE):TE:=fun σ H Q=>ty σ H fun y H1=>td σ H1 fun x H2=>∃ a o,x = .ref a∧GL H2 a y o∧Q (.bl (!o.isSome)) H2
noncomputable def Ub (td ty tv:TE):TS:=fun D σ H=>tv σ H fun v H1=>td σ H1 fun x H2=>ty σ H2 fun y H3=>∃ a H4,x = .ref a∧WH H3 a y v H4∧D.nx σ H4
section
variable {X:Cx} {o i e value:Expr} {pos pos' tpos:Pos} {td ty tv:TE}
theorem Su (hu:X.A.units + 1 < cLine) (ho:PE X o td) (hi:PE X i ty) (hs:Uj i):PE X (.Subscript o i pos) (Xz td ty):=by
 intro pins s σ H Q I h
 refine Tj PySem.F.slot_dict_getitem.lookup hs (thn (ho pins s σ H _ I h) fun u s1 ⟨x,H1,I1,rx,q1⟩=>thn (hi pins s1 σ H1 _ I1 q1) fun iv s2 yy=>?_)
 obtain ⟨y,H2,I2,ry,a,v,ex,g,q2⟩:=yy
 subst ex
 obtain rfl:u = Value.ref a:=rx
 exact ⟨Lc I2 g,Oi hu I2 g ry fun w' s3 I3 rw'=>⟨v,H2,I3,rw',q2⟩⟩
theorem Vn (hu:X.A.units + 1 < cLine) (hi:PE X i ty) (ho:PE X o td):PC X .In i o (X5 ty td):=by
 intro pins s σ H Q I h
 refine thn (hi pins s σ H _ I h) fun iv s1 ⟨y,H1,I1,ry,q1⟩=>thn (ho pins s1 σ H1 _ I1 q1) fun u s2 yy=>?_
 obtain ⟨x,H2,I2,rx,a,ov,ex,g,q2⟩:=yy
 subst ex
 obtain rfl:u = Value.ref a:=rx
 exact XX hu I2 g ry fun s3 I3=>⟨.bl ov.isSome,H2,I3,rfl,q2⟩
theorem OO (hu:X.A.units + 1 < cLine) (hi:PE X i ty) (ho:PE X o td):PC X .NotIn i o (Ts ty td):=by
 intro pins s σ H Q I h
 refine thn (hi pins s σ H _ I h) fun iv s1 ⟨y,H1,I1,ry,q1⟩=>thn (ho pins s1 σ H1 _ I1 q1) fun u s2 yy=>?_
 obtain ⟨x,H2,I2,rx,a,ov,ex,g,q2⟩:=yy
 subst ex
 obtain rfl:u = Value.ref a:=rx
 exact RE hu I2 g ry fun s3 I3=>⟨.bl (!ov.isSome),H2,I3,rfl,q2⟩
theorem SI (hu:X.A.units + 1 < cLine) (ho:PE X o td) (hi:PE X i ty) (hv:PE X value tv) (hs:swapsWith value (some (.Subscript o i pos')) pos.line X.env = pure false) :
  PS X (.Assign [.Subscript o i pos'] value pos) (Ub td ty tv):=by
 intro pins s σ H D I h
 refine wpAny_Assign_Subscript (thn (hv pins s σ H _ I h) fun r s1 ⟨v,H1,I1,rv,q1⟩=>thn (ho pins s1 σ H1 _ I1 q1) fun u s2 ⟨x,H2,I2,rx,q2⟩=>thn (hi pins s2 σ H2 _ I2 q2) fun iv s3 yy=>?_) hs
 obtain ⟨y,H3,I3,ry,a,H4,ex,g,q3⟩:=yy
 subst ex
 obtain rfl:u = Value.ref a:=rx
 exact Oj hu I3 g ry rv fun s4 I4=>⟨σ,H4,I4,q3⟩
end
theorem Pg {P:Program} {w:World} {H:Hp} (h:Heap) (hb:sysModules < h.objs.size):BO P w H (h.push { cls:=.type "dict",data:=.dict #[] }) h.objs.size (.dK []):=
 ⟨zero_le _,beq_eq_false_iff_ne.mpr (Ne.symm (ne_of_lt hb)),[],.nil,Heap.DictOf.new h⟩
section
variable {X:Cx} {pos:Pos}
end
noncomputable def Nb:List (TE × TE)→St→Hp→(List (V × V)→Hp→Prop)→Prop
 | [],_,H,Q=>Q [] H
 | (tk,tv) :: r,σ,H,Q=>tk σ H fun x H1=>tv σ H1 fun y H2=>Nb r σ H2 fun ps H3=>Q ((x,y) :: ps) H3
noncomputable abbrev VV:List (V × V)→List (Value × Value)→Prop:=Paired fun p q=>RelV p.1 q.1∧RelV p.2 q.2
noncomputable def PPs (X:Cx) (pos:Pos) (keys:List (Option Expr)) (values:List Expr) (trs:List (TE × TE)):Prop:=
 ∀ (pins:List (Addr × Obj)) (s:Shared) (σ:St) (H:Hp) (Q:List (V × V)→Hp→Prop),Inv X pins σ H s→Nb trs σ H Q →
  wpAny (model X.prog X.w) X.A (evalPairs (pairTrees keys values X.env pos)) (fun vs s'=>∃ ps H',Inv X pins σ H' s'∧VV ps vs∧Q ps H') X.xe s
theorem SH {X:Cx} {pos:Pos}:PPs X pos [] [] []:=fun pins s σ H Q I h=>pairTrees_nil_walk ⟨[],H,I,.nil,h⟩
theorem Qv {X:Cx} {pos:Pos} {k v:Expr} {ks:List (Option Expr)} {vs:List Expr} {tk tv:TE} {trs:List (TE × TE)} (hk:PE X k tk) (hv:PE X v tv) (hr:PPs X pos ks vs trs) :
  PPs X pos (some k :: ks) (v :: vs) ((tk,tv) :: trs):=fun pins s σ H Q I h =>
 pairTrees_cons_walk (thn (hk pins s σ H _ I h) fun u s1 ⟨x,H1,I1,rx,q1⟩=>thn (hv pins s1 σ H1 _ I1 q1) fun w2 s2 ⟨y,H2,I2,ry,q2⟩ =>
  thn (hr pins s2 σ H2 _ I2 q2) fun ws s3 ⟨ps,H3,I3,rel,q3⟩=>⟨(x,y) :: ps,H3,I3,.cons ⟨rx,ry⟩ rel,q3⟩)
noncomputable def Io (kvs more:List (Key × V)):List (Key × V):=more.foldl (fun acc kv=>putK acc kv.1 kv.2) kvs
theorem KV.merge:∀ {more:List (Key × V)} {rs:List (Key × Value)} {kvs:List (Key × V)} {vs:List (Key × Value)},KV more rs→KV kvs vs→KV (Io kvs more) (merged vs rs):=by
 intro more rs kvs vs r
 unfold KV at r
 induction r generalizing kvs vs with
 | nil=>intro q; exact q
 | @cons p q ps qs h t ih =>
  intro r0
  have e:KV (putK kvs p.1 p.2) (stored vs q.1 q.2):=by
   have:=r0.put p.1 h.2
   rw [← h.1]; exact this
  exact ih e
theorem FH:∀ (more kvs:List (Key × V)),(Io kvs more).length≤kvs.length + more.length
 | [],kvs=>by show kvs.length≤kvs.length + 0; lia
 | p :: r,kvs=>by
  have h1:=FH r (putK kvs p.1 p.2)
  have h2:=D4 kvs p.1 p.2
  show (Io (putK kvs p.1 p.2) r).length≤_
  rw [length_cons]; lia
theorem HW {P:Program} {w:World}:∀ {kvs:List (Key × V)} {ws:List (Value × Value)},VV (kvs.map fun kv=>(kV kv.1,kv.2)) ws→∃ rs,Carries (Bm P w) ws rs∧KV kvs rs
 | [],_,r=>by rw [map_nil] at r; cases r; exact ⟨[],True.intro,.nil⟩
 | p :: kvs,_,r=>by
  rw [map_cons] at r
  cases r with
  | @cons a b as bs h t =>
   obtain ⟨rs,c,q⟩:=HW (P:=P) (w:=w) t
   obtain ⟨b1,b2⟩:=b
   exact ⟨(p.1,b2) :: rs,⟨Ij h.1,rfl,c⟩,.cons ⟨rfl,h.2⟩ q⟩
noncomputable def XA (trs:List (TE × TE)):TE:=fun σ H Q=>∀ p,H p = none→Nb trs σ (upd H p (.dK [])) fun ps H2=>H2 p = some (.dK [])∧∃ kvs:List (Key × V),ps = kvs.map (fun kv=>(kV kv.1,kv.2))∧kvs.length≤15∧Q (.ref p) (upd H2 p (.dK (Io [] kvs)))
theorem Sv {X:Cx} {pos:Pos} {keys:List (Option Expr)} {values:List Expr} {trs:List (TE × TE)} (h:PPs X pos keys values trs) (hall:keys.all (·.isSome) = true) (hl:keys.length = values.length) (h0:keys≠[])
  (h15:keys.length≤15):PE X (.Dict keys values pos) (XA trs):=by
 intro pins s σ H Q I q
 have hn:=I.hok.fresh (le_refl s.heap.objs.size)
 have I1:=I.laid (a:=s.heap.objs.size) (o:=.dK []) (h':=s.heap.push { cls:=.type "dict",data:=.dict #[] }) (t':=s.toks) (fun _ _ q=>get?_push_of_some _ q) (le_refl _) (Pg s.heap I.big)
 refine wpAny_Dict_walk (knd:=Bm X.prog X.w) hall hl h0 h15 (thn (h pins _ σ _ _ I1 (q _ hn)) fun ws s2 yy=>?_)
 obtain ⟨ps,H2,I2,rel,e,kvs,ep,lk,q2⟩:=yy
 subst ep
 obtain ⟨rs,c,rk⟩:=HW (P:=X.prog) (w:=X.w) rel
 obtain ⟨z,hd,vs0,r0,dd⟩:=Pj I2.hok e
 cases r0
 refine ⟨rs,c,dd,fun h' dd' hs=>⟨.ref s.heap.objs.size,_,?_,rfl,q2⟩⟩
 have hz:(Io [] kvs).length≤sizeLine:=by
  have h1:=FH kvs []
  rw [length_nil] at h1
  rw [sizeLine_eq]; lia
 have he:∃ q,h'.get? s.heap.objs.size = some q:=let ⟨q,_,_,hq,_⟩:=dd'; ⟨q,hq⟩
 exact J7 I2 (by rw [e]; exact True.intro) hs he (Ph hz hd (rk.merge .nil) dd')
structure M1 (X:Cx) (o:Expr) (m:Str) (apos:Pos) (e:Expr) (cpos:Pos):Prop where
 base:attributeBase o m X.env (eval o X.env) = eval o X.env
 few:((backTo cpos (starEach [e] X.env)).all (fun x=>!x.1) && (backToKw cpos (keywordEach [] X.env)).all (fun x=>x.1.isSome)
  && decide (([e]:List Expr).length + ([]:List Keyword).length + (if ([]:List Keyword).isEmpty then 0 else 1) < 30)) = true
 line:(apos.endLine == cpos.line) = true
 trees:backTo cpos (starEach [e] X.env) = [(false,eval e X.env)]
structure M2 (X:Cx) (o:Expr) (m:Str) (apos:Pos) (e f:Expr) (cpos:Pos):Prop where
 base:attributeBase o m X.env (eval o X.env) = eval o X.env
 few:((backTo cpos (starEach [e,f] X.env)).all (fun x=>!x.1) && (backToKw cpos (keywordEach [] X.env)).all (fun x=>x.1.isSome)
  && decide (([e,f]:List Expr).length + ([]:List Keyword).length + (if ([]:List Keyword).isEmpty then 0 else 1) < 30)) = true
 line:(apos.endLine == cpos.line) = true
 trees:backTo cpos (starEach [e,f] X.env) = [(false,eval e X.env),(false,eval f X.env)]
section
variable {X:Cx} {pins:List (Addr × Obj)} {σ:St} {H:Hp} {s:Shared} {a:Addr} {y d:V} {u r:Value} {o:Option V} {A:Around} {E:Value→Shared→Prop}
end
section
variable {X:Cx} {o e f:Expr} {apos cpos:Pos} {td ty tx:TE}
end
section
variable {X:Cx} {pins:List (Addr × Obj)} {σ:St} {H:Hp} {s:Shared} {a:Addr} {kvs:List (Key × V)} {A:Around} {E:Value→Shared→Prop}
end
section
variable {X:Cx} {pins:List (Addr × Obj)} {σ:St} {H:Hp} {s:Shared} {a:Addr} {y:V} {u:Value} {A:Around} {E:Value→Shared→Prop}
end
section
variable {X:Cx}
noncomputable def Itd (lo:Int) (n:Nat):It:=⟨fun i _=>i < n,fun i H x H'=>H' = H∧x = .int (lo - i),fun i _=>n≤i⟩
theorem Ky (a b:Int):Builtin.Range.rangeSize a b (-1) = if b < a then a - b else 0:=by
 unfold Builtin.Range.rangeSize
 rw [if_neg (by decide)]
 have e:(-(-1:Int)) = 1:=by decide
 rw [e]
 simp only [Int.ediv_one,gt_iff_lt]
 split <;> lia
noncomputable def WX (ta:TA):TI:=fun σ H R=>ta σ H fun vs H1=>∃ i j:Int,vs = [.int i,.int j,.int (-1)]∧(-(2 ^ 62)≤i∧i < 2 ^ 62 ∧ -(2 ^ 62)≤j∧j < 2 ^ 62)∧R (Itd i (i - j).toNat) H1
end
section
variable {X:Cx}
noncomputable def JV (K:Frag) (H:Hp):List V→List (Key × V)→Prop:=Paired fun v u=>∃ t,v = .ref t∧SqT K H t [kV u.1,u.2]
noncomputable def T3 (K:Frag):List V→Hp→VK→Prop:=fun xs H Q=>∃ (p:Addr) (vs:List V) (us:List (Key × V)),xs = [.ref p]∧SqL K H p vs∧JV K H vs us∧(us.map (·.1)).Nodup∧∀ l,H l = none→Q (.ref l) (upd H l (.dK us))
theorem MO {pins:List (Addr × Obj)} {σ:St} {H:Hp} {s:Shared} (I:Inv X pins σ H s) {vs:List V} {us:List (Key × V)} (hp:JV X.K H vs us):∃ kvs:List (Key × Value),KV us kvs∧∀ (i:Nat) v (h:i < kvs.length),vs[i]? = some v→∃ t key,v = .ref t∧(Bm X.prog X.w).is (kvs[i]).1 key = true∧IsTup s.heap t #[key,(kvs[i]).2]:=by
 induction hp with
 | nil=>exact ⟨[],.nil,fun i v h=>by simp at h⟩
 | @cons v u vs us r t ih =>
  obtain ⟨kvs,h1,h2⟩:=ih
  obtain ⟨tp,rfl,hq⟩:=r
  obtain ⟨its,rv,ht,_⟩:=I.tuple hq
  obtain ⟨k',u',rfl,rk,ru⟩:=rv.two
  refine ⟨(u.1,u') :: kvs,.cons ⟨rfl,ru⟩ h1,fun i w h e=>?_⟩
  cases i with
  | zero =>
   simp at e
   subst e
   exact ⟨tp,k',rfl,Ij rk,ht⟩
  | succ i=>exact h2 i w (by simpa using h) (by simpa using e)
theorem Mo (hc:X.calm = true):BX X (.type "dict") (T3 X.K):=by
 intro pins s σ H xs us' Q I r h
 obtain ⟨p,vs,us,rfl,hq,hp,nd,q⟩:=h
 obtain ⟨u,rfl,ru⟩:=r.one
 cases ru
 obtain ⟨its,rv,pl,hz⟩:=I.list hq
 obtain ⟨kvs,hkv,hall⟩:=MO I hp
 have l1:vs.length = us.length:=hp.length
 have l2:us.length = kvs.length:=hkv.length
 have l3:=rv.length
 obtain ⟨ol,nl,hol,hcl,hdd,hdl⟩:=pl
 have keys:kvs.map (·.1) = us.map (·.1):=hkv.keys.symm
 have key:∀ (i:Nat) (h:i < kvs.length),∃ t key,vs[i]? = some (.ref t)∧its.toArray[i]? = some (.ref t)∧(Bm X.prog X.w).is (kvs[i]).1 key = true∧IsTup s.heap t #[key,(kvs[i]).2]:=fun i h=>by
  have hv:vs[i]? = some (vs[i]'(by lia)):=by simp
  obtain ⟨t,key,e1,e2,e3⟩:=hall i _ h hv
  obtain ⟨u,hu,ru⟩:=rv.get hv
  rw [e1] at hv ru
  cases ru
  exact ⟨t,key,hv,by simpa using hu,e2,e3⟩
 refine JD.call (knd:=Bm X.prog X.w) (kvs:=kvs) (items:=its.toArray) (I.ok.hd hc) hol hcl hdl hdd (by lia) (by rw [keys]; exact nd) (by simp; lia) (fun i=>match vs[i]? with | some (.ref t)=>t | _=>0) (fun i h=>?_) (fun i h=>?_) fun h' tk' hd hk=>?_
 ·obtain ⟨t,key,e1,e2,e3,e4⟩:=key i h
  rw [e1]
  exact e2
 ·obtain ⟨t,key,e1,e2,e3,e4⟩:=key i h
  rw [e1]
  exact ⟨key,e3,e4⟩
 ·have hS:(s.heap.objs.size == sysModules) = false:=by
   have:=I.big
   have hne:s.heap.objs.size≠sysModules:=fun z=>by rw [z] at this; exact lt_irrefl _ this
   simpa using hne
  have hlz:us.length≤sizeLine:=by lia
  refine ⟨.ref s.heap.objs.size,_,I.laid (t':=tk') (o:=.dK us) hk (le_refl _) ?_,rfl,q _ (I.hok.fresh (le_refl _))⟩
  exact ⟨hlz,hS,kvs,hkv,hd⟩
end
end L2
namespace J
open PySem PySem.Spec PyProof.Rows L2
section
variable {X:Cx} {a b c e:Expr} {es:List Expr} {m m1 m2 m3:ME} {ms:MA} {p pos pos' p2 apos cpos q npos:Pos} {x:Str}
variable {K:Frag} {N:Addr→Prop} {H:Hp} {σ:L2.St} {v:V} {L:List Addr}
noncomputable def down (lo:Int) (n:Nat):List D:=(List.range n).map fun (k:Nat)=>D.int (lo - (k:Int))
noncomputable def GZ:D→Option Key
 | .int i=>some (.inl i)
 | .str z=>some (.inr z)
 | .non | .bl _ | .lst _ | .tup _=>none
noncomputable def FZ:List D→Option (List (Key × D))
 | []=>some []
 | .tup [k,d] :: ds=>(GZ k).bind fun k=>(FZ ds).map ((k,d) :: ·)
 | _ :: _=>none
noncomputable def Nm:List A→Option A:=on1 fun a=>(C2 a).bind fun ds=>(FZ ds).bind fun kvs=>if (kvs.map (·.1)).Nodup then some (.dic kvs) else none
theorem Im {d:D} {k:Key} (r:RepA N H v d) (e:GZ d = some k):v = kV k:=by
 cases d with
 | int i=>simp only [GZ,Option.some.injEq] at e; subst e; cases r; rfl
 | str z=>simp only [GZ,Option.some.injEq] at e; subst e; cases r; rfl
 | _=>simp [GZ] at e
theorem LM:∀ {vs:List V} {ds:List D} {kvs:List (Key × D)},As N H vs ds→FZ ds = some kvs→∃ us:List (Key × V),JV K H vs us∧Paired (fun (u:Key × V) (k:Key × D)=>u.1 = k.1∧RepA N H u.2 k.2) us kvs
 | [],[],kvs,_,e=>by
  simp only [FZ,Option.some.injEq] at e
  subst e
  exact ⟨[],.nil,.nil⟩
 | [],_ :: _,_,q,_=>by simp only [As] at q
 | _ :: _,[],_,q,_=>by simp only [As] at q
 | v :: vs,d :: ds,kvs,q,e=>by
  unfold FZ at e
  split at e
  ·rename_i h; cases h
  ·rename_i k' d' ds' h
   cases h
   simp only [bind_eq_some_iff,map_eq_some_iff] at e
   obtain ⟨k,e1,kvs',e2,rfl⟩:=e
   obtain ⟨us,h1,h2⟩:=LM q.2 e2
   have q1:=q.1
   cases q1 with
   | @tup a ws _ hh hz hl hr =>
    obtain ⟨w1,w2,rfl⟩:=R3 hl
    have r1:=hr 0 w1 k' rfl rfl
    have r2:=hr 1 w2 d' rfl rfl
    have ek:=Im r1 e1
    refine ⟨(k,w2) :: us,.cons ⟨a,rfl,.inl (.inl ?_)⟩ h1,.cons ⟨rfl,r2⟩ h2⟩
    rw [hh,ek]
  ·cases e
theorem LK {us:List (Key × V)} {kvs:List (Key × D)} (hp:Paired (fun (u:Key × V) (k:Key × D)=>u.1 = k.1∧RepA N H u.2 k.2) us kvs):us.map (·.1) = kvs.map (·.1):=by
 induction hp with
 | nil=>rfl
 | cons r t ih=>rw [map_cons,map_cons,r.1,ih]
theorem Sd:OpN K Nm (T3 K):=by
 intro N H xs as b Q hs e k
 replace e:=Dd e
 obtain ⟨a,rfl,e⟩:=e
 simp only [bind_eq_some_iff] at e
 obtain ⟨ds,e1,kvs,e2,e3⟩:=e
 split at e3
 ·rename_i hn
  cases e3
  obtain ⟨x,L1,rfl,h1⟩:=CJ hs
  obtain ⟨p,vs,rfl,hp,hz,q⟩:=Eg h1 e1
  obtain ⟨us,g1,g2⟩:=LM (K:=K) q e2
  refine ⟨p,vs,us,rfl,.inl (.inl hp),g1,by rw [LK g2]; exact hn,fun l hl=>k _ _ ?_⟩
  have sm:=Cj (o:=.dK us) hl
  refine ⟨sm,[l],?_,by simp,fun b hb=>by simp at hb; rw [hb]; exact hl⟩
  rw [Aq]
  have hlen:us.length≤sizeLine:=by
   have:=Paired.length g1
   lia
  refine ⟨l,us,rfl,rfl,AK,hlen,Paired.mapQ g2 fun u kd r=>⟨r.1,r.2.tr (M:=fun _=>False) (fun _ z=>z.elim) (EG.kept sm) fun b z=>?_⟩⟩
  rcases z with z | z
  ·exact .inl z
  ·simp at z; subst z; exact .inr hl
 ·cases e3
noncomputable def Ez (kvs:List (Key × D)) (k:Key):Option D:=(kvs.find? fun kv=>decide (kv.1 = k)).map (·.2)
theorem WB {k:Key} {us:List (Key × V)} {kvs:List (Key × D)} (hp:Paired (fun (u:Key × V) (k:Key × D)=>u.1 = k.1∧RepA N H u.2 k.2) us kvs) {d:D} (e:Ez kvs k = some d):∃ v,F8 us k = some v∧RepA N H v d:=by
 induction hp with
 | nil=>simp [Ez] at e
 | @cons u kd us kvs r t ih =>
  simp only [Ez,F8,find?_cons] at e ⊢
  by_cases h:kd.1 = k
  ·have h':u.1 = k:=r.1.trans h
   simp only [h,decide_true,map_some,Option.some.injEq] at e
   simp only [h',decide_true,map_some,Option.some.injEq,exists_eq_left']
   subst e
   exact r.2
  ·have h':¬ u.1 = k:=fun z=>h (r.1.symm.trans z)
   simp only [h,decide_false] at e
   simp only [h',decide_false]
   exact ih e
noncomputable def EX:List A→Option A:=on2 fun q1 q2=>(Ce q1).bind fun kvs=>(fzU q2).bind fun d=>(GZ d).bind fun k=>(Ez kvs k).map A.fz
theorem Va:OpN K EX (r2L fun x y H Q=>∃ a v,x = .ref a∧GL H a y (some v)∧Q v H):=by
 intro N H xs as b Q hs e k
 replace e:=BM e
 obtain ⟨q1,q2,rfl,e⟩:=e
 replace e:=bind_eq_some_iff.mp e
 obtain ⟨kvs,eq1,e⟩:=e
 cases Hx eq1
 clear eq1
 replace e:=bind_eq_some_iff.mp e
 obtain ⟨d,eq2,e⟩:=e
 cases FO eq2
 clear eq2
 simp only [bind_eq_some_iff,map_eq_some_iff] at e
 obtain ⟨ky,e1,d',e2,rfl⟩:=e
 obtain ⟨x,y,L1,L2,rfl,h1,h2⟩:=A9 hs
 rw [Aq] at h1
 obtain ⟨a,us,rfl,rfl,ha,hz,hp⟩:=h1
 obtain ⟨_,h2⟩:=Ci.mp h2
 cases Im h2 e1
 obtain ⟨v,hv,rv⟩:=WB hp e2
 refine ⟨_,_,rfl,a,v,rfl,?_,k _ _ (Eh rv)⟩
 rw [← hv]
 exact GL.k ha
theorem Kd {k:Nat} (hr:Room k X.A) (hs:Uj b) (ha:JE X a m1) (hb:JE X b m2):JE X (.Subscript a b pos) (opM EX (m2L m1 m2)):=by
 refine AA (Su (Nx hr) ha hb hs) fun σ H Q h=>?_
 exact tE.mono (two Va h) fun x H1 h1=>tE.mono h1 fun y H2 h2=>h2
end
section
variable {P:Program} {w:World} {K:Frag} {mg:Str→Option Value} {base:Heap}
theorem Bc {x qual:Str} {st:Stmt} {f:Addr} {fd:FuncData} {N ps:List Str} {k:Nat} {m:MS} (F:Fun K x qual st f fd) (S:FnScope N ps (Bp st))
  (hb:∀ (cdv:Value) (A:Around) (outer:List Env) (s:Shared) (H:Hp) (E:XK),Room k (A.deeper (envOfC qual (Bp st) s.heap.objs.size f cdv))→JSs (La CX0 P w K mg base N qual (Bp st) f cdv A outer s H E).nox (CV st) m) :
  FnOk P w K mg base CX0 (k + 1) f fd ps (spJ K (fnM ps.length N.length m) ps.length):=by
 refine F.ok S (fun vs H Q E h=>?_) fun cdv A outer s H vs Q E hr h=>⟨_,hb cdv A outer s H E hr,?_⟩
 ·obtain ⟨_,_,_,h,_⟩:=h
  exact h
 ·have hl:vs.length = ps.length:=by
   obtain ⟨_,_,_,h,_⟩:=h
   exact h
  have:=Nk h
  unfold L2.start
  rw [hl]
  exact this
theorem Am {np nn:Nat} {b:MS}:∀ args y,fnM np nn b args = some y→args.length = np:=fun args y e=>by
 unfold fnM at e
 split at e
 ·rename_i h; exact h
 ·cases e
theorem U1 {Φ:Fn} {H:Hp} {a:Addr} {ns:List Int} {as':List A} {E:XK} (hl:ns.length≤63) (hO:Rq H) (hS:SqL K H a (ns.map V.int)) (e : Φ [(.ro,.scr ns)] = some (.fz (.bl true),as')):spJ K Φ 1 [.ref a] H (fun v _=>v = .bl true) E:=by
 refine ⟨[(.ro,.scr ns)],fun _=>False,fun _=>[],rfl,⟨rfl,fun i st b h=>?_,fun _ _=>rfl,fun _=>nodup_nil,fun i j p h=>by simp at h,fun i p h=>by simp at h,fun p z=>?_⟩,_,_,e,fun v H' ⟨L,fp',p,q⟩=>?_⟩
 ·cases i with
  | zero =>
   simp at h
   obtain ⟨rfl,rfl⟩:=h
   refine ⟨.ref a,rfl,?_⟩
   rw [Aq]
   refine ⟨a,rfl,rfl,fun H' k=>?_,le_trans hl (by decide)⟩
   rcases hS with (h | ⟨o,h⟩) | h
   ·rcases hO a with z | ⟨o,xs,z⟩ | ⟨ps,z⟩
    ·rw [z] at h; cases h
    ·rw [z] at h; cases h
    ·rw [z] at h; cases h
   ·exact .inl (.inr ⟨o,k _ _ h⟩)
   ·exact .inr h
  | succ i=>simp at h
 ·rcases z with ⟨i,z⟩ | z
  ·simp at z
  ·exact z.elim
 ·exact QG q rfl
end
end J
end
section
namespace J
open PySem PySem.Spec PyProof.Rows L2
noncomputable def moves:List R→Ro→Option (List A × Ro)
 | [],ρ=>some ([],ρ)
 | r :: rs,ρ=>(move ρ r).bind fun p=>(moves rs p.2).map fun q=>(p.1 :: q.1,q.2)
noncomputable def Fs (m:MA):ME:=fun ρ=>(m ρ).bind fun p=>(moves p.1 p.2).bind fun q=>if q.1.length≤LIM then some (.val (mkT q.1),q.2) else none
section
variable {K:Frag} {ρ ρ' ρ1 ρ2:Ro} {σ σ' σ1 σ2:L2.St} {H H' H1 H2:Hp} {O O' N:Addr→Prop} {fp fp' fp1 fp2:Nat→List Addr} {L L1:List Addr}
theorem Post.perm {L':List Addr} (x:Post K O fp H ρ ρ1 σ σ1 L fp1 H1) (h:∀ p,p∈L'↔p∈L) (nd:L'.Nodup):Post K O fp H ρ ρ1 σ σ1 L' fp1 H1:=
 ⟨x.rel.congr fun p=>or_congr Iff.rfl (h p).symm,nd,fun p hp=>x.lo p ((h p).mp hp),fun p hp=>x.new p (hp.imp (h p).mp id),x.kept,x.ln,x.stab⟩
theorem Post.give {i:Nat} {a:A} {v:V} (x:Post K O fp H ρ ρ1 σ σ L fp1 H1) (ha : ρ1[i]? = some (some (.own,a))) (hv : σ[i]? = some (some v)) :
  Post K O fp H ρ (ρ1.set i none) σ σ (L ++ fp1 i) (pt fp1 i []) H1∧Aq K (NN fp1 (ad O L)) H1 v a (fp1 i)∧∀ p,NN (pt fp1 i []) (ad O (L ++ fp1 i)) p↔NN fp1 (ad O L) p:=by
 obtain ⟨v',hv',q⟩:=x.rel.slot i _ _ ha
 rw [hv] at hv'; cases hv'
 have nn:∀ p,NN (pt fp1 i []) (ad O (L ++ fp1 i)) p↔NN fp1 (ad O L) p:=fun p=>by
  constructor
  ·intro z
   rcases z with ⟨j,z⟩ | z | z
   ·rcases Bl z with ⟨_,z⟩ | ⟨_,z⟩
    ·simp at z
    ·exact .inl ⟨j,z⟩
   ·exact .inr (.inl z)
   ·rcases mem_append.mp z with z | z
    ·exact .inr (.inr z)
    ·exact .inl ⟨i,z⟩
  ·intro z
   rcases z with ⟨j,z⟩ | z | z
   ·by_cases hj:j = i
    ·subst hj; exact .inr (.inr (mem_append_right _ z))
    ·exact .inl ⟨j,by rw [Fq hj]; exact z⟩
   ·exact .inr (.inl z)
   ·exact .inr (.inr (mem_append_left _ z))
 have nd:(L ++ fp1 i).Nodup:=nodup_append.mpr ⟨x.nd,x.rel.nd i,fun a ha b hb e=>by subst e; exact x.rel.off i a hb (.inr ha)⟩
 have R:=x.rel.set (i:=i) (s:=none) (o:=some v) (L:=[]) (O':=ad O (L ++ fp1 i)) (Aw ha) (fun p z=>(nn p).mp (.inr z)) (fun p hp=>by simp at hp) nodup_nil (fun p hp=>by simp at hp) (fun p hp=>by simp at hp)
  (fun j p hj h z=>by
   rcases z with z | z
   ·exact x.rel.off j p h (.inl z)
   ·rcases mem_append.mp z with z | z
    ·exact x.rel.off j p h (.inr z)
    ·exact hj (x.rel.inj j i p h z)) (fun st a e=>by cases e) (fun _=>rfl)
 rw [IP hv] at R
 refine ⟨⟨R,nd,fun p hp z=>?_,fun p hp=>?_,x.kept,rfl,fun j st a' h n=>?_⟩,q,nn⟩
 ·rcases mem_append.mp hp with hp | hp
  ·exact x.lo p hp z
  ·exact x.rel.off i p hp (.inl z)
 ·rcases hp with hp | ⟨j,hp⟩
  ·rcases mem_append.mp hp with hp | hp
   ·exact x.new p (.inl hp)
   ·exact x.new p (.inr ⟨i,hp⟩)
  ·rcases Bl hp with ⟨_,z⟩ | ⟨_,z⟩
   ·simp at z
   ·exact x.new p (.inr ⟨j,z⟩)
 ·obtain ⟨a2,h2,_,f2⟩:=x.stab j st a' h n
  refine ⟨a2,?_,rfl,f2⟩
  rw [getElem?_set_ne]
  ·exact h2
  ·rintro rfl
   rw [ha] at h2; cases h2; exact n rfl
theorem RRs.weak (h:∀ p,O' p→N p):∀ {vs:List V} {rs:List R} {L:List Addr},RRs K N H σ vs rs L→RRs K O' H σ vs rs L
 | [],[],_,q=>q
 | [],_ :: _,_,q=>by simp only [RRs] at q
 | _ :: _,[],_,q=>by simp only [RRs] at q
 | v :: vs,r :: rs,L,q=>by
  simp only [RRs] at q ⊢
  obtain ⟨L1,L2,rfl,h1,h2⟩:=q
  refine ⟨L1,L2,rfl,?_,RRs.weak h h2⟩
  cases r with
  | val a=>exact Dq h h1
  | ref i=>exact h1
theorem FT:∀ {rs:List R} {vs:List V} {as:List A} {ρ1 ρ2:Ro} {fp1:Nat→List Addr} {Lacc L:List Addr},Post K O fp H ρ ρ1 σ σ (Lacc ++ L) fp1 H1→RRs K (NN fp1 (ad O (Lacc ++ L))) H1 σ vs rs L→moves rs ρ1 = some (as,ρ2) →
  ∃ L2 fp2,Post K O fp H ρ ρ2 σ σ (Lacc ++ L2) fp2 H1∧Ao K (NN fp2 (ad O (Lacc ++ L2))) H1 vs as L2∧∀ p,NN fp2 (ad O (Lacc ++ L2)) p↔NN fp1 (ad O (Lacc ++ L)) p
 | [],[],as,ρ1,ρ2,fp1,Lacc,L,x,q,e=>by
  simp only [moves,Option.some.injEq,Prod.mk.injEq] at e
  obtain ⟨rfl,rfl⟩:=e
  simp only [RRs] at q
  subst q
  exact ⟨[],fp1,x,by simp [Ao],fun p=>Iff.rfl⟩
 | [],_ :: _,_,_,_,_,_,_,_,q,_=>by simp only [RRs] at q
 | _ :: _,[],_,_,_,_,_,_,_,q,_=>by simp only [RRs] at q
 | r :: rs,v :: vs,as,ρ1,ρ2,fp1,Lacc,L,x,q,e=>by
  simp only [RRs] at q
  obtain ⟨L1,L2,rfl,h1,h2⟩:=q
  simp only [moves,bind_eq_some_iff,map_eq_some_iff] at e
  obtain ⟨⟨a,ρ3⟩,e1,⟨as',ρ4⟩,e2,e3⟩:=e
  cases e3
  cases r with
  | val b =>
   simp only [move,Option.some.injEq,Prod.mk.injEq] at e1
   obtain ⟨rfl,rfl⟩:=e1
   rw [← append_assoc] at x h1 h2
   obtain ⟨L3,fp3,p3,q3,n3⟩:=FT (Lacc:=Lacc ++ L1) x h2 e2
   rw [append_assoc] at p3 q3 n3
   refine ⟨L1 ++ L3,fp3,p3,?_,fun p=>by rw [n3 p,append_assoc]⟩
   simp only [Ao]
   exact ⟨L1,L3,rfl,Dq (fun p z=>by have:=(n3 p).mp z; rw [append_assoc]; rw [append_assoc] at this; exact this) h1,q3⟩
  | ref i =>
   obtain ⟨rfl,hv⟩:=h1
   rw [nil_append] at x h2
   simp only [move] at e1
   split at e1
   ·rename_i a' ha
    cases e1
    obtain ⟨g1,g2,g3⟩:=x.give ha hv
    have nd:((Lacc ++ fp1 i) ++ L2).Nodup:=by
     have:=g1.nd
     rw [append_assoc] at this ⊢
     exact (List.perm_append_comm.append_left Lacc).nodup this
    have g1':Post K O fp H ρ (ρ1.set i none) σ σ ((Lacc ++ fp1 i) ++ L2) (pt fp1 i []) H1:=g1.perm (fun p=>by simp; exact ⟨fun z=>by rcases z with z | z | z; exact .inl z; exact .inr (.inr z); exact .inr (.inl z),fun z=>by rcases z with z | z | z; exact .inl z; exact .inr (.inr z); exact .inr (.inl z)⟩) nd
    have nn:∀ p,NN (pt fp1 i []) (ad O ((Lacc ++ fp1 i) ++ L2)) p↔NN fp1 (ad O (Lacc ++ L2)) p:=fun p=>by
     rw [← g3 p]
     refine or_congr Iff.rfl (or_congr Iff.rfl ?_)
     simp
     exact ⟨fun z=>by rcases z with z | z | z; exact .inl z; exact .inr (.inr z); exact .inr (.inl z),fun z=>by rcases z with z | z | z; exact .inl z; exact .inr (.inr z); exact .inr (.inl z)⟩
    obtain ⟨L3,fp3,p3,q3,n3⟩:=FT (Lacc:=Lacc ++ fp1 i) g1' (RRs.weak (fun p z=>(nn p).mp z) h2) e2
    rw [append_assoc] at p3 q3 n3
    refine ⟨fp1 i ++ L3,fp3,p3,?_,fun p=>by rw [n3 p,nn p]; simp⟩
    simp only [Ao]
    exact ⟨fp1 i,L3,rfl,Dq (fun p z=>(nn p).mp ((n3 p).mp z)) g2,q3⟩
   ·cases e1
theorem Tu {m:MA} {Q:VK} (h:tE K (Fs m) σ H Q):XM (tA K m) σ H Q:=by
 obtain ⟨ρ,O,fp,rl,x,ρ',e,k⟩:=h
 simp only [Fs,bind_eq_some_iff] at e
 obtain ⟨⟨rs,ρ1⟩,e1,⟨as,ρ2⟩,e2,e3⟩:=e
 split at e3
 ·rename_i hz
  cases e3
  refine ⟨ρ,O,fp,rl,rs,_,e1,fun vs H1 yy=>?_⟩
  obtain ⟨L,fp1,p,q⟩:=yy
  obtain ⟨L2,fp2,p2,q',_⟩:=FT (Lacc:=[]) p q e2
  rw [nil_append] at p2 q'
  have hl:=q'.len
  refine ⟨by rw [hl]; exact hz,fun a ha=>k _ _ ?_⟩
  have s:=Cj (o:=.tup vs) ha
  have q2:Ao K (NN fp2 (ad O L2)) (upd H1 a (.tup vs)) vs as L2:=q'.tr (M:=fun _=>False) (fun _ z=>z.elim) (EG.kept s) (fun p z=>.inl z) fun _ _ z=>z
  show Jp _ _ _ _ _ _ _ (.val (mkT as)) _ _
  unfold mkT
  split
  ·rename_i ds hd
   obtain ⟨rfl,qd⟩:=q2.fzs hd
   exact ⟨[],fp2,p2.more s nodup_nil (fun p hp=>by simp at hp),MU (QH AK (by rw [hl]; exact hz) qd)⟩
  ·refine ⟨L2,fp2,p2.more s p2.nd (fun p hp=>.inl hp),?_⟩
   show Aq _ _ _ _ _ _
   rw [Aq]
   exact ⟨a,vs,rfl,AK,by rw [hl]; exact hz,q2⟩
 ·cases e3
end
section
variable {X:Cx} {a b c e:Expr} {es:List Expr} {m m1 m2 m3:ME} {ms:MA} {p pos pos' p2 apos cpos q npos:Pos} {x:Str} {K:Frag}
theorem HC {k:Nat} (h:JA X es ms):JE X (.Tuple es k pos) (Fs ms):=AA (VF h) fun _ _ _ h=>Tu h
theorem Fj:OpN K BN (r2L (rI0 fun i j=>.int (i - j))):=Gz
theorem Sb:OpN K Ge (r2L (rI0 fun i j=>.int (Builtin.bitAnd i j))):=Gz
theorem U9:OpN K Mm (r2L (rI0 fun i j=>.int (Builtin.bitOr i j))):=Gz
theorem TZ:OpN K gtA (r2L (rI0 fun i j=>.bl (decide (j < i)))):=LD
theorem W7:OpN K geA (r2L (rI0 fun i j=>.bl (decide (j≤i)))):=LD
end
end J
end
section
namespace J
open PySem L2
theorem BS (ds:List D):fzs (ds.map A.fz) = some ds:=by
 induction ds with
 | nil=>rfl
 | cons d ds ih=>simp [fzs,ih]
theorem D3 (ds:List D):ers (ds.map A.fz) = some ds:=by
 induction ds with
 | nil=>simp [ers]
 | cons d ds ih=>simp [ers,er,ih]
theorem G2 (ρ:Ro):lock ρ none = ρ:=rfl
theorem Hj (ρ ρ':Ro):unlock ρ ρ' none = ρ':=rfl
theorem Hi (ρ:Ro) (n:Option Nat):unlock ρ (lock ρ n) n = ρ:=by
 cases n with
 | none=>rfl
 | some i =>
  simp only [unlock,lock]
  split
  ·rename_i s e
   apply List.ext_getElem?
   intro j
   by_cases h:j = i
   ·subst h
    have hj:j < ρ.length:=Aw e
    split
    ·rw [getElem?_set_self (by simpa using hj),e]
    ·rw [getElem?_set_self hj,e]
   ·split
    ·rw [getElem?_set_ne (Ne.symm h),getElem?_set_ne (Ne.symm h)]
    ·rw [getElem?_set_ne (Ne.symm h)]
  ·rename_i e
   split
   ·rename_i st a e'
    rw [e] at e'; cases e'
   ·rfl
theorem K9 {c:MT} {e:ME} {f:D→D} {g:D→Bool} {ρ:Ro}:∀ {ds:List D},(∀ d∈ds,c (own d :: ρ) = some (g d,own d :: ρ))→(∀ d∈ds,g d = true→∃ r,e (own d :: ρ) = some (r,own d :: ρ)∧share (own d :: ρ) r = some (f d,own d :: ρ))→DL 0 c e ds ρ = some ((ds.filter g).map f,ρ)
 | [],_,_=>rfl
 | d :: ds,hc,he=>by
  have ih:=K9 (ds:=ds) (fun x hx=>hc x (mem_cons_of_mem _ hx)) fun x hx=>he x (mem_cons_of_mem _ hx)
  simp only [DL,MP,bind_some,map_cons,map_nil,cons_append,nil_append,hc d mem_cons_self]
  cases h:g d with
  | true =>
   obtain ⟨r,h1,h2⟩:=he d mem_cons_self h
   simp [h1,h2,ih,h]
  | false=>simp [ih,h]
theorem Gf {it:MI} {c:MT} {e:ME} {f:D→D} {g:D→Bool} {ρ ρ1:Ro} {ds:List D} {n:Option Nat} (hi:it ρ = some (ds,n,ρ1)) (hl:ds.length≤LIM) (hc:∀ d∈ds,c (own d :: lock ρ1 n) = some (g d,own d :: lock ρ1 n))
  (he:∀ d∈ds,g d = true→∃ r,e (own d :: lock ρ1 n) = some (r,own d :: lock ρ1 n)∧share (own d :: lock ρ1 n) r = some (f d,own d :: lock ρ1 n)):A4 it 0 c e ρ = some (.val (.lst (((ds.filter g).map f).map A.fz)),ρ1):=by
 simp only [A4,hi,bind_some,hl,if_true,K9 hc he,map_some,Hi]
theorem DI {it:MI} {e:ME} {f:D→D} {ρ ρ1:Ro} {ds:List D} {n:Option Nat} (hi:it ρ = some (ds,n,ρ1)) (hl:ds.length≤LIM)
  (he:∀ d∈ds,∃ r,e (own d :: lock ρ1 n) = some (r,own d :: lock ρ1 n)∧share (own d :: lock ρ1 n) r = some (f d,own d :: lock ρ1 n)):A4 it 0 D0 e ρ = some (.val (.lst ((ds.map f).map A.fz)),ρ1):=by
 have:=Gf (g:=fun _=>true) (c:=D0) hi hl (fun d _=>rfl) fun d hd _=>he d hd
 rw [List.filter_eq_self.mpr (fun _ _=>rfl)] at this
 exact this
theorem Jy {c:MT} {e:ME} {f:D→D→D} {g:D→D→Bool} {ρ:Ro}:∀ {ds:List (D × D)},(∀ d∈ds,c (own d.1 :: own d.2 :: ρ) = some (g d.1 d.2,own d.1 :: own d.2 :: ρ))→(∀ d∈ds,g d.1 d.2 = true→∃ r,e (own d.1 :: own d.2 :: ρ) = some (r,own d.1 :: own d.2 :: ρ)∧share (own d.1 :: own d.2 :: ρ) r = some (f d.1 d.2,own d.1 :: own d.2 :: ρ))→DL 2 c e (ds.map fun d=>.tup [d.1,d.2]) ρ = some ((ds.filter fun d=>g d.1 d.2).map fun d=>f d.1 d.2,ρ)
 | [],_,_=>rfl
 | d :: ds,hc,he=>by
  have ih:=Jy (ds:=ds) (fun x hx=>hc x (mem_cons_of_mem _ hx)) fun x hx=>he x (mem_cons_of_mem _ hx)
  simp only [map_cons,DL,MP,length_cons,length_nil,bind_some,map_cons,map_nil,cons_append,nil_append,if_true,hc d mem_cons_self]
  cases h:g d.1 d.2 with
  | true =>
   obtain ⟨r,h1,h2⟩:=he d mem_cons_self h
   simp [h1,h2,ih,h]
  | false=>simp [ih,h]
theorem Lg {is:List Nat} {one:Bool} {b:MS} (Inv:Nat→Ro→Prop):∀ {ds:List D} {i:Nat} {ρ:Ro},Inv i ρ → (∀ (j:Nat) d ρ,ds[j]? = some d→Inv (i + j) ρ → ∃ ρ1 ρ2,HS is one d ρ = some ρ1∧(b ρ1 = some (.next ρ2)∨b ρ1 = some (.cnt ρ2))∧Inv (i + j + 1) ρ2)→∃ ρ',forL is one b ds ρ = some (.next ρ')∧Inv (i + ds.length) ρ'
 | [],i,ρ,h0,_=>⟨ρ,rfl,h0⟩
 | d :: ds,i,ρ,h0,hs=>by
  obtain ⟨ρ1,ρ2,h1,h2,h3⟩:=hs 0 d ρ rfl h0
  obtain ⟨ρ',h4,h5⟩:=Lg (ds:=ds) (i:=i + 1) (b:=b) (is:=is) (one:=one) Inv h3 fun j d ρ e hI=>by
   have:=hs (j + 1) d ρ (by simpa using e) (by rw [show i + (j + 1) = i + 1 + j by lia]; exact hI)
   rw [show i + (j + 1) + 1 = i + 1 + j + 1 by lia] at this
   exact this
  refine ⟨ρ',?_,by rw [length_cons,show i + (ds.length + 1) = i + 1 + ds.length by lia]; exact h5⟩
  rcases h2 with h2 | h2 <;> simp [forL,h1,h2,h4]
theorem En {is:List Nat} {one:Bool} {it:MI} {b:MS} {ρ ρ1:Ro} {ds:List D} {n:Option Nat} (Inv:Nat→Ro→Prop) (hi:it ρ = some (ds,n,ρ1)) (h0:Inv 0 (lock ρ1 n))
  (hs:∀ (j:Nat) d ρ,ds[j]? = some d→Inv j ρ → ∃ ρ1 ρ2,HS is one d ρ = some ρ1∧(b ρ1 = some (.next ρ2)∨b ρ1 = some (.cnt ρ2))∧Inv (j + 1) ρ2):∃ ρ',GU is one it b ρ = some (.next (unlock ρ1 ρ' n))∧Inv ds.length ρ':=by
 obtain ⟨ρ',h1,h2⟩:=Lg (is:=is) (one:=one) (b:=b) Inv (ds:=ds) (i:=0) h0 fun j d ρ e hI=>by
  rw [Nat.zero_add] at hI ⊢
  exact hs j d ρ e hI
 refine ⟨ρ',?_,by simpa using h2⟩
 simp [GU,hi,h1,HK]
theorem DZ (lo:Int) (n:Nat):(Cu lo n).length = n:=by simp [Cu]
theorem IY {lo:Int} {n j:Nat} {d:D} (h:(Cu lo n)[j]? = some d):d = .int (lo + j)∧j < n:=by
 have hj:j < n:=by have:=Aw h; simpa [Cu] using this
 simp only [Cu,getElem?_map,List.getElem?_range hj,map_some,Option.some.injEq] at h
 exact ⟨h.symm,hj⟩
noncomputable def iL (xs:List Int):List D:=xs.map D.int
theorem Fy (xs:List Int):(iL xs).all CO = true:=by simp [iL,CO,all_eq_true]
theorem GW (x:Int) (xs:List Int):inD (.int x) (iL xs) = decide (x∈xs):=by
 induction xs with
 | nil=>rfl
 | cons y ys ih =>
  have:inD (.int x) (iL (y :: ys)) = (eqD (.int y) (.int x) || inD (.int x) (iL ys)):=rfl
  rw [this,ih]
  simp only [eqDi,mem_cons]
  by_cases h:y = x
  ·subst h; simp
  ·have h':¬ x = y:=fun z=>h z.symm
   simp [h,h']
theorem Fu {α:Type} (xs:List α) (f:α → Bool):Ds (xs.map fun x=>D.bl (f x)) = some (xs.map f):=by
 induction xs with
 | nil=>rfl
 | cons x xs ih=>simp [Ds,ih]
theorem Ie (xs:List Int):Hf (iL xs) = some xs:=by
 induction xs with
 | nil=>rfl
 | cons x xs ih =>
  simp only [iL,map_cons,Hf] at ih ⊢
  rw [ih]; rfl
end J
namespace J
open PySem L2
@[simp] theorem Ot (xs:List Int):(iL xs).length = xs.length:=by simp [iL]
theorem Kl {d:D} {xs:List Int}:d∈iL xs↔∃ i∈xs,d = .int i:=by
 simp only [iL,mem_map]
 constructor
 ·rintro ⟨i,h,rfl⟩; exact ⟨i,h,rfl⟩
 ·rintro ⟨i,h,rfl⟩; exact ⟨i,h,rfl⟩
noncomputable def nD:D→Int
 | .int i=>i
 | _=>0
@[simp] theorem U7 (i:Int):nD (.int i) = i:=rfl
theorem P7 {β:Type} (f:Int → β) (xs:List Int):(iL xs).map (fun d=>f (nD d)) = xs.map f:=by simp [iL]
end J
namespace J
open PySem L2
theorem Ai {a b:MS} {ρ ρ1:Ro} (h:a ρ = some (.next ρ1)):Ap a b ρ = b ρ1:=by simp [Ap,h]
theorem KH {a b:MS} {ρ ρ1:Ro} {v:A} (h:a ρ = some (.ret v ρ1)):Ap a b ρ = some (.ret v ρ1):=by simp [Ap,h]
theorem Lo {c:MT} {a b:MS} {ρ ρ1:Ro} (h:c ρ = some (true,ρ1)):ifS c a b ρ = a ρ1:=by simp [ifS,h]
theorem GV {c:MT} {a b:MS} {ρ ρ1:Ro} (h:c ρ = some (false,ρ1)):ifS c a b ρ = b ρ1:=by simp [ifS,h]
theorem DY {m:ME} {ρ ρ1:Ro} {b:Bool} (h:m ρ = some (.val (.fz (.bl b)),ρ1)):AG m ρ = some (b,ρ1):=by simp [AG,h,peek,FE]
theorem not_of {m:MT} {ρ ρ1:Ro} {b:Bool} (h:m ρ = some (b,ρ1)):Dm m ρ = some (!b,ρ1):=by simp [Dm,h]
theorem BV {m:ME} {ρ ρ1:Ro} {a:A} (h:m ρ = some (.val a,ρ1)):retS m ρ = some (.ret a ρ1):=by simp [retS,h,move]
theorem Be {m:ME} {ρ ρ1:Ro} {a:A} {i:Nat} (h:m ρ = some (.val a,ρ1)) (hf:free ρ1 i = true):Ar i m ρ = some (.next (ρ1.set i (some (.own,a)))):=by simp [Ar,h,keep,hf]
theorem GR {m:ME} {ρ ρ1:Ro} {r:R} (h:m ρ = some (r,ρ1)):EJ m ρ = some (.next ρ1):=by simp [EJ,h]
theorem AU {np nn:Nat} {b:MS} {args:List (Own × A)} {a:A} {ρ:Ro} (hl:args.length = np) (h:b (args.map some ++ List.replicate (nn - np) none) = some (.ret a ρ)):fnM np nn b args = some (a,(ρ.take np).map Jl):=by simp [fnM,hl,h]
end J
end
section
namespace Sg
open PySem
section
variable {P:Program} {w:World} {A:Around} {E:Value→Shared→Prop} {s:Shared}
end
section
variable {P:Program} {w:World} {A:Around} {E:Value→Shared→Prop}
end
section
variable {P:Program} {w:World} {A:Around} {E:Value→Shared→Prop} {s:Shared}
end
section
variable {P:Program} {w:World} {A:Around} {E:Value→Shared→Prop} {s:Shared}
end
section
variable {P:Program} {w:World} {A:Around} {E:Value→Shared→Prop} {s:Shared}
end
end Sg
end
section
namespace Sg
open PySem PyProof.Rows
section
variable {P:Program} {w:World} {A:Around} {E:Value→Shared→Prop} {s:Shared}
end
section
variable {P:Program} {w:World} {A:Around} {E:Value→Shared→Prop} {s:Shared}
end
end Sg
end
section
namespace L2
open PySem PySem.Spec PyProof.Rows
section
variable {X:Cx} {pins:List (Addr × Obj)} {σ:St} {H:Hp} {s:Shared} {h':Heap}
theorem Inv.turnedT {t':Nat} {T:Addr} {xs:List V} {ch:List Addr} (I:Inv X pins σ H s) (hf:∀ b∈ch,Ga X pins H b) (k:∀ b o,b ∉ ch→s.heap.get? b = some o→h'.get? b = some o)
  (hT:s.heap.objs.size≤T) (new:BO X.prog X.w (upd H T (.tup xs)) h' T (.tup xs)):Inv X pins σ (upd H T (.tup xs)) { s with heap:=h',toks:=t' }:=by
 have hn:H T = none:=I.hok.fresh hT
 have nch:∀ b u,H b = some u→b ∉ ch:=fun b u e z=>by rw [(hf b z).1] at e; cases e
 have neT:∀ b u,H b = some u→b≠T:=fun b u e z=>by rw [z,hn] at e; cases e
 refine I.step (g':=s.gens) (d':=s.drawn) (ch:=ch) (fun b hb=>?_) (fun b o _ _ hc e _=>k b o hc e) (fun b o _ _ hc e _=>⟨o.slots,k b o hc e⟩) (fun b o hc e n=>?_)
  (fun b o hc e=>⟨o,k b o hc e⟩) (fun b xs e=>by rw [AH (neT b _ e)]; exact e) (fun b o u e=>by rw [AH (neT b _ e)]; exact e) (fun b ps e=>⟨#[],by rw [AH (neT b _ e),e]; simp⟩) (fun m hm=>?_) (fun b u e=>?_) I.bare
 ·obtain ⟨f0,f1,f2,f3,f4,f5⟩:=hf b hb
  exact ⟨f3,f1,f4,f5⟩
 ·rw [AH (ne_of_lt (lt_of_lt_of_le (lt_size e) hT))]; exact n
 ·obtain ⟨o,es,ep,ho,r⟩:=hm
  exact ⟨o,es,ep,k _ o (fun z=>(hf _ z).2.1 rfl) ho,r⟩
 ·by_cases hb:b = T
  ·subst hb; rw [AK] at e; cases e; exact new
  ·rw [AH hb] at e
   refine (I.hok b u e).stay (fun c v hc q=>k c v ?_ q) (fun c q=>by rw [AH (neT c _ q)]; exact q) fun c ys q=>by rw [AH (neT c _ q)]; exact q
   rcases hc with z | z
   ·rw [z]; exact nch b u e
   ·exact nch c _ z
end
noncomputable def Ite (z:Str):It:=⟨fun i _=>i < z.cps.size,fun i H v H'=>∃ c T,z.cps[i]? = some c∧H T = none∧v = .ref T∧H' = upd H T (.tup [.int i,.str ⟨#[c]⟩]),fun i _=>z.cps.size≤i⟩
theorem JC {P:Program} {w:World} {A:Around} (hh:A.handled = none) (it:Addr) (z:Str) (t:Tok):Draws P w A it [it] z.cps.size (fun i v=>∃ c u,z.cps[i]? = some c∧v = .str ⟨#[c]⟩ u) (fun i h=>h.IsStrIter it (strIterType z) z t i):=by
 cases ha:z.cps.all (· < 128)
 ·have e:strIterType z = "str_iterator" := by simp [strIterType,ha]
  rw [e]
  exact Draws.strWide hh it z t
 ·have e:strIterType z = "str_ascii_iterator" := by simp [strIterType,ha]
  rw [e]
  exact Draws.strAscii hh it z t
theorem O2 {P:Program} {w:World} {K:Frag} {ts:List Expr} {k:Nat} {pos:Pos} (e it:Addr) (hne:e≠it) (z:Str) (t:Tok) :
  Turn P w K (.Tuple ts k pos) (Ite z) [e,it] e (fun i h=>i≤z.cps.size∧(∃ old,IsEnum h e it ((i:Nat):Int) old)∧h.IsStrIter it (strIterType z) z t i) where
 mem:=by simp
 obj:=fun i h st b hb=>by
  obtain ⟨_,⟨old,he⟩,o,ho,c,d⟩:=st
  simp only [mem_cons,not_mem_nil,or_false] at hb
  rcases hb with rfl | rfl
  ·exact ⟨_,he,fun v q=>by cases q⟩
  ·exact ⟨o,ho,fun v q=>by rw [d] at q; cases q⟩
 keep:=fun i h h' st kk=>by
  obtain ⟨le,⟨old,he⟩,o,ho,r⟩:=st
  exact ⟨le,⟨old,kk e (by simp) _ he⟩,o,kk it (by simp) _ ho,r⟩
 item:=by
  intro X hP hw hK hc i pins s σ H E I hf st hg
  subst hP hw hK
  obtain ⟨le,⟨old,he⟩,hs⟩:=st
  have D:=JC (P:=X.prog) (w:=X.w) (A:=X.A.in1) (I.ok.hd hc) it z t
  have elt:e < s.heap.objs.size:=lt_size he
  have ilt:it < s.heap.objs.size:=by obtain ⟨o,ho,_⟩:=hs; exact lt_size ho
  refine wpAny_pyNext_enum_itemD D he hs hg hne (by simpa using hne) fun x h1 tk hx ho hs1 hT hsz hk=>?_
  obtain ⟨c,u,hcc,rfl⟩:=hx
  refine ⟨_,rfl,wpAny_letOwnedTupleGo_enum ho fun h2 he2 hs2=>?_⟩
  have hs2':Heap.SameBut e h1 h2:=hs2
  have g2:h2.get? s.heap.objs.size = some { cls:=.type "tuple",data:=.seq #[.int i tk,.str ⟨#[c]⟩ u] }:=(hs2'.2 _ (Nat.ne_of_gt elt)).trans hT
  have I2:Inv X pins σ (upd H s.heap.objs.size (.tup [.int i,.str ⟨#[c]⟩])) { s with heap:=h2,toks:=tk + 1 }:=by
   refine I.turnedT (ch:=[e,it]) hf (fun b o hb q=>?_) (le_refl _) ?_
   ·simp only [mem_cons,not_mem_nil,or_false,not_or] at hb
    exact (hs2'.2 b hb.1).trans (hk b o hb.1 hb.2 q)
   ·exact ⟨by show 2≤sizeLine; decide,[.int i tk,.str ⟨#[c]⟩ u],.cons ⟨_,rfl⟩ (.cons ⟨_,rfl⟩ .nil),_,g2,rfl,_,rfl⟩
  refine ⟨.ref s.heap.objs.size,_,I2,rfl,⟨c,_,hcc,I.hok.fresh (le_refl _),rfl,rfl⟩,⟨hg,⟨_,by simpa using he2⟩,?_⟩,fun b hb=>?_⟩
  ·obtain ⟨o,ho1,r⟩:=hs1
   exact ⟨o,(hs2'.2 it (Ne.symm hne)).trans ho1,r⟩
  ·have hlt:b < s.heap.objs.size:=by
    simp only [mem_cons,not_mem_nil,or_false] at hb
    rcases hb with rfl | rfl
    ·exact elt
    ·exact ilt
   rw [AH (ne_of_lt hlt)]
   exact (hf b hb).1
 done:=by
  intro X hP hw hK hc i pins s σ H E I hf st hg
  subst hP hw hK
  obtain ⟨le,⟨old,he⟩,hs⟩:=st
  have D:=JC (P:=X.prog) (w:=X.w) (A:=X.A.in1) (I.ok.hd hc) it z t
  have hg':z.cps.size≤i:=hg
  obtain ⟨f0,f1,f2,f3,f4,f5⟩:=hf it (by simp)
  have e0:i = z.cps.size:=by lia
  subst e0
  exact wpAny_pyNext_enum_endD D he hs fun h1 eb=>⟨rfl,I.turned (t':=s.toks) (fun b o hb q=>eb b o hb q) f0 f1 f3 f4 f5⟩
 self:=fun _ _ _ _ _ st h=>by
  obtain ⟨_,⟨old,he⟩,_⟩:=st
  exact wpAny_pyIter_enum he h
section
variable {X:Cx}
noncomputable def TX (tl:TA):TI:=fun σ H R=>tl σ H fun vs H1=>∃ z,vs = [.str z]∧R (Ite z) H1
theorem SD {ts:List Expr} {k:Nat} {tpos:Pos} {a:Expr} {ta:TA} {p pos:Pos} (hg:Gl X "enumerate") (hm:X.mg "enumerate" = none) (ha:PA X [a] ta) (hs:starEach [a] X.env = [(false,eval a X.env)]) :
  PI X (.Tuple ts k tpos) (.Call (.Name "enumerate" p) [a] [] pos) (TX ta):=by
 intro pins s σ H R I h
 refine Call_ (G0 I hg hm boot_enumerate (PyProof.Rows.callWith_type1 (thn (ha pos pins s σ H _ I h) fun us s1 yy=>?_) hs rfl))
 obtain ⟨vs,H1,I1,r1,q1⟩:=yy
 obtain ⟨z,e,q⟩:=q1
 subst e
 obtain ⟨u,rfl,ru⟩:=r1.one
 obtain ⟨t,rfl⟩:=ru
 refine call_enumerate_str fun h1 he hit hsz hk=>?_
 refine wpAny_pyIter_enum he ?_
 have I2:Inv X pins σ H1 { s1 with heap:=h1 }:=I1.kept (t':=s1.toks) hk
 refine ⟨_,[s1.heap.objs.size + 1,s1.heap.objs.size],_,_,H1,rfl,I2,O2 _ _ (Nat.succ_ne_self _) z t,⟨zero_le _,⟨_,he⟩,hit⟩,fun b hb=>?_,q⟩
 simp only [mem_cons,not_mem_nil,or_false] at hb
 rcases hb with rfl | rfl
 ·exact I1.fpOk (le_succ _) (I1.hok.fresh (le_succ _))
 ·exact I1.fpOk (le_refl _) (I1.hok.fresh (le_refl _))
end
end L2
namespace J
open PySem PySem.Spec PyProof.Rows L2
section
variable {X:Cx} {a b c e:Expr} {es:List Expr} {m m1 m2 m3:ME} {ms:MA} {p pos pos' p2 apos cpos q npos:Pos} {x:Str}
variable {K:Frag} {N:Addr→Prop} {H:Hp} {σ:L2.St} {v:V} {L:List Addr}
noncomputable def EW (z:Str):List D:=(List.range z.cps.size).map fun (i:Nat)=>D.tup [.int (i:Int),.str ⟨#[z.cps.getD i 0]⟩]
noncomputable def El (m:ME):MI:=fun ρ=>(m ρ).bind fun p=>match p.1 with
 | .val (.fz (.str z))=>if z.length≤LIM then some (EW z,none,p.2) else none
 | _=>none
theorem Tv {R:It→Hp→Prop} (h:tI K (El m) σ H R):TX (Cc (tE K m) F7) σ H R:=by
 obtain ⟨ρ,O,fp,rl,ds,n,ρ',e,k⟩:=h
 simp only [El,bind_eq_some_iff] at e
 obtain ⟨⟨r,ρ1⟩,e1,e2⟩:=e
 dsimp only at e2
 split at e2
 ·rename_i z
  split at e2
  ·rename_i hz
   cases e2
   refine ⟨ρ,O,fp,rl,_,_,e1,fun v H1 yy=>?_⟩
   obtain ⟨L,fp1,p,q⟩:=yy
   have q':Aq K (NN fp1 (ad O L)) H1 v (.fz (.str z)) L:=q
   rw [Aq] at q'
   obtain ⟨rfl,q'⟩:=q'
   cases q'
   refine ⟨z,rfl,k _ _ ⟨.val (.fz .non),.non,.fz .non,[],fp1,p,Et (K:=K) .non,rfl,rfl,fun N H2 _=>?_⟩⟩
   have hl:(EW z).length = z.cps.size:=by simp [EW]
   refine ⟨fun i hi=>by show i < z.cps.size; lia,fun i hi=>by show z.cps.size≤i; lia,fun i v H' d y e=>?_⟩
   obtain ⟨c,T,hc,hT,rfl,rfl⟩:=y
   have hi:i < z.cps.size:=by have:=Aw e; lia
   have hd:d = .tup [.int i,.str ⟨#[c]⟩]:=by
    have ec:z.cps.getD i 0 = c:=by
     rw [Array.getD_eq_getD_getElem?,hc]; rfl
    simp only [EW,getElem?_map,List.getElem?_range hi,map_some,Option.some.injEq] at e
    rw [← e,ec]
   subst hd
   refine ⟨Cj hT,.tup AK (by show 2≤sizeLine; decide) rfl fun j v d h1 h2=>?_⟩
   match j with
   | 0=>simp at h1 h2; subst h1 h2; exact .int _
   | 1=>simp at h1 h2; subst h1 h2; exact .str _ (by show 1≤sizeLine; decide)
   | j + 2=>simp at h1
  ·cases e2
 ·cases e2
theorem NA {ts:List Expr} {tk:Nat} {tpos:Pos} (hg:Gl X "enumerate") (hm:X.mg "enumerate" = none) (hs:starEach [a] X.env = [(false,eval a X.env)]) (h:JE X a m):JI X (.Tuple ts tk tpos) (.Call (.Name "enumerate" p) [a] [] pos) (El m):=HH (SD hg hm (C1 h Ei hs) hs) fun _ _ _ h=>Tv h
end
end J
end
section
namespace L2
open PySem PySem.Spec PyProof.Rows Sg
section
variable {X:Cx}
end
end L2
namespace J
open PySem PySem.Spec PyProof.Rows L2 Sg
section
variable {X:Cx} {a b c e:Expr} {es:List Expr} {m m1 m2 m3:ME} {ms:MA} {p pos pos' p2 apos cpos q npos:Pos} {x:Str}
variable {K:Frag} {N:Addr→Prop} {H:Hp} {σ:L2.St} {v:V} {L:List Addr}
end
end J
end
section
namespace J
open PySem PySem.Spec PyProof.Rows L2
section
variable {K:Frag} {ρ ρ' ρ1 ρ2:Ro} {σ σ' σ1 σ2:L2.St} {H H' H1 H2:Hp} {O O' N:Addr→Prop} {fp fp' fp1 fp2:Nat→List Addr} {L L1:List Addr}
end
section
variable {X:Cx} {a b c e:Expr} {es:List Expr} {m m1 m2 m3:ME} {ms:MA} {p pos pos' p2 apos cpos q npos:Pos} {x:Str}
end
end J
end
section
namespace L2
open PySem PySem.Spec PyProof.Rows
section
variable {P:Program} {w:World} {A:Around} {E:Value→Shared→Prop} {s:Shared}
end
end L2
namespace L2
open PySem PySem.Spec PyProof.Rows
section
variable {X:Cx}
end
end L2
namespace J
open PySem PySem.Spec PyProof.Rows L2
section
variable {X:Cx} {a b c e:Expr} {es:List Expr} {m m1 m2 m3:ME} {ms:MA} {p pos pos' p2 apos cpos q npos:Pos} {x:Str}
variable {K:Frag} {N:Addr→Prop} {H:Hp} {σ:L2.St} {v:V} {L:List Addr}
end
end J
end
section
namespace Ug
open PySem Sg
section
variable {P:Program} {w:World} {A:Around} {E:Value→Shared→Prop} {s:Shared}
end
section
variable {P:Program} {w:World} {A:Around} {E:Value→Shared→Prop}
end
section
variable {P:Program} {w:World} {A:Around} {E:Value→Shared→Prop} {s:Shared}
end
section
variable {P:Program} {w:World} {A:Around} {E:Value→Shared→Prop} {s:Shared}
end
section
variable {P:Program} {w:World} {A:Around} {E:Value→Shared→Prop} {s:Shared}
end
end Ug
end
section
namespace Ug
open PySem Sg PyProof.Rows
section
variable {P:Program} {w:World} {A:Around} {E:Value→Shared→Prop} {s:Shared}
end
end Ug
end
section
namespace L2
open PySem PySem.Spec PyProof.Rows Sg
section
variable {X:Cx}
theorem O6:∀ {us:List Value} {ys:List Str},StrsAre us ys→Vals (ys.map V.str) us:=fun h=>by
 induction h with
 | nil=>exact .nil
 | cons x t h ih=>exact .cons ⟨t,rfl⟩ ih
noncomputable def QD (K:Frag):List V→Hp→VK→Prop:=fun xs H Q=>∃ (p:Addr) (ns:List Str),xs = [.ref p]∧SqL K H p (ns.map V.str)∧ns.length < 64∧∀ (l:Addr) (ns':List Str),H l = none→ns'.Perm ns→sortedS ns' = true→Q (.ref l) (upd H l (.lst (ns'.map V.str)))
theorem J5:BX X (.builtin "sorted") (QD X.K):=by
 intro pins s σ H xs us Q I r h
 obtain ⟨p,ns,rfl,hq,hl,q⟩:=h
 obtain ⟨u,rfl,ru⟩:=r.one
 cases ru
 obtain ⟨its,rv,pl,hz⟩:=I.list hq
 have hlen:=rv.length
 rw [length_map] at hlen
 refine sorted_strs pl.isList (F5 rv) (by lia) fun out ns' a1 a2 a3=>?_
 obtain ⟨e,he⟩:=sortedAll_at s.heap its out
 have hfr:H (s.heap.objs.size + 1) = none:=I.hok.fresh (le_succ _)
 have hl':ns'.length≤sizeLine:=by
  have:=a2.length_eq
  have h64:64≤sizeLine:=by decide
  lia
 refine ⟨.ref (s.heap.objs.size + 1),_,I.laid (t':=s.toks) (o:=.lst (ns'.map V.str)) (fun b ob q=>sortedAll_old q) (le_succ _) ?_,rfl,q _ ns' hfr a2 a3⟩
 refine ⟨by rw [length_map]; exact hl',out.toList,e,O6 a1,?_⟩
 rw [he]
noncomputable def Jm (z:Str):Str:=⟨z.cps.toList.reverse.toArray⟩
theorem QJ (x:Str) (t tj:Tok):sliceMade x t none none (some (-1,tj)) = .str (Jm x):=by
 have e0:slicePicked x none none (some (-1,tj)) = sliceRange ((x.length:Int) - 1) (-1) (-1):=rfl
 have e1:(((some ((-1:Int),tj)).map (·.1)).getD 1 == 1) = false:=rfl
 unfold sliceMade
 rw [e1,e0,Bool.false_and,if_neg Bool.false_ne_true,PySem.W.krv_sliceRange,PySem.W.krv_range,List.filterMap_reverse]
 have:=PySem.W.krv_all x.cps
 unfold Jm
 rw [show x.length = x.cps.size from rfl,this]
noncomputable def X8 (te ts:TE):TE:=fun σ H Q=>te σ H fun x H1=>ts σ H1 fun y H2=>∃ z,x = .str z∧y = .int (-1)∧z.length≤sizeLine∧Q (.str (Jm z)) H2
theorem VC {e b:Expr} {te ts:TE} {p2 pos:Pos} (he:PE X e te) (hb:PE X b ts):PE X (.Subscript e (.Slice none none (some b) p2) pos) (X8 te ts):=by
 intro pins s σ H Q I h
 refine Subscript_ (thn (he pins s σ H _ I h) fun v s1 yy=>?_)
 obtain ⟨x,H1,I1,r1,q1⟩:=yy
 refine wpAny_Slice ?_
 rw [evalPart_none]
 refine wpAny_pure (wpAny_pure ?_)
 rw [evalPart_some]
 refine thn (hb pins s1 σ H1 _ I1 q1) fun u s3 yy=>?_
 obtain ⟨y,H3,I3,r3,z,rfl,rfl,hz,q⟩:=yy
 obtain ⟨t,rfl⟩:=r1
 obtain ⟨tj,rfl⟩:=r3
 have I4:Inv X pins σ H3 { s3 with heap:=s3.heap.push { cls:=.type "slice",data:=.fields #[.none,.none,.int (-1) tj] } }:=I3.kept (t':=s3.toks) fun b ob q=>get?_push_of_some _ q
 show wpAny (model X.prog X.w) X.A (subscriptTail e (.Slice none none (some b) p2) (.str z t) (.ref s3.heap.objs.size)) (EP X pins σ Q) X.xe { s3 with heap:=s3.heap.push { cls:=.type "slice",data:=.fields #[.none,.none,.int (-1) tj] } }
 refine tail_any (ops:=[.ref s3.heap.objs.size,.str z t]) (typeIs_str _ _ _) F.slot_str_getitem.lookup ?_ (by with_unfolding_all rfl)
 refine wpAny_getItem_str_slice (l:=none) (u:=none) (st:=some (-1,tj)) ⟨_,get?_push_size _ rfl,rfl,rfl⟩ rfl ?_
 rw [QJ]
 have hl:(Jm z).length = z.length:=by simp [Jm,Str.length]
 exact ⟨by rw [hl]; exact hz,⟨.str _,H3,I4.tok _,⟨_,rfl⟩,q⟩⟩
theorem VD {e b c:Expr} {te tb tc:TE} {p2 pos:Pos} (he:PE X e te) (hb:PE X b tb) (hc:PE X c tc):PE X (.Subscript e (.Slice (some b) (some c) none p2) pos) (fun σ H Q=>te σ H fun x H1=>tb σ H1 fun y H2=>tc σ H2 fun z H3=>∃ i j,y = .int i∧z = .int j∧OT x (some i) (some j) H3 Q):=by
 intro pins s σ H Q I h
 refine Subscript_ (thn (he pins s σ H _ I h) fun v s1 yy=>?_)
 obtain ⟨x,H1,I1,r1,q1⟩:=yy
 refine wpAny_Slice ?_
 rw [evalPart_some]
 refine thn (hb pins s1 σ H1 _ I1 q1) fun vl s2 yy=>?_
 obtain ⟨y,H2,I2,r2,q2⟩:=yy
 rw [evalPart_some]
 refine thn (hc pins s2 σ H2 _ I2 q2) fun vu s3 yy=>?_
 obtain ⟨z,H3,I3,r3,i,j,rfl,rfl,q3⟩:=yy
 obtain ⟨ti,rfl⟩:=r2
 obtain ⟨tj,rfl⟩:=r3
 rw [evalPart_none]
 refine wpAny_pure ?_
 have I4:Inv X pins σ H3 { s3 with heap:=s3.heap.push { cls:=.type "slice",data:=.fields #[.int i ti,.int j tj,.none] } }:=I3.kept (t':=s3.toks) fun b ob q=>get?_push_of_some _ q
 obtain ⟨T,id,hT,ht,hg⟩:=M8 pins { s3 with heap:=s3.heap.push { cls:=.type "slice",data:=.fields #[.int i ti,.int j tj,.none] } } σ H3 x v (.int i ti) (.int j tj) (some i) (some j) s3.heap.objs.size Q I4 r1 (Heap.IsSliceOf.new ..) (.int i ti) (.int j tj) q3
 show wpAny (model X.prog X.w) X.A (subscriptTail e (.Slice (some b) (some c) none p2) v (.ref s3.heap.objs.size)) (EP X pins σ Q) X.xe { s3 with heap:=s3.heap.push { cls:=.type "slice",data:=.fields #[.int i ti,.int j tj,.none] } }
 exact tail_any (ops:=[.ref s3.heap.objs.size,v]) ht hT hg (by with_unfolding_all rfl)
end
end L2
namespace J
open PySem PySem.Spec PyProof.Rows L2 Sg
section
variable {X:Cx} {a b c e:Expr} {es:List Expr} {m m1 m2 m3:ME} {ms:MA} {p pos pos' p2 apos cpos q npos:Pos} {x:Str}
variable {K:Frag} {N:Addr→Prop} {H:Hp} {σ:L2.St} {v:V} {L:List Addr}
noncomputable def leS (a b:Str):Bool:=!decide (b.cps.toList < a.cps.toList)
noncomputable def N4 (zs:List Str):List Str:=zs.mergeSort leS
theorem G1 (a b c:Str) (h1:leS a b = true) (h2:leS b c = true):leS a c = true:=by
 simp only [leS,Bool.not_eq_true',decide_eq_false_iff_not] at *
 exact fun h=>h1 (List.lt_of_le_of_lt (not_lt.mp h2) h)
theorem JH (a b:Str):(leS a b || leS b a) = true:=by
 simp only [leS,Bool.or_eq_true,Bool.not_eq_true',decide_eq_false_iff_not]
 by_cases h:b.cps.toList < a.cps.toList
 ·exact .inr fun h2=>List.lt_irrefl _ (List.lt_trans h h2)
 ·exact .inl h
theorem Lv (a b:Str) (h1:leS a b = true) (h2:leS b a = true):a = b:=by
 simp only [leS,Bool.not_eq_true',decide_eq_false_iff_not] at *
 have e:=List.le_antisymm (not_lt.mp h2) (not_lt.mp h1)
 cases a; cases b
 simp only [Str.mk.injEq]
 exact (Array.toList_inj.mp e).symm
theorem JM:∀ (p:Str) (l:List Str),risingS p l = true→(p :: l).Pairwise fun a b=>leS a b = true
 | p,[],_=>by simp
 | p,x :: r,h=>by
  have h':(!ltCps x.cps.toList p.cps.toList && risingS x r) = true:=h
  rw [and_eq_true,ltCps_eq] at h'
  have ih:=JM x r h'.2
  have hx:leS p x = true:=h'.1
  refine pairwise_cons.mpr ⟨fun y hy=>?_,ih⟩
  rcases mem_cons.mp hy with rfl | hy
  ·exact hx
  ·exact G1 _ _ _ hx ((pairwise_cons.mp ih).1 y hy)
theorem OZ:∀ {l:List Str},sortedS l = true→l.Pairwise fun a b=>leS a b = true
 | [],_=>.nil
 | x :: r,h=>JM x r h
theorem QZ {xs ys:List Str} (pm:xs.Perm ys) (h:sortedS xs = true):xs = N4 ys:=
 (pm.trans (List.mergeSort_perm ys _).symm).eq_of_pairwise (fun a b _ _ h1 h2=>Lv a b h1 h2) (OZ h) (List.pairwise_mergeSort G1 JH ys)
theorem LU:∀ (zs:List Str),(∀ z∈zs,z.length≤sizeLine)→As N H (zs.map V.str) (zs.map D.str)
 | [],_=>trivial
 | z :: zs,h=>⟨.str z (h z (by simp)),LU zs fun y hy=>h y (by simp [hy])⟩
theorem F6:∀ {vs:List V} {zs:List Str},As N H vs (zs.map D.str)→∀ z∈zs,z.length≤sizeLine
 | _,[],_,z,hz=>by simp at hz
 | [],_ :: _,q,_,_=>by simp only [map_cons,As] at q
 | v :: vs,y :: zs,q,z,hz=>by
  obtain ⟨q1,q2⟩:=q
  rcases mem_cons.mp hz with rfl | hz
  ·cases q1; assumption
  ·exact F6 q2 z hz
theorem IQ:∀ {ds:List D} {zs:List Str},Dp ds = some zs→ds = zs.map D.str
 | [],zs,e=>by simp [Dp] at e; subst e; rfl
 | d :: ds,zs,e=>by
  cases d with
  | str z =>
   simp only [Dp,map_eq_some_iff] at e
   obtain ⟨zs',e1,rfl⟩:=e
   rw [IQ e1]; rfl
  | _=>simp [Dp] at e
noncomputable def D7:List A→Option A:=on1 fun a=>(C2 a).bind fun ds=>(Dp ds).bind fun zs=>if zs.length < 64 then some (.lst (((N4 zs).map D.str).map A.fz)) else none
theorem MJ:OpN K D7 (QD K):=by
 intro N H xs as b Q hs e k
 replace e:=Dd e
 obtain ⟨a,rfl,e⟩:=e
 simp only [bind_eq_some_iff] at e
 obtain ⟨ds,e1,zs,e2,e3⟩:=e
 split at e3
 ·rename_i hl
  cases e3
  obtain ⟨x,L1,rfl,h1⟩:=CJ hs
  obtain ⟨p,vs,rfl,hp,hz',q⟩:=Eg h1 e1
  have ed:=IQ e2
  subst ed
  have sh:=F6 q
  cases HJ q e2
  refine ⟨p,zs,rfl,.inl (.inl hp),hl,fun l ns' hl2 pm pw=>k _ _ ?_⟩
  have e:=QZ pm pw
  subst e
  have hlen:(N4 zs).length = zs.length:=List.length_mergeSort zs
  refine HF hl2 ?_ (LU _ fun z hz=>sh z (pm.mem_iff.mp hz))
  rw [length_map,hlen]
  have:64≤sizeLine:=by decide
  lia
 ·cases e3
theorem three {f:List A→Option A} {r:V→V→V→Hp→VK→Prop} (ok:OpN K f (fun xs H Q=>∃ x y z,xs = [x,y,z]∧r x y z H Q)) {Q:VK} (h:tE K (opM f (Aa m1 (Aa m2 (Aa m3 Ad)))) σ H Q) :
  tE K m1 σ H fun x H1=>tE K m2 σ H1 fun y H2=>tE K m3 σ H2 fun z H3=>r x y z H3 Q:=by
 have h1:=DG (JP ok h)
 refine tE.mono h1 fun v H1 h2=>tE.mono (DG h2) fun u H2 h3=>tE.mono (DG h3) fun w H3 h4=>?_
 obtain ⟨x,y,z,e,q⟩:=Hb h4
 cases e
 exact q
theorem HB (ha:JE X a m1) (hb:JE X b m2) (hc:JE X c m3):JE X (.Subscript a (.Slice (some b) (some c) none p2) pos) (opM Ct (Aa m1 (Aa m2 (Aa m3 Ad)))):=by
 refine AA (VD ha hb hc) fun σ H Q h=>?_
 have ok:OpN X.K Ct (fun xs H Q=>∃ x y z,xs = [x,y,z]∧∃ i j,y = .int i∧z = .int j∧OT x (some i) (some j) H Q):=by
  intro N H xs as b Q hs e k
  replace e:=Qk e
  obtain ⟨x,q2,q3,rfl,e⟩:=e
  replace e:=bind_eq_some_iff.mp e
  obtain ⟨i,eq2,e⟩:=e
  cases A1 eq2
  clear eq2
  replace e:=bind_eq_some_iff.mp e
  obtain ⟨j,eq3,e⟩:=e
  cases A1 eq3
  clear eq3
  obtain ⟨x,t,L1,rfl,h1,hs⟩:=cons_of hs
  obtain ⟨y,z,L2,L3,rfl,h2,h3⟩:=A9 hs
  cases A6 h2
  cases A6 h3
  exact ⟨_,_,_,rfl,i,j,rfl,rfl,M7 h1 e k⟩
 exact three ok h
noncomputable def MR:List A→Option A:=on2 fun q1 q2=>(BF q1).bind fun z=>(Bk q2).bind fun i=>if i = -1 then some (.fz (.str (Jm z))) else none
theorem UP (ha:JE X a m1) (hb:JE X b m2):JE X (.Subscript a (.Slice none none (some b) p2) pos) (opM MR (m2L m1 m2)):=by
 refine AA (VC ha hb) fun σ H Q h=>?_
 have ok:OpN X.K MR (r2L fun x y H Q=>∃ z,x = .str z∧y = .int (-1)∧z.length≤sizeLine∧Q (.str (Jm z)) H):=by
  intro N H xs as b Q hs e k
  replace e:=BM e
  obtain ⟨q1,q2,rfl,e⟩:=e
  replace e:=bind_eq_some_iff.mp e
  obtain ⟨z,eq1,e⟩:=e
  cases Ck eq1
  clear eq1
  replace e:=bind_eq_some_iff.mp e
  obtain ⟨i,eq2,e⟩:=e
  cases A1 eq2
  clear eq2
  split at e
  ·rename_i hi
   cases e
   subst hi
   obtain ⟨x,y,L1,L2,rfl,h1,h2⟩:=A9 hs
   cases A6 h2
   obtain ⟨rfl,hz⟩:=Cs h1
   have hl:(Jm z).length = z.length:=by simp [Jm,Str.length]
   exact ⟨_,_,rfl,z,rfl,rfl,hz,k _ _ (GB (by rw [hl]; exact hz))⟩
  ·cases e
 exact two ok h
noncomputable def BK:A→Bool
 | .fz .non=>true
 | _=>false
noncomputable def nnA:List A→Option A:=on2 fun a q2=>(CD q2).bind fun _u=>some (.fz (.bl (!BK a)))
theorem W8:OpN K nnA (r2L fun x y H Q=>y = .non∧Q (.bl (!decide (x = .non))) H):=by
 intro N H xs as b Q hs e k
 replace e:=BM e
 obtain ⟨a,q2,rfl,e⟩:=e
 replace e:=bind_eq_some_iff.mp e
 obtain ⟨_u,eq2,e⟩:=e
 cases NH eq2
 clear eq2
 cases e
 obtain ⟨x,y,L1,L2,rfl,h1,h2⟩:=A9 hs
 obtain ⟨_,h2⟩:=Ci.mp h2
 cases h2
 refine ⟨_,_,rfl,rfl,k _ _ ?_⟩
 have:decide (x = V.non) = BK a:=by
  cases a with
  | fz d =>
   obtain ⟨_,h1⟩:=Ci.mp h1
   cases h1 <;> simp [BK]
  | lst as=>rw [Aq] at h1; obtain ⟨_,_,_,rfl,_⟩:=h1; simp [BK]
  | tup as=>rw [Aq] at h1; obtain ⟨_,_,rfl,_⟩:=h1; simp [BK]
  | scr ns=>rw [Aq] at h1; obtain ⟨_,rfl,_⟩:=h1; simp [BK]
  | dic kvs=>rw [Aq] at h1; obtain ⟨_,_,rfl,_⟩:=h1; simp [BK]
 rw [this]
 exact Eh (.bl _)
noncomputable def Hu (m:ME):MT:=fun ρ=>(m ρ).bind fun p=>match p.1 with
 | .val (.fz (.str z))=>some (!decide (z.length = 0),p.2)
 | _=>none
theorem TC {Q:Bool→Hp→Prop} (h:tT K (Hu m) σ H Q):tE K m σ H fun x H1=>∃ k,Ul K x H1 k∧Q k H1:=by
 obtain ⟨ρ,O,fp,rl,x,ρ',e,k⟩:=h
 simp only [Hu,bind_eq_some_iff] at e
 obtain ⟨⟨r,ρ1⟩,e1,e2⟩:=e
 dsimp only at e2
 split at e2
 ·rename_i z
  cases e2
  refine ⟨ρ,O,fp,rl,_,_,e1,fun v H1 yy=>?_⟩
  obtain ⟨L,fp1,p,q⟩:=yy
  have q':Aq K (NN fp1 (ad O L)) H1 v (.fz (.str z)) L:=q
  obtain ⟨rfl,hz⟩:=Cs q'
  refine ⟨!decide (z.length = 0),⟨hz,?_⟩,k fp1 H1 p.drop0⟩
  by_cases h0:z.length = 0
  ·simp [h0]
  ·have:((z.length:Int) != 0) = true:=by simp; lia
   rw [this]; simp [h0]
 ·cases e2
theorem NB (he:∀ whole,isTrue e X.env whole = (do let v ← whole; standAt e.pos; holding [v] (truthy v))) (h:JE X e m):JT X e (Hu m):=FC (QA h he) fun _ _ _ h=>TC h
end
end J
end
section
namespace Lm
open PySem PyProof.Rows
noncomputable def ltT (a b:Str):Prop:=a.cps.toList < b.cps.toList
noncomputable def Hk (kf:Nat→Str) (n i:Nat):Prop:=∀ j,j < n→¬ ltT (kf j) (kf i)∧(j < i→ltT (kf i) (kf j))
theorem OD {a b c:Str} (h1:ltT a b) (h2:ltT b c):ltT a c:=List.lt_trans h1 h2
theorem Ki (a:Str):¬ ltT a a:=List.lt_irrefl _
theorem R5 {a b c:Str} (h1:ltT a b) (h2:¬ ltT c b):ltT a c:=by
 have:a.cps.toList < c.cps.toList:=Decidable.byContradiction fun h=>h2 (List.lt_of_le_of_lt (not_lt.mp h) h1)
 exact this
noncomputable abbrev Kp (h h':Heap):Prop:=∀ b o,h.get? b = some o→h'.get? b = some o
section
variable {prog:Program} {w:World} {A:Around} {E:Value→Shared→Prop} {s:Shared} {h₀:Heap} {l q I S:Addr} {vs:List Value} {R:Result→Shared→Prop} {Q:Value→Shared→Prop}
noncomputable def Turn (prog:Program) (w:World) (A:Around) (s:Shared) (h₀:Heap) (q:Addr) (vs:List Value) (kf:Nat→Str):Prop:=
 ∀ (i:Nat) (v:Value),vs[i]? = some v→∀ (h:Heap) (tk:Nat),Kp h₀ h→∀ Q':Value→Shared→Prop,(∀ h2 tk2 t2,Kp h h2→Q' (.str (kf i) t2) { s with heap:=h2,toks:=tk2 }) →
  wpAny (model prog w) A (call (.ref q) [v]) Q' (fun _ _=>False) { s with heap:=h,toks:=tk }
theorem GN {kf:Nat→Str} {i j:Nat} (hb:Hk kf (j + 1) i) (hij:i≤j):(ltT (kf (j + 1)) (kf i)→Hk kf (j + 1 + 1) (j + 1))∧(¬ ltT (kf (j + 1)) (kf i)→Hk kf (j + 1 + 1) i):=by
 constructor
 ·intro h j' hj'
  by_cases e:j' = j + 1
  ·subst e; exact ⟨Ki _,fun z=>absurd z (lt_irrefl _)⟩
  ·have b:=hb j' (by omega)
   exact ⟨fun z=>b.1 (OD z h),fun _=>R5 h b.1⟩
 ·intro h j' hj'
  by_cases e:j' = j + 1
  ·subst e; exact ⟨h,fun z=>by omega⟩
  ·exact hb j' (by omega)
theorem loop (kf:Nat→Str) (hh:A.handled = none) (hl:h₀.IsList l vs.toArray) (hlI:l≠I) (hSI:S≠I) (h0S:h₀.get? S = none) (h0I:h₀.get? I = none) (turn:Turn prog w A.in1 s h₀ q vs kf)
  (hR:∀ i v h' tk',vs[i]? = some v→Hk kf vs.length i→Kp h₀ h'→R (.ok (.ret v)) { s with heap:=h',toks:=tk' }) :
  ∀ (r j i:Nat) (h:Heap) (tk:Nat) (vb:Value) (tb:Tok) (c:Nat),vs.length - (j + 1) = r→j + 1≤vs.length→Kp h₀ h →
   h.get? S = some (seqObj "list" #[vb,.str (kf i) tb] c)→h.IsListIter I l (j + 1)→vs[i]? = some vb→i≤j→Hk kf (j + 1) i →
   codeAny (model prog w) A (.builtin "min.loop" ⟨[.ref I,.ref q,.ref S],[]⟩) R { s with heap:=h,toks:=tk }:=by
 have hname:(toString "min" ++ toString ".loop" : String) = "min.loop" := by decide
 have W:=Walks.list (prog:=prog) (w:=w) (A:=A.in1) hh I l hlI vs.toArray
 have hsz:vs.toArray.size = vs.length:=size_toArray ..
 have ne0:∀ {b o},h₀.get? b = some o→b≠S∧b≠I:=fun e=>⟨fun z=>(by rw [z,h0S] at e; cases e),fun z=>(by rw [z,h0I] at e; cases e)⟩
 have lst:∀ {h:Heap},Kp h₀ h→h.IsList l vs.toArray:=fun k=>let ⟨o,e,r⟩:=hl; ⟨o,k _ _ e,r⟩
 intro r
 induction r with
 | zero =>
  intro j i h tk vb tb c hr hj F nS hit hvb hij hbest
  have hin:j + 1 = vs.length:=by omega
  refine codeAny_builtin PySem.F.entry_min_loop ?_
  rw [Around.under_plainId PySem.F.plain_min_loop _]
  show wpAny _ A.in1 (seqItems? (.ref S) >>= _) _ _ _
  refine wpAny_bind (wpAny_seqItems nS rfl ?_)
  show wpAny _ A.in1 (tryCatch (pyNext (.ref I)) _ >>= _) _ _ _
  refine wpAny_bind (wpAny_tryCatch (W.done _ _ _ ⟨by rw [hsz,← hin]; exact hit,lst F⟩ fun h' tk' hk'=>?_))
  have hS':=hk' S _ (by simpa using hSI) nS
  have s1:=Heap.SameBut.update h' S (Obj.mapSeq fun _=>(#[]:Array Value))
  show wpAny _ A.in1 (updateSeq S (fun _=>#[]) >>= _) _ _ _
  refine wpAny_bind ?_
  refine wpAny_updateSeq hS' rfl (wpAny_bind (wpAny_letGo (wpAny_pure ?_)))
  refine hR i vb _ _ hvb (by rw [← hin]; exact hbest) fun b o e=>?_
  obtain ⟨n1,n2⟩:=ne0 e
  exact (s1.2 b n1).trans (hk' b o (by simpa using n2) (F b o e))
 | succ r ih =>
  intro j i h tk vb tb c hr hj F nS hit hvb hij hbest
  have hlt:j + 1 < vs.length:=by omega
  refine codeAny_builtin PySem.F.entry_min_loop ?_
  rw [Around.under_plainId PySem.F.plain_min_loop _]
  show wpAny _ A.in1 (seqItems? (.ref S) >>= _) _ _ _
  refine wpAny_bind (wpAny_seqItems nS rfl ?_)
  show wpAny _ A.in1 (tryCatch (pyNext (.ref I)) _ >>= _) _ _ _
  refine wpAny_bind (wpAny_tryCatch (W.item (j + 1) _ _ _ (by rw [hsz]; exact hlt) ⟨hit,lst F⟩ fun v h' tk' hP hst' hk'=>?_))
  have hv:vs[j + 1]? = some v:=by simpa using hP
  have F1:Kp h₀ h':=fun b o e=>hk' b o (by simpa using (ne0 e).2) (F b o e)
  have nS1:=hk' S _ (by simpa using hSI) nS
  show wpAny _ A.in1 (tryCatch (holding [v] (call (.ref q) [v])) _ >>= _) _ _ _
  refine wpAny_bind (wpAny_tryCatch (wpAny_holding (wpAny_mono (turn (j + 1) v hv h' tk' F1 (fun x s''=>∃ h2 tk2 t2,x = .str (kf (j + 1)) t2∧s'' = { s with heap:=h2,toks:=tk2 }∧Kp h' h2) fun h2 tk2 t2 k2=>⟨h2,tk2,t2,rfl,rfl,k2⟩) (fun x s'' he=>?_) fun _ _ hF=>hF.elim)))
  obtain ⟨h2,tk2,t2,rfl,rfl,k2⟩:=he
  have F2:Kp h₀ h2:=fun b o e=>k2 b o (F1 b o e)
  have nS2:=k2 _ _ nS1
  obtain ⟨oI,hoI,hoc,hod⟩:=id hst'.1
  have hit2:h2.IsListIter I l (j + 1 + 1):=⟨oI,k2 _ _ hoI,hoc,hod⟩
  show wpAny _ A.in1 (tryCatch (holding [v,.str (kf (j + 1)) t2] (richCompare .Lt (.str (kf (j + 1)) t2) (.str (kf i) tb) >>= _)) _ >>= _) _ _ _
  refine wpAny_bind (wpAny_tryCatch (wpAny_holding (wpAny_bind (PyProof.Rows.lt_str ?_))))
  refine wpAny_bind (wpAny_holding (wpAny_truthy_bool ?_))
  refine wpAny_bind (wpAny_letGo (wpAny_pure ?_))
  by_cases hb':(kf (j + 1)).cps.toList < (kf i).cps.toList
  ·have s1:=Heap.SameBut.update h2 S (Obj.mapSeq fun _=>#[v,.str (kf (j + 1)) t2])
   obtain ⟨c2,hc2⟩:∃ c2,(h2.update S (Obj.mapSeq fun _=>#[v,.str (kf (j + 1)) t2])).get? S = some (seqObj "list" #[v,.str (kf (j + 1)) t2] c2):=⟨_,get?_update_seq nS2 fun _=>#[v,.str (kf (j + 1)) t2]⟩
   simp only [hb',decide_true,if_true]
   refine wpAny_bind ?_
   refine wpAny_updateSeq nS2 rfl (wpAny_bind (wpAny_letGo ?_))
   rw [hname]
   exact wpAny_pure ⟨plainId_quiet PySem.F.plain_min_loop _,ih (j + 1) (j + 1) _ _ v t2 c2 (by omega) hlt (fun b o e=>(s1.2 b (ne0 e).1).trans (F2 b o e)) hc2 ⟨oI,(s1.2 I hSI.symm).trans (k2 _ _ hoI),hoc,hod⟩ hv (le_refl _) ((GN hbest hij).1 hb')⟩
  ·simp only [hb',decide_false,false_eq_true,if_false]
   refine wpAny_bind (wpAny_letGo ?_)
   rw [hname]
   exact wpAny_pure ⟨plainId_quiet PySem.F.plain_min_loop _,ih (j + 1) i _ _ vb tb c (by omega) hlt F2 nS2 hit2 hvb (by omega) ((GN hbest hij).2 hb')⟩
theorem R6 (kf:Nat→Str) (hh:A.handled = none) (hl:s.heap.IsList l vs.toArray) (hne:0 < vs.length) (turn:Turn prog w A.in1 s s.heap q vs kf)
  (hQ:∀ i v h' tk',vs[i]? = some v→Hk kf vs.length i→Kp s.heap h'→Q v { s with heap:=h',toks:=tk' }) :
  wpAny (model prog w) A (call (.builtin "min") [.ref l] [(Str.ofString "key",.ref q)]) Q E s:=by
 have hname:(toString "min" ++ toString ".loop" : String) = "min.loop" := by decide
 obtain ⟨ol,hol,_⟩:=id hl
 have hll:l < s.heap.objs.size:=lt_size hol
 refine kmk_tree PySem.F.kind_min PySem.F.plain_min PySem.F.entry_min (kmk_min_key _ _) ?_
 show wpAny _ A.in1 (Builtin.Builtins.bindParams "min" ["key","default"] 0 ⟨[],[(Str.ofString "key",.ref q)]⟩ >>= _) _ _ s
 refine wpAny_bind (wpAny_of_eq (show Builtin.Builtins.bindParams "min" ["key","default"] 0 ⟨[],[(Str.ofString "key",.ref q)]⟩ = pure [some (.ref q),none] from rfl) ?_)
 refine wpAny_bind (wpAny_pure ?_)
 refine wpAny_bind (wpAny_pyIter_list hl ?_)
 refine wpAny_bind (wpAny_newList ?_ (zero_le _))
 rw [hname]
 generalize hH:(s.heap.push { cls:=.type "list_iterator",data:=.fields #[.ref l,.int 0 0] }) = H1
 have z1:H1.objs.size = s.heap.objs.size + 1:=by rw [← hH]; exact size_push' ..
 have k1:Kp s.heap H1:=by rw [← hH]; exact fun b o e=>get?_push_of_some _ e
 have gI0:H1.get? s.heap.objs.size = some { cls:=.type "list_iterator",data:=.fields #[.ref l,.int 0 0] }:=by rw [← hH]; exact get?_push_size _ rfl
 have hlI:l≠s.heap.objs.size:=ne_of_lt hll
 have hSI:H1.objs.size≠s.heap.objs.size:=by rw [z1]; exact Nat.ne_of_gt (Nat.lt_succ_self _)
 have h0I:s.heap.get? s.heap.objs.size = none:=Heap.get?_none_of_le (le_refl _)
 have h0S:s.heap.get? H1.objs.size = none:=Heap.get?_none_of_le (by rw [z1]; exact le_succ _)
 have gS:(H1.push (seqObj "list" #[] 0)).get? H1.objs.size = some (seqObj "list" #[] 0):=get?_push_size _ rfl
 have k2:Kp s.heap (H1.push (seqObj "list" #[] 0)):=fun b o e=>get?_push_of_some _ (k1 b o e)
 have gI:(H1.push (seqObj "list" #[] 0)).get? s.heap.objs.size = some { cls:=.type "list_iterator",data:=.fields #[.ref l,.int 0 0] }:=get?_push_of_some _ gI0
 refine wpAny_pure ⟨plainId_quiet PySem.F.plain_min_loop _,?_⟩
 have W:=Walks.list (prog:=prog) (w:=w) (A:=A.in1) hh s.heap.objs.size l hlI vs.toArray
 have hsz:vs.toArray.size = vs.length:=size_toArray ..
 refine codeAny_builtin PySem.F.entry_min_loop ?_
 rw [Around.under_plainId PySem.F.plain_min_loop _]
 show wpAny _ A.in1 (seqItems? (.ref _) >>= _) _ _ _
 refine wpAny_bind (wpAny_seqItems gS rfl ?_)
 show wpAny _ A.in1 (tryCatch (pyNext (.ref s.heap.objs.size)) _ >>= _) _ _ _
 refine wpAny_bind (wpAny_tryCatch (W.item 0 _ _ _ (by rw [hsz]; exact hne) ⟨⟨_,gI,rfl,rfl⟩,(let ⟨o,e,r⟩:=hl; ⟨o,k2 _ _ e,r⟩)⟩ fun v h' tk' hP hst' hk'=>?_))
 have hv:vs[0]? = some v:=by simpa using hP
 have F1:Kp s.heap h':=fun b o e=>hk' b o (by simpa using ne_of_lt (lt_size e)) (k2 b o e)
 have nS1:=hk' _ _ (by simpa using hSI) gS
 obtain ⟨oI',hoI',hoc,hod⟩:=id hst'.1
 show wpAny _ A.in1 (tryCatch (holding [v] (call (.ref q) [v])) _ >>= _) _ _ _
 refine wpAny_bind (wpAny_tryCatch (wpAny_holding (wpAny_mono (turn 0 v hv h' tk' F1 (fun x s''=>∃ h2 tk2 t2,x = .str (kf 0) t2∧s'' = { s with heap:=h2,toks:=tk2 }∧Kp h' h2) fun h2 tk2 t2 k2=>⟨h2,tk2,t2,rfl,rfl,k2⟩) (fun x s'' he=>?_) fun _ _ hF=>hF.elim)))
 obtain ⟨h2,tk2,t2,rfl,rfl,k3⟩:=he
 have nS2:=k3 _ _ nS1
 have s1:=Heap.SameBut.update h2 H1.objs.size (Obj.mapSeq fun _=>#[v,.str (kf 0) t2])
 obtain ⟨c2,hc2⟩:∃ c2,(h2.update H1.objs.size (Obj.mapSeq fun _=>#[v,.str (kf 0) t2])).get? H1.objs.size = some (seqObj "list" #[v,.str (kf 0) t2] c2):=⟨_,get?_update_seq nS2 fun _=>#[v,.str (kf 0) t2]⟩
 show wpAny _ A.in1 (updateSeq H1.objs.size (fun _=>#[v,.str (kf 0) t2]) >>= _) _ _ _
 refine wpAny_bind (wpAny_updateSeq nS2 rfl ?_)
 rw [hname]
 refine wpAny_pure ⟨plainId_quiet PySem.F.plain_min_loop _,?_⟩
 refine loop (s:=s) (h₀:=s.heap) (l:=l) (vs:=vs) kf hh hl hlI hSI h0S h0I turn hQ (vs.length - 1) 0 0 _ _ v t2 c2 rfl hne (fun b o e=>(s1.2 b (fun z=>?_)).trans (k3 b o (F1 b o e))) hc2 ⟨oI',(s1.2 _ hSI.symm).trans (k3 _ _ hoI'),hoc,hod⟩ hv (le_refl _) fun j hj=>?_
 ·rw [z,h0S] at e; cases e
 ·have:j = 0:=by omega
  subst this
  exact ⟨Ki _,fun z=>absurd z (lt_irrefl _)⟩
end
end Lm
end
section
namespace L2
open PySem PySem.Spec PyProof.Rows PySem.W
section
variable {X:Cx} {pins:List (Addr × Obj)} {σ:St} {H:Hp} {s:Shared} {h':Heap}
theorem Inv.tabled {t':Nat} {P c':Addr} {ps:Array Value} (I:Inv X pins σ H s) (eP:H P = some (.tbl ps)) (hx:∀ b o,b≠P→s.heap.get? b = some o→h'.get? b = some o) (hP:∃ o,h'.get? P = some o) (hc:s.heap.objs.size≤c')
  (hok:HOk X.prog X.w (upd H c' (.own P)) h'):Inv X pins σ (upd H c' (.own P)) { s with heap:=h',toks:=t' }:=by
 have hn:H c' = none:=I.hok.fresh hc
 have neP:∀ b,H b = none→b≠P:=fun b e z=>by rw [z,eP] at e; cases e
 have neC:∀ b u,H b = some u→b≠c':=fun b u e z=>by rw [z,hn] at e; cases e
 refine I.step (g':=s.gens) (d':=s.drawn) (ch:=[]) (fun b hb=>by simp at hb) (fun b o _ _ _ e n=>hx b o (neP b n) e) (fun b o _ _ _ e n=>⟨o.slots,hx b o (neP b n) e⟩) (fun b o _ e n=>?_)
  (fun b o _ e=>?_) (fun b xs e=>by rw [AH (neC b _ e)]; exact e) (fun b o u e=>by rw [AH (neC b _ e)]; exact e) (fun b qs e=>⟨#[],by rw [AH (neC b _ e),e]; simp⟩) (fun m hm=>?_) hok I.bare
 ·rw [AH (ne_of_lt (lt_of_lt_of_le (lt_size e) hc))]; exact n
 ·by_cases hb:b = P
  ·rw [hb]; exact hP
  ·exact ⟨o,hx b o hb e⟩
 ·obtain ⟨o,es,ep,ho,r⟩:=hm
  exact ⟨o,es,ep,hx _ o (neP _ I.free) ho,r⟩
theorem Mj {pos pos':Pos} {v c:Value} (l:List Value) (h:TriplesOk l) (e:codeAmong pos (l ++ [rawInt pos'.line,rawInt pos'.col,v]) = some c):codeAmong pos l = some c∨c = v:=by
 fun_induction TriplesOk l with
 | case1 =>
  simp only [nil_append,codeAmong,rawInt] at e
  split at e
  ·exact .inr (Option.some.inj e).symm
  ·cases e
 | case2 a t b u x rest ih =>
  simp only [cons_append,codeAmong] at e ⊢
  split at e
  ·rename_i q
   rw [if_pos q]; exact .inl e
  ·rename_i q
   rw [if_neg q]; exact ih h e
 | case3=>exact h.elim
theorem Mt {P:Program} {w:World} {h h':Heap} {b c':Addr} {ps qs:Array Value} {pos:Pos} {q:Str} (hok:HOk P w H h) (eP:H b = some (.tbl ps)) (gP:h.get? b = some { cls:=.none,data:=.fields qs }) (tr:TriplesOk qs.toList)
  (hx:∀ a o,a≠b→h.get? a = some o→h'.get? a = some o) (hP:h'.get? b = some { cls:=.none,data:=.fields (qs ++ #[rawInt pos.line,rawInt pos.col,.ref c']) }) (hc:h.objs.size≤c') (hr:h'.CodeRec (.ref c') q) (hq:ps[0]? = some (.str q 0)) :
  HOk P w (upd H c' (.own b)) h':=fun a u e=>by
 have hn:H c' = none:=hok.fresh hc
 have neC:∀ a u,H a = some u→a≠c':=fun a u e z=>by rw [z,hn] at e; cases e
 obtain ⟨c2,oc,vs,t,e2,g1,g2,g3⟩:=hr
 cases e2
 by_cases ha:a = c'
 ·subst ha; rw [AK] at e; cases e; exact ⟨oc,g1⟩
 ·rw [AH ha] at e
  by_cases hb:a = b
  ·subst hb
   rw [eP] at e; cases e
   obtain ⟨qs',gP',_,f⟩:=hok a _ eP
   rw [gP] at gP'; cases gP'
   refine ⟨_,hP,by rw [Array.toList_append]; exact TriplesOk_snoc _ _ _ _ tr,fun pos' c hcc=>?_⟩
   rw [Array.toList_append] at hcc
   rcases Mj _ tr hcc with z | z
   ·obtain ⟨c3,oc3,vs3,t3,q3,f1,f2,f3,f4⟩:=f pos' c z
    have nb:c3≠a:=fun z=>by rw [z,eP] at f2; cases f2
    exact ⟨c3,oc3,vs3,t3,q3,f1,by rw [AH (neC _ _ f2)]; exact f2,hx _ _ nb f3,f4⟩
   ·exact ⟨c',oc,vs,t,q,z,AK,g1,g2,g3,hq⟩
  ·refine (hok a u e).stay (fun d v hd q=>hx d v (fun z=>?_) q) (fun d q=>by rw [AH (neC d _ q)]; exact q) fun d xs q=>by rw [AH (neC d _ q)]; exact q
   rcases hd with hd | hd
   ·exact hb (hd ▸ z)
   ·rw [z,eP] at hd; cases hd
noncomputable abbrev R1 (params:Arguments) (body:Expr) (scope:Scope) (cl:List (Str × Addr)) (pm:Value) (c':Addr) (ctv:Value):Obj:=kla_obj "<lambda>" BU params body scope cl pm c' ctv
theorem PZ {params:Arguments} {body:Expr} {scope:Scope} {pos:Pos} {c P:Addr} {cl:List (Str × Addr)} {Q:Value→Shared→Prop} (I:Inv X pins σ H s) (hcode:X.env.code = .ref c) (ht:tabIn X.K A8 = some (c,P)) (hh:codeHdIn X.K c P = true)
  (hq:X.env.qual ++ "<lambda>" = BU) (hdef:defaultsOf params X.env = ([],[])) (hcl:closureFor scope X.env = pure cl)
  (h:∀ f c' pm ctv h' tk H2,Inv X pins σ H2 { s with heap:=h',toks:=tk }→EG H H2→h'.get? f = some (R1 params body scope cl pm c' ctv)→h'.CodeRec (.ref c') BU→Q (.ref f) { s with heap:=h',toks:=tk }) :
  wpAny (model X.prog X.w) X.A (eval (.Lambda params body scope pos) X.env) Q X.xe s:=by
 obtain ⟨ps,eP,e0⟩:=I.tabs c P ht
 obtain ⟨qs,gP,tr,fc⟩:=I.hok P _ eP
 have C:CodeHd s.heap c P:=codeHd_of_K I.kIn hh
 obtain ⟨bm,ob,b1,b2,b3,b4,b5,b6⟩:=I.mod.bmain
 have g3:=I.bk _ _ b3
 have hgs:s.heap.Ns mainGlobals X.mg:=I.mod.glob.keeps I.bk
 have hgP:mainGlobals≠P:=fun q=>by
  obtain ⟨o,es,ep,e,hd,_⟩:=hgs
  rw [q,gP] at e; cases e; cases hd
 have hbP:bm≠P:=fun q=>by rw [q,gP] at g3; cases g3; cases b4
 have hbG:bm≠mainGlobals:=fun q=>by
  obtain ⟨o,es,ep,e,hd,_⟩:=hgs
  rw [q,e] at g3; cases g3; rw [hd] at b6; cases b6
 have hba:s.heap.BuiltinsAt X.mg P:=⟨bm,ob,b1,b2,hbG,hbP,g3,b4,b5,b6⟩
 refine kla_eval hdef ?_
 rw [hq]
 cases hnf:codeAmong pos qs.toList with
 | none =>
  refine kla_makeFunction hcl I.ok.glob hgs hcode C gP tr hnf hgP hba fun c' ctv h1 tk hx hge hlt hrec htb=>?_
  have ok2:=Mt (q:=BU) I.hok eP gP tr hx htb hge hrec e0
  have I2:=I.tabled (t':=tk) eP hx ⟨_,htb⟩ hge ok2
  have I3:Inv X pins σ (upd H c' (.own P)) { s with heap:=h1.push (R1 params body scope cl ((X.mg "__name__").getD .none) c' ctv),toks:=tk }:=I2.kept (t':=tk) fun b o e=>get?_push_of_some _ e
  refine h _ c' _ ctv _ tk _ I3 (J.Cj (I.hok.fresh hge)) (get?_push_size _ rfl) ?_
  obtain ⟨c2,oc,vs,t,e1,e2,e3⟩:=hrec
  exact ⟨c2,oc,vs,t,e1,get?_push_of_some _ e2,e3⟩
 | some cv =>
  obtain ⟨c',oc,vs,t,q,rfl,f2,f3,f4,f5,f6⟩:=fc pos cv hnf
  rw [e0] at f6
  have hqq:q = BU:=by
   have:=Option.some.inj f6
   cases this; rfl
  subst hqq
  refine kla_makeFunctionHit hcl I.ok.glob hgs hcode C gP tr hnf hba fun ctv h1 tk hk hsz=>?_
  have I3:Inv X pins σ H { s with heap:=h1.push (R1 params body scope cl ((X.mg "__name__").getD .none) c' ctv),toks:=tk }:=I.kept (t':=tk) fun b o e=>get?_push_of_some _ (hk b o e)
  exact h _ c' _ ctv _ tk _ I3 (fun _ _ e=>e) (get?_push_size _ rfl) ⟨c',oc,vs,t,rfl,get?_push_of_some _ (hk _ _ f3),f4,f5⟩
end
theorem PY {prog:Program} {w:World} {A:Around} {E:Value→Shared→Prop} {s:Shared} {Q:Value→Shared→Prop} {f c' cr:Addr} {x y:Str} {p1 p2 p3:Pos} {params:Arguments} {scope:Scope} {pm ctv:Value} {z:Str} {t ti:Tok} {i:Int} {c:Nat}
  (hroom:A.depth < recursionLimit) (hnl:s.heap.NoLimit) (ho:s.heap.get? f = some (R1 params (.Subscript (.Name x p1) (.Name y p2) p3) scope [(x,cr)] pm c' ctv)) (hcd:s.heap.CodeRec (.ref c') BU) (hcell:s.heap.IsCell cr (some (.str z t)))
  (hbind:∀ v,bindArgs (kla_fn "<lambda>" BU params (.Subscript (.Name x p1) (.Name y p2) p3) scope [(x,cr)] pm (.ref c') ctv) ⟨[v],[]⟩ = pure [(y,v)]) (hk:scope.kind = .function) (hco:scope.isCoroutine = false) (hgen:scope.isGenerator = false)
  (hcl:∀ n∈scope.names,n.2 ≠ .cell) (hx:scope.names.lookup x = some .free) (hy:scope.names.lookup y = some .local) (dx:(x == ("__debug__" : Str)) = false) (dy:(y == ("__debug__" : Str)) = false) (dc:(x == ("__classdict__" : Str)) = false)
  (hz:z.length≤sizeLine) (hi:atI z.cps.toList i = some c) (hQ:∀ h' tk t',Lm.Kp s.heap h'→Q (.str ⟨#[c]⟩ t') { s with heap:=h',toks:=tk }) :
  wpAny (model prog w) A (call (.ref f) [.int i ti]) Q E s:=by
 refine wpAny_call (kla_callFunE hroom ho rfl hco hgen rfl hcd ?_)
 rw [hbind]
 refine wpAny_pure (wpAny_newFunctionEnv hcl (fun b hb=>by simp at hb; rw [hb]; exact hy) (fun h1 hns hsb=>⟨?_,?_⟩) hk)
 ·exact hnl.fresh _ hsb
 have k1:Lm.Kp s.heap h1:=fun b o e=>hsb.extBut b o (ne_of_lt (lt_size e)) (get?_push_of_some _ e)
 refine kla_codeExpr ?_
 refine Subscript_ (wpAny_Name (wpAny_loadName_free hk hx (show List.lookup x [(x,cr)] = some cr by simp) (let ⟨o,e,d⟩:=hcell; ⟨o,k1 _ _ e,d⟩) ?_ dc) dx)
 refine wpAny_Name (wpAny_loadName_local (v:=.int i ti) hk hy hns (by simp) ?_) dy
 obtain ⟨j,h1',h2,h3,h4,h5⟩:=BH hi
 have hl:z.cps.toList.length = z.length:=by simp [Str.length]
 rw [hl] at h1' h4 h5
 have hn:=Fd
 exact tail_any (typeIs_str _ z t) slot_str_getitem.lookup (getItem_str (c:=c) (by
  have e1:decide (i < -(2 ^ 63:Int)) = false:=decide_eq_false (by lia)
  have e2:decide (i ≥ 2 ^ 63) = false:=decide_eq_false (by lia)
  rw [e1,e2,Bool.or_false]) (by rw [h1']; simpa using h2) (hQ _ _ _ k1)) rfl
end L2
namespace L2
open PySem PySem.Spec PyProof.Rows PySem.W
noncomputable def cAt (z:Str) (n:Int):Nat:=(atI z.cps.toList n).getD 0
noncomputable def VY (K:Frag):R2:=fun x y H Q=>∃ a ns z,x = .ref a∧y = .str z∧SqL K H a (ns.map V.int)∧ns≠[]∧z.length≤sizeLine∧(∀ n∈ns,∃ c,atI z.cps.toList n = some c) ∧
 ∀ H2 (j:Nat) n,EG H H2→ns[j]? = some n→Lm.Hk (fun j=>⟨#[cAt z (ns.getD j 0)]⟩) ns.length j→Q (.int n) H2
noncomputable def X6 (K:Frag) (te:TE) (i:Nat):TE:=fun σ H Q=>te σ H fun x H1=>∃ y,σ[i]? = some (some y)∧VY K x y H1 Q
theorem SqL.same {K:Frag} {H H2:Hp} {a:Addr} {xs:List V} (h:SqL K H a xs) (sm:EG H H2):SqL K H2 a xs:=by
 rcases h with (h | ⟨o,h⟩) | h
 ·exact .inl (.inl (sm _ _ h))
 ·exact .inl (.inr ⟨o,sm _ _ h⟩)
 ·exact .inr h
noncomputable def W9 (Q:VK):List V→Hp→Prop
 | [v],H=>Q v H
 | _,_=>False
theorem Sk {Q:VK} {vs:List V} {H:Hp} (h:W9 Q vs H):∃ v,vs = [v]∧Q v H:=by
 match vs,h with
 | [v],h=>exact ⟨v,rfl,h⟩
theorem SA {X:Cx} {e:Expr} {te:TE} {i k:Nat} {x y:Str} {p p1 p2 p3 lp kp pos:Pos} {params:Arguments} {scope:Scope} {c P cr:Addr} (hc:X.calm = true) (hr:Room k X.A) (hcode:X.env.code = .ref c) (ht:tabIn X.K A8 = some (c,P)) (hh:codeHdIn X.K c P = true)
  (hg:Gl X "min") (hm:X.mg "min" = none) (hN:X.N[i]? = some x) (hkx:X.env.kindOf x = some .cell) (hcl:closureFor scope X.env = pure [(x,cr)]) (hcr:X.env.cells.lookup x = some cr) (hq:X.env.qual ++ "<lambda>" = BU) (hdef:defaultsOf params X.env = ([],[]))
  (hbind:∀ pm c' ctv v,bindArgs (kla_fn "<lambda>" BU params (.Subscript (.Name x p1) (.Name y p2) p3) scope [(x,cr)] pm (.ref c') ctv) ⟨[v],[]⟩ = pure [(y,v)]) (hk:scope.kind = .function) (hco:scope.isCoroutine = false) (hgen:scope.isGenerator = false)
  (hnc:∀ n∈scope.names,n.2 ≠ .cell) (hx:scope.names.lookup x = some .free) (hy:scope.names.lookup y = some .local) (dx:(x == ("__debug__" : Str)) = false) (dy:(y == ("__debug__" : Str)) = false) (dc:(x == ("__classdict__" : Str)) = false)
  (hs:starEach [e] X.env = [(false,eval e X.env)]) (he:PE X e te) :
  PE X (.Call (.Name "min" p) [e] [⟨some "key",.Lambda params (.Subscript (.Name x p1) (.Name y p2) p3) scope lp,kp⟩] pos) (X6 X.K te i):=by
 intro pins s σ H Q I h
 refine wpAny_Call_Name_kw (G0 I hg hm PyProof.Rows.Boot.«min» ?_ (by decide) (by decide))
 refine callWith_kw ?_ (by rw [hs]; rfl) (by rw [hs]; rfl) rfl rfl
 refine thn (C1 he Ei hs pos pins s σ H (W9 fun v H1=>∃ y,σ[i]? = some (some y)∧VY X.K v y H1 Q) I h) fun us s1 yy=>?_
 obtain ⟨vs,H1,I1,r1,q1⟩:=yy
 obtain ⟨v,e1,q1⟩:=Sk q1
 subst e1
 obtain ⟨w,e2,a,ns,z,rfl,rfl,hq1,hne,hz,hin,fin⟩:=q1
 obtain ⟨u,rfl,ru⟩:=r1.one
 cases ru
 refine kws_cons (PZ I1 hcode ht hh hq hdef hcl fun f c' pm ctv h2 tk H2 I2 sm ho hcd=>kws_nil ?_)
 show wpAny _ X.A (call (.builtin "min") [.ref a] [(Str.ofString "key",.ref f)]) _ _ _
 obtain ⟨its,rv,pl,hzl⟩:=I2.list (hq1.same sm)
 have hlen:=rv.length
 rw [length_map] at hlen
 obtain ⟨m,hn,hl⟩:=I2.loc
 obtain ⟨uz,rz,lk⟩:=hl i x (.str z) hN e2 (.inr (.inl hkx))
 obtain ⟨tz,rfl⟩:=rz
 have hcell:h2.IsCell cr (some (.str z tz)):=by
  rcases lk with ⟨z1,_⟩ | ⟨_,c2,e3,e4⟩
  ·rw [hkx] at z1; cases z1
  ·rw [hcr] at e3; cases e3; exact e4
 refine Lm.R6 (fun j=>⟨#[cAt z (ns.getD j 0)]⟩) (I2.ok.hd hc) pl.isList (by rw [← hlen]; exact length_pos_iff.mpr hne) (fun j v hj h3 tk3 k3 Q' hQ'=>?_) fun j v h3 tk3 hj hb k3=>?_
 ·obtain ⟨n,hn1,hn2⟩:∃ n,ns[j]? = some n∧∃ t,v = .int n t:=by
   have hjl:j < ns.length:=by rw [hlen]; exact (List.getElem?_eq_some_iff.mp hj).1
   have e5:(ns.map V.int)[j]? = some (.int ns[j]):=by rw [getElem?_map,getElem?_eq_getElem hjl]; rfl
   obtain ⟨u,hu,ru⟩:=rv.get e5
   rw [hj] at hu; cases hu
   obtain ⟨t,rfl⟩:=ru
   exact ⟨_,getElem?_eq_getElem hjl,t,rfl⟩
  obtain ⟨t,rfl⟩:=hn2
  obtain ⟨ch,hch⟩:=hin n (mem_of_getElem? hn1)
  have ek:(⟨#[cAt z (ns.getD j 0)]⟩:Str) = ⟨#[ch]⟩:=by
   simp only [cAt,getD_eq_getElem?_getD,hn1,getD_some,hch]
  dsimp only at hQ'
  rw [ek] at hQ'
  obtain ⟨o1,o2,o3⟩:=hcell
  obtain ⟨d1,d2,d3,d4,d5,d6,d7⟩:=hcd
  exact PY (s:={ s1 with heap:=h3,toks:=tk3 }) (by have:=hr.dp; show X.A.in1.depth < _; simp; lia) (I2.nolimit.keeps k3) (k3 _ _ ho) ⟨d1,d2,d3,d4,d5,k3 _ _ d6,d7⟩ ⟨o1,k3 _ _ o2,o3⟩ (hbind pm c' ctv) hk hco hgen hnc hx hy dx dy dc hz hch fun h4 tk4 t4 k4=>hQ' h4 tk4 t4 k4
 ·have hjl:j < ns.length:=by rw [hlen]; exact (List.getElem?_eq_some_iff.mp hj).1
  have e5:(ns.map V.int)[j]? = some (.int ns[j]):=by rw [getElem?_map,getElem?_eq_getElem hjl]; rfl
  obtain ⟨u,hu,ru⟩:=rv.get e5
  rw [hj] at hu; cases hu
  rw [← hlen] at hb
  exact ⟨.int ns[j],H2,I2.kept (t':=tk3) k3,ru,fin H2 j _ sm (getElem?_eq_getElem hjl) hb⟩
end L2
end
section
namespace J
open PySem PySem.Spec PyProof.Rows L2 PySem.W
noncomputable def Hm (z:Str):Int→List Int→Int
 | b,[]=>b
 | b,n :: ns=>if cAt z n < cAt z b then Hm z n ns else Hm z b ns
theorem W4 (a b:Nat):Lm.ltT ⟨#[a]⟩ ⟨#[b]⟩↔a < b:=by
 show ([a] < [b])↔a < b
 rw [List.cons_lt_cons_iff]
 constructor
 ·rintro (h | ⟨_,h⟩)
  ·exact h
  ·exact absurd h (List.not_lt_nil _)
 ·intro h; exact .inl h
theorem Od {kf:Nat→Str} {n i j:Nat} (hi:Lm.Hk kf n i) (hj:Lm.Hk kf n j) (h1:i < n) (h2:j < n):i = j:=by
 rcases Nat.lt_trichotomy i j with h | h | h
 ·exact absurd ((hj i h1).2 h) (hi j h2).1
 ·exact h
 ·exact absurd ((hi j h2).2 h) (hj i h1).1
theorem Oh (z:Str) (l:List Int):∀ (ns:List Int) (m i:Nat),l.drop (m + 1) = ns→m + 1≤l.length→i≤m→Lm.Hk (fun j=>⟨#[cAt z (l.getD j 0)]⟩) (m + 1) i→∃ j,j < l.length∧l.getD j 0 = Hm z (l.getD i 0) ns∧Lm.Hk (fun j=>⟨#[cAt z (l.getD j 0)]⟩) l.length j:=by
 intro ns
 induction ns with
 | nil =>
  intro m i hd hm hi hb
  have:l.length≤m + 1:=List.drop_eq_nil_iff.mp hd
  have e:m + 1 = l.length:=by lia
  exact ⟨i,by lia,rfl,by rw [← e]; exact hb⟩
 | cons n ns ih =>
  intro m i hd hm hi hb
  have hl:m + 1 < l.length:=by
   by_cases q:m + 1 < l.length
   ·exact q
   ·rw [List.drop_eq_nil_iff.mpr (by lia)] at hd; cases hd
  rw [drop_eq_getElem_cons hl] at hd
  have e1:=(List.cons.inj hd).1
  have e2:=(List.cons.inj hd).2
  have eg:l.getD (m + 1) 0 = n:=by rw [getD_eq_getElem?_getD,getElem?_eq_getElem hl]; exact e1
  have bs:=Lm.GN hb hi
  simp only [W4,eg] at bs
  by_cases hc:cAt z n < cAt z (l.getD i 0)
  ·obtain ⟨j,j1,j2,j3⟩:=ih (m + 1) (m + 1) e2 hl (le_refl _) (bs.1 hc)
   exact ⟨j,j1,by rw [j2,eg,Hm,if_pos hc],j3⟩
  ·obtain ⟨j,j1,j2,j3⟩:=ih (m + 1) i e2 hl (by lia) (bs.2 hc)
   exact ⟨j,j1,by rw [j2,Hm,if_neg hc],j3⟩
theorem RC {z:Str} {b:Int} {ns:List Int} {j:Nat} {n:Int} (h:(b :: ns)[j]? = some n) (hb:Lm.Hk (fun j=>⟨#[cAt z ((b :: ns).getD j 0)]⟩) (b :: ns).length j):n = Hm z b ns:=by
 obtain ⟨i,i1,i2,i3⟩:=Oh z (b :: ns) ns 0 0 rfl (by simp) (le_refl _) (fun k hk=>by
  have:k = 0:=by lia
  subst this
  exact ⟨Lm.Ki _,fun q=>absurd q (lt_irrefl _)⟩)
 have hj:j < (b :: ns).length:=(List.getElem?_eq_some_iff.mp h).1
 have e:=Od hb i3 hj i1
 subst e
 rw [getD_eq_getElem?_getD,h] at i2
 exact i2
section
variable {X:Cx} {a b c e:Expr} {es:List Expr} {m m1 m2 m3:ME} {ms:MA} {p pos pos' p1 p2 p3 lp kp:Pos} {x y:Str}
variable {K:Frag} {N:Addr→Prop} {H:Hp} {σ:L2.St} {v:V} {L:List Addr}
noncomputable def NG:List A→Option A:=on2 fun a b=>(BF b).bind fun z=>(C2 a).bind fun ds=>(Hf ds).bind fun ns=>if (ns.all fun n=>decide (0≤n) && decide (n < z.length)) && !ns.isEmpty then some (.fz (.int (Hm z (ns.headD 0) ns.tail))) else none
theorem Uq {α:Type} (l:List α) (k:Nat) (h:k < l.length):atI l (k:Int) = some l[k]:=by simp [atI,ixN,h]
theorem WM {z:Str} {n:Int} (h0:0≤n) (h1:n < z.length):∃ c,atI z.cps.toList n = some c:=by
 have hl:z.cps.toList.length = z.length:=by simp [Str.length]
 obtain ⟨k,rfl⟩:∃ k:Nat,n = k:=⟨n.toNat,by lia⟩
 exact ⟨_,Uq _ k (by lia)⟩
theorem Sj:OpN K NG (r2L (VY K)):=by
 intro N H xs as b Q hs e k
 replace e:=BM e
 obtain ⟨a,b',rfl,e⟩:=e
 simp only [bind_eq_some_iff] at e
 obtain ⟨z,ez,ds,e1,ns,e2,e3⟩:=e
 split at e3
 ·rename_i hl
  cases e3
  rw [and_eq_true,all_eq_true] at hl
  obtain ⟨x,y,L1,L2,rfl,h1,h2⟩:=A9 hs
  obtain ⟨p,vs,rfl,hp,hz',q⟩:=Eg h1 e1
  cases Ny q e2
  have eb:=Ck ez
  subst eb
  obtain ⟨rfl,hz⟩:=Cs h2
  cases ns with
  | nil=>simp at hl
  | cons n0 r =>
   refine ⟨_,_,rfl,p,n0 :: r,z,rfl,rfl,.inl (.inl hp),by simp,hz,fun n hn=>?_,fun H2 j n sm hj hb=>?_⟩
   ·have:=hl.1 n hn
    rw [and_eq_true,decide_eq_true_iff,decide_eq_true_iff] at this
    exact WM this.1 this.2
   ·have en:=RC hj hb
    subst en
    exact k _ _ ⟨sm,[],by rw [Aq]; exact ⟨rfl,.int _⟩,nodup_nil,fun _ h=>by simp at h⟩
 ·cases e3
theorem RX (i:Nat) {params:Arguments} {scope:Scope} {c P cr:Addr} {k:Nat} (hc:X.calm = true) (hr:Room k X.A) (ht:tabIn X.K A8 = some (c,P)) (hh:codeHdIn X.K c P = true) (hm:X.mg "min" = none) (hcode:X.env.code = .ref c)
  (hg:Gl X "min") (hN:X.N[i]? = some x) (hkx:X.env.kindOf x = some .cell) (hcl:closureFor scope X.env = pure [(x,cr)]) (hcr:X.env.cells.lookup x = some cr) (hq:X.env.qual ++ "<lambda>" = BU) (hdef:defaultsOf params X.env = ([],[]))
  (hbind:∀ pm c' ctv v,bindArgs (kla_fn "<lambda>" BU params (.Subscript (.Name x p1) (.Name y p2) p3) scope [(x,cr)] pm (.ref c') ctv) ⟨[v],[]⟩ = pure [(y,v)]) (hk:scope.kind = .function) (hco:scope.isCoroutine = false) (hgen:scope.isGenerator = false)
  (hnc:∀ n∈scope.names,n.2 ≠ .cell) (hx:scope.names.lookup x = some .free) (hy:scope.names.lookup y = some .local) (dx:(x == ("__debug__" : Str)) = false) (dy:(y == ("__debug__" : Str)) = false) (dc:(x == ("__classdict__" : Str)) = false)
  (hs:starEach [e] X.env = [(false,eval e X.env)]) (he:JE X e m) :
  JE X (.Call (.Name "min" p) [e] [⟨some "key",.Lambda params (.Subscript (.Name x p1) (.Name y p2) p3) scope lp,kp⟩] pos) (opM NG (m2L m (Ab i))):=
 AA (SA hc hr hcode ht hh hg hm hN hkx hcl hcr hq hdef hbind hk hco hgen hnc hx hy dx dy dc hs he) fun σ H Q h=>tE.mono (two Sj h) fun x H1 h1=>KS h1
end
section
variable {X:Cx} {K:Frag}
end
section
variable {P:Program} {w:World} {K:Frag} {mg:Str→Option Value} {base:Heap}
theorem RD {f c b:Addr} {oc:Value} {od:Option Addr} {fd:FuncData} {osl:Array (Option Value)} (n:nsIn K mainGlobals A8 = some (some (.ref f))) (lk:K.lookup f = some ⟨oc,od,.func fd,osl⟩) (t:tabIn K A8 = some (c,b)):fd.code = .ref c:=by
 unfold tabIn at t
 rw [n] at t
 dsimp only at t
 rw [lk] at t
 dsimp only at t
 split at t
 ·rename_i c' hc
  split at t
  ·split at t
   ·cases t; exact hc
   ·cases t
  ·cases t
 ·cases t
theorem Ux {st:Stmt} {f c b:Addr} {fd:FuncData} {N ps:List Str} {k:Nat} {m:MS} (F:Fun K A8 A8 st f fd) (hn:nsIn K mainGlobals A8 = some (some (.ref f))) (ht:tabIn K A8 = some (c,b)) (S:FnScope N ps (Bp st))
  (hb:∀ (A:Around) (outer:List Env) (s:Shared) (H:Hp) (E:XK),Room k (A.deeper (envOfC A8 (Bp st) s.heap.objs.size f (.ref c)))→JSs (La CX0 P w K mg base N A8 (Bp st) f (.ref c) A outer s H E).nox (CV st) m) :
  FnOk P w K mg base CX0 (k + 1) f fd ps (spJ K (fnM ps.length N.length m) ps.length):=by
 obtain ⟨oc,od,kV,doc,pm,an,cdv,ct,osl,rfl,lk,hcd⟩:=F.ex
 have ec:cdv = .ref c:=RD hn lk ht
 subst ec
 refine TR lk hcd S (fun vs H Q E h=>?_) fun A outer s H vs Q E hr h=>?_
 ·obtain ⟨_,_,_,h,_⟩:=h
  exact h
 ·have hl:vs.length = ps.length:=by
   obtain ⟨_,_,_,h,_⟩:=h
   exact h
  have:=Nk h
  refine ⟨_,PSs.nox (hb A outer s H E hr),?_⟩
  unfold L2.start
  rw [hl]
  exact this
end
end J
end
section
namespace L2
open PySem PySem.Spec PyProof.Rows
section
variable {X:Cx} {a e:Expr} {ta te:TE} {apos cpos:Pos}
noncomputable def TQ (o:Obj) (i j:Int):Prop:=∃ t t' t'':Tok,o = { cls:=.type "range",data:=.fields #[.int i t,.int j t',.int (-1) t''] }
noncomputable def T8:List V→Hp→VK→Prop:=fun xs H Q=>∃ i j:Int,xs = [.int i,.int j,.int (-1)]∧∀ (r:Addr) (o:Obj),H r = none→TQ o i j→Q (.ref r) (upd H r (.frz o (.own r)))
theorem Og:BX X (.type "range") T8:=by
 intro pins s σ H xs us Q I r h
 obtain ⟨i,j,rfl,q⟩:=h
 cases r with
 | cons r rr =>
  cases rr with
  | cons r' rr =>
   cases rr with
   | cons r'' rr =>
    cases rr
    obtain ⟨t,rfl⟩:=r
    obtain ⟨t',rfl⟩:=r'
    obtain ⟨t'',rfl⟩:=r''
    refine call_range_3 (by decide) ?_ (Or.inl (PyProof.noPylong_small (by decide)))
    have hg:(s.heap.push { cls:=.type "range",data:=.fields #[.int i t,.int j t',.int (-1) t''] }).get? s.heap.objs.size = some { cls:=.type "range",data:=.fields #[.int i t,.int j t',.int (-1) t''] }:=get?_push_size _ rfl
    exact ⟨.ref s.heap.objs.size,_,I.laid (t':=s.toks) (o:=.frz _ (.own s.heap.objs.size)) (fun b o e=>get?_push_of_some _ e) (le_refl _) ⟨hg,_,hg⟩,rfl,q _ _ (I.hok.fresh (le_refl _)) ⟨t,t',t'',rfl⟩⟩
noncomputable def FF (i:Int) (n:Nat):List V:=(List.range n).map fun (k:Nat)=>V.int (i - (k:Int))
noncomputable def QC:List V→Hp→VK→Prop:=fun xs H Q=>∃ (r:Addr) (o:Obj) (u:HO) (i j:Int),xs = [.ref r]∧H r = some (.frz o u)∧TQ o i j∧(-(2 ^ 62)≤i∧i < 2 ^ 62 ∧ -(2 ^ 62)≤j∧j < 2 ^ 62)∧(i - j).toNat≤16777216∧∀ l,H l = none→Q (.ref l) (upd H l (.lst (FF i (i - j).toNat)))
theorem IB {α β:Type} {R:α → β → Prop}:∀ {l:List α} {l':List β},l.length = l'.length→(∀ (k:Nat) a b,l[k]? = some a→l'[k]? = some b→R a b)→Paired R l l':=by
 intro l
 induction l with
 | nil =>
  intro l' h _
  cases l' with
  | nil=>exact .nil
  | cons b l'=>cases h
 | cons a l ih =>
  intro l' h q
  cases l' with
  | nil=>cases h
  | cons b l'=>exact .cons (q 0 a b rfl rfl) (ih (by simpa using h) fun k x y e1 e2=>q (k + 1) x y e1 e2)
theorem O4 {i:Int} {n:Nat} {acc:Array Value} (h:ItemsOf (fun k v=>∃ t,v = Value.int (i + k * -1) t) acc n):Vals (FF i n) acc.toList:=by
 obtain ⟨h1,h2⟩:=h
 refine IB (by simp [FF,h1]) fun k v u e1 e2=>?_
 simp only [FF,getElem?_map,map_eq_some_iff] at e1
 obtain ⟨k',hk,rfl⟩:=e1
 have:=List.getElem?_eq_some_iff.mp hk
 obtain ⟨hk1,hk2⟩:=this
 simp at hk2
 subst hk2
 obtain ⟨t,rfl⟩:=h2 k u (by simpa using e2)
 exact ⟨t,by rw [show i + (k:Int) * -1 = i - (k:Int) by lia]⟩
theorem Mp (hc:X.calm = true):BX X (.type "list") QC:=by
 intro pins s σ H xs us Q I r h
 obtain ⟨p,o,u,i,j,rfl,ha,⟨t,t',t'',rfl⟩,⟨q1,q2,q3,q4⟩,hl,q⟩:=h
 obtain ⟨u',rfl,ru⟩:=r.one
 cases ru
 have ho:=(I.hok p _ ha).1
 refine call_list_range (n:=(i - j).toNat) (I.ok.hd hc) ho (PySem.W.small_down q1 q2 q3 q4) (by rw [Ky]; split <;> lia) (by lia) fun h' tk acc c' kk hg hi=>?_
 refine ⟨.ref s.heap.objs.size,_,I.laid (t':=tk) (o:=.lst (FF i (i - j).toNat)) kk (le_refl _) ⟨?_,acc.toList,c',O4 hi,?_⟩,rfl,q _ (I.hok.fresh (le_refl _))⟩
 ·have:16777216≤sizeLine:=by decide
  simp only [FF,length_map,length_range]; lia
 ·rw [hg]
end
end L2
namespace J
open PySem PySem.Spec PyProof.Rows L2
section
variable {X:Cx} {a b c e:Expr} {es:List Expr} {m m1 m2 m3:ME} {ms:MA} {p pos pos' p2 apos cpos q npos:Pos} {x:Str}
variable {K:Frag} {N:Addr→Prop} {H:Hp} {σ:L2.St} {v:V} {L:List Addr}
noncomputable def FI:List A→Option A:=on3 fun q1 q2 q3=>(Bk q1).bind fun i=>(Bk q2).bind fun j=>(Bk q3).bind fun k=>if k = -1∧(-(2 ^ 62)≤i∧i < 2 ^ 62 ∧ -(2 ^ 62)≤j∧j < 2 ^ 62)∧(i - j).toNat≤16777216 then some (.lst ((down i (i - j).toNat).map A.fz)) else none
noncomputable def rLR:List V→Hp→VK→Prop:=fun xs H Q=>T8 xs H fun v H1=>QC [v] H1 Q
theorem QI (i:Int) (n:Nat):As N H (FF i n) (down i n):=by
 unfold FF down
 induction List.range n with
 | nil=>trivial
 | cons k l ih=>exact ⟨.int _,ih⟩
theorem Si:OpN K FI rLR:=by
 intro N H xs as b Q hs e k
 replace e:=Qk e
 obtain ⟨q1,q2,q3,rfl,e⟩:=e
 replace e:=bind_eq_some_iff.mp e
 obtain ⟨i,eq1,e⟩:=e
 cases A1 eq1
 clear eq1
 replace e:=bind_eq_some_iff.mp e
 obtain ⟨j,eq2,e⟩:=e
 cases A1 eq2
 clear eq2
 replace e:=bind_eq_some_iff.mp e
 obtain ⟨kk,eq3,e⟩:=e
 cases A1 eq3
 clear eq3
 split at e
 ·rename_i hl
  obtain ⟨rfl,hb,hn⟩:=hl
  cases e
  obtain ⟨v1,t0,L1,rfl,h1,hs⟩:=cons_of hs
  obtain ⟨v2,v3,L2,L3,rfl,h2,h3⟩:=A9 hs
  cases A6 h1
  cases A6 h2
  cases A6 h3
  refine ⟨i,j,rfl,fun r o hr io=>⟨r,o,_,i,j,rfl,AK,io,hb,hn,fun l hl2=>k _ _ ?_⟩⟩
  have sm:=Cj (o:=.frz o (.own r)) hr
  obtain ⟨s2,L,r2,nd,fr⟩:=HF (K:=K) (N:=N) (p:=l) (vs:=FF i (i - j).toNat) (ds:=down i (i - j).toNat) hl2 (by
   have:16777216≤sizeLine:=by decide
   simp only [FF,length_map,length_range]; lia) (QI _ _)
  refine ⟨fun b u z=>s2 b u (sm b u z),L,r2,nd,fun b hb=>?_⟩
  have:=fr b hb
  cases hH:H b with
  | none=>rfl
  | some u=>rw [sm b u hH] at this; cases this
 ·cases e
theorem RW (hcm:X.calm = true) (m1':X.mg "list" = none) (m2':X.mg "range" = none) (g1:Gl X "list") (g2:Gl X "range")
  (he1:starEach [.Call (.Name "range" p2) [a,b,c] [] pos'] X.env = (false,eval (.Call (.Name "range" p2) [a,b,c] [] pos') X.env) :: starEach [] X.env) (hp1:(backTo pos (starEach [] X.env)).any (·.1) = false)
  (he2:starEach [a,b,c] X.env = (false,eval a X.env) :: starEach [b,c] X.env) (hp2:(backTo pos' (starEach [b,c] X.env)).any (·.1) = false) (hs2:starEach [b,c] X.env = (false,eval b X.env) :: starEach [c] X.env) (hs3:starEach [c] X.env = (false,eval c X.env) :: starEach [] X.env) (ha:JE X a m1) (hb:JE X b m2) (hc:JE X c m3) :
  JE X (.Call (.Name "list" p) [.Call (.Name "range" p2) [a,b,c] [] pos'] [] pos) (opM FI (Aa m1 (Aa m2 (Aa m3 Ad)))):=
 AA (G6 (Mp hcm) m1' PyProof.Rows.Boot.«list» (by decide) (by decide) g1 he1 hp1 (Qm he1 (G6 Og m2' boot_range (by decide) (by decide) g2 he2 hp2 (Ac he2 ha (Ac hs2 hb (Ac hs3 hc Aj)))) Ei))
  fun σ H Q h=>(show (tA X.K (Aa m1 (Aa m2 (Aa m3 Ad)))) σ H (fun vs H1=>rLR vs H1 Q) from JP Si h)
noncomputable def Ll (ρ:Ro) (i:Nat):Option (Own × List (Key × D)):=match ρ[i]? with
 | some (some (.ro,_))=>none
 | some (some (st,.dic kvs))=>some (st,kvs)
 | _=>none
noncomputable def putD (kvs:List (Key × D)) (k:Key) (d:D):List (Key × D):=if kvs.any fun kv=>decide (kv.1 = k) then kvs.map fun kv=>if kv.1 = k then (kv.1,d) else kv else kvs ++ [(k,d)]
end
section
variable {K:Frag} {ρ ρ' ρ1 ρ2:Ro} {σ σ' σ1 σ2:L2.St} {H H' H1 H2:Hp} {O O' N:Addr→Prop} {fp fp' fp1 fp2:Nat→List Addr} {L L1:List Addr}
theorem JQ {p:Addr} {o:HO} {ys:List (Key × V)} (hy:H p = some (.dK ys)):Kept (fun q=>q = p) H (upd H p o):=fun b u e c=>by
 by_cases hb:b = p
 ·subst hb
  rcases c with c | c
  ·exact absurd rfl c
  ·rw [hy] at e; cases e; cases c
 ·rw [AH hb]; exact e
theorem Post.mutD {i:Nat} {st:Own} {a a':A} {v:V} {p:Addr} {o:HO} {vs:List (Key × V)} {L':List Addr} (x:Post K O fp H ρ ρ1 σ σ L fp1 H1) (hi : ρ1[i]? = some (some (st,a))) (hst:st ≠ .ro) (hv : σ[i]? = some (some v)) (hp:p∈fp1 i) (hy:H1 p = some (.dK vs))
  (hL:∀ q∈L',q∈fp1 i∨q∈L) (nd:L'.Nodup) (hr:Aq K (NN fp1 (ad O L)) (upd H1 p o) v a' L'):Post K O fp H ρ (ρ1.set i (some (st,a'))) σ σ [] (pt fp1 i L') (upd H1 p o):=by
 have alp:∀ q,H1 q≠none→upd H1 p o q≠none:=fun q z=>by
  by_cases e:q = p
  ·subst e; rw [AK]; simp
  ·rw [AH e]; exact z
 have k:=JQ (o:=o) hy
 -- first the heap,then the slot
 have nn:∀ q,NN (pt fp1 i L') (ad O []) q→NN fp1 (ad O L) q:=fun q z=>by
  rcases z with ⟨j,z⟩ | z | z
  ·rcases Bl z with ⟨_,z⟩ | ⟨_,z⟩
   ·rcases hL q z with z | z
    ·exact .inl ⟨i,z⟩
    ·exact .inr (.inr z)
   ·exact .inl ⟨j,z⟩
  ·exact .inr (.inl z)
  ·simp at z
 have dis:∀ q∈L',∀ j,j≠i→q ∉ fp1 j:=fun q hq j hj z=>by
  rcases hL q hq with w | w
  ·exact hj (x.rel.inj j i q z w)
  ·exact x.rel.off j q z (.inr w)
 refine ⟨⟨by rw [length_set]; exact x.rel.len,fun j st' b e=>?_,fun j h=>?_,fun j=>?_,fun j1 j2 q h1 h2=>?_,fun j q h z=>?_,fun q z=>alp q (x.rel.al q (nn q z))⟩,nodup_nil,fun q h=>by simp at h,fun q h=>?_,fun b u e c=>?_,rfl,fun j st' b e h=>?_⟩
 ·by_cases hj:j = i
  ·subst hj
   rw [getElem?_set_self (Aw hi)] at e
   cases e
   exact ⟨v,hv,by rw [D6]; exact Dq nn hr⟩
  ·rw [getElem?_set_ne (Ne.symm hj)] at e
   obtain ⟨w,e1,q⟩:=x.rel.slot j _ _ e
   refine ⟨w,e1,?_⟩
   rw [Fq hj]
   exact q.tr (M:=fun q=>q = p) (fun b z=>by rw [z]; exact .inl ⟨i,hp⟩) k (fun b z=>.inl (nn b z)) fun b hb z=>hj (x.rel.inj j i p (z ▸ hb) hp)
 ·by_cases hj:j = i
  ·subst hj
   exact absurd (getElem?_set_self (Aw hi)) (h st a')
  ·rw [Fq hj]
   exact x.rel.out j fun st' b e=>h st' b (by rw [getElem?_set_ne (Ne.symm hj)]; exact e)
 ·by_cases hj:j = i
  ·subst hj; rw [D6]; exact nd
  ·rw [Fq hj]; exact x.rel.nd j
 ·rcases Bl h1 with ⟨e1,z1⟩ | ⟨e1,z1⟩
  ·rcases Bl h2 with ⟨e2,z2⟩ | ⟨e2,z2⟩
   ·rw [e1,e2]
   ·exact absurd z2 (dis q z1 j2 e2)
  ·rcases Bl h2 with ⟨e2,z2⟩ | ⟨e2,z2⟩
   ·exact absurd z1 (dis q z2 j1 e1)
   ·exact x.rel.inj j1 j2 q z1 z2
 ·have z':=HN.mp z
  rcases Bl h with ⟨_,z1⟩ | ⟨_,z1⟩
  ·rcases hL q z1 with w | w
   ·exact x.rel.off i q w (.inl z')
   ·exact x.lo q w z'
  ·exact x.rel.off j q z1 (.inl z')
 ·rcases h with h | ⟨j,h⟩
  ·simp at h
  ·rcases Bl h with ⟨_,z1⟩ | ⟨_,z1⟩
   ·rcases hL q z1 with w | w
    ·exact x.new q (.inr ⟨i,w⟩)
    ·exact x.new q (.inl w)
   ·exact x.new q (.inr ⟨j,z1⟩)
 ·have e1:=x.kept b u e c
  by_cases hb:b = p
  ·subst hb
   rw [hy] at e1
   cases e1
   rcases c with c | c
   ·rcases x.new b (.inr ⟨i,hp⟩) with z | z
    ·exact absurd z c
    ·rw [e] at z; cases z
   ·cases c
  ·rw [AH hb]; exact e1
 ·obtain ⟨b',e1,_,f⟩:=x.stab j st' b e h
  by_cases hj:j = i
  ·subst hj
   rw [hi] at e1
   cases e1
   exact ⟨a',getElem?_set_self (Aw hi),rfl,fun z=>absurd z hst⟩
  ·exact ⟨b',by rw [getElem?_set_ne (Ne.symm hj)]; exact e1,rfl,f⟩
theorem Ln {i:Nat} {st:Own} {kvs:List (Key × D)} (h:Ll ρ i = some (st,kvs)) : ρ[i]? = some (some (st,.dic kvs))∧st ≠ .ro:=by
 unfold Ll at h
 split at h
 ·cases h
 ·rename_i st' as' hn e
  cases h
  exact ⟨e,fun z=>hn z⟩
 ·cases h
noncomputable def He (i:Nat) (mk me:ME):MS:=fun ρ=>(me ρ).bind fun p=>(share p.2 p.1).bind fun s=>(Ll s.2 i).bind fun _=>(mk s.2).bind fun t=>match t.1 with
 | .val (.fz kd)=>(Ll t.2 i).bind fun h=>(GZ kd).bind fun k=>if h.2.length < LIM then some (.next (t.2.set i (some (h.1,.dic (putD h.2 k s.1))))) else none
 | _=>none
theorem VT {k:Key} {y:V} {d:D} {us:List (Key × V)} {kvs:List (Key × D)} (hp:Paired (fun (u:Key × V) (k:Key × D)=>u.1 = k.1∧RepA N H u.2 k.2) us kvs) (r:RepA N H y d):Paired (fun (u:Key × V) (k:Key × D)=>u.1 = k.1∧RepA N H u.2 k.2) (putK us k y) (putD kvs k d):=by
 have ha:(us.any fun kv=>decide (kv.1 = k)) = kvs.any fun kv=>decide (kv.1 = k):=by
  induction hp with
  | nil=>rfl
  | cons q t ih=>rw [any_cons,any_cons,ih,q.1]
 unfold putK putD
 rw [ha]
 cases (kvs.any fun kv=>decide (kv.1 = k)) with
 | true =>
  simp only [if_true]
  clear ha
  induction hp with
  | nil=>exact .nil
  | @cons u kd us kvs q t ih =>
   refine .cons ?_ ih
   dsimp only
   by_cases h:kd.1 = k
   ·rw [if_pos h,if_pos (q.1.trans h)]; exact ⟨q.1,r⟩
   ·rw [if_neg h,if_neg fun z=>h (q.1.symm.trans z)]; exact q
 | false =>
  simp only [false_eq_true,if_false]
  clear ha
  induction hp with
  | nil=>exact .cons ⟨rfl,r⟩ .nil
  | cons q t ih=>exact .cons q ih
theorem Tz {i:Nat} {mk me:ME} {D:Ends} (h:tS K (He i mk me) D σ H):Ub (Nc i) (tE K mk) (tE K me) D σ H:=by
 obtain ⟨ρ,O,fp,rl,fl,e,w⟩:=h
 simp only [He,bind_eq_some_iff] at e
 obtain ⟨⟨r,ρ1⟩,e1,⟨d,ρ2⟩,e2,⟨st0,as0⟩,e0,⟨r3,ρ3⟩,e3,e4⟩:=e
 dsimp only at e4
 split at e4
 ·rename_i kd
  simp only [bind_eq_some_iff] at e4
  obtain ⟨⟨st,kvs⟩,e5,ky,e6,e7⟩:=e4
  split at e7
  ·rename_i hlen
   cases e7
   refine ⟨ρ,O,fp,rl,r,ρ1,e1,fun y H1 yy=>?_⟩
   obtain ⟨L,fp1,p,q⟩:=yy
   obtain ⟨fp2,p2,q2⟩:=DW p q e2
   obtain ⟨g0,_⟩:=Ln e0
   obtain ⟨v,hv,q0⟩:=p2.rel.slot i _ _ g0
   rw [Aq] at q0
   obtain ⟨p0,us0,rfl,_,hp0,_,_⟩:=q0
   refine ⟨_,hv,ρ2,O,fp2,p2.rel0,_,ρ3,e3,fun y2 H2 yy=>?_⟩
   obtain ⟨L3,fp3,p3,q3⟩:=yy
   obtain ⟨_,q3⟩:=(Ci (K:=K)).mp q3
   cases Im q3 e6
   have p4:=(p2.next p3).drop0
   obtain ⟨g,gst⟩:=Ln e5
   obtain ⟨v',hv',qi⟩:=p4.rel.slot i _ _ g
   rw [hv] at hv'; cases hv'
   rw [Aq] at qi
   obtain ⟨pa,us,e8,e9,hp,hz',hs⟩:=qi
   cases e8
   have hlu:=Paired.length hs
   have qy:RepA (NN fp3 (ad O [])) H2 y d:=(Ft (fun b z=>FU.mpr z) q2).tr (M:=Fp fp2) (fun b z=>.inl z) p3.kept fun b z=>by
    rcases z with z | z | z
    ·exact (p3.new b (.inr z)).imp (fun y=>.inl y) id
    ·exact .inl (.inr z)
    ·simp at z
   have k:=JQ (o:=.dK (putK us ky y)) hp
   have pn:NN fp3 (ad O []) p0:=.inl ⟨i,by rw [e9]; simp⟩
   have h1:Paired (fun (u:Key × V) (k:Key × L2.D)=>u.1 = k.1∧RepA (NN fp3 (ad O [])) (upd H2 p0 (.dK (putK us ky y))) u.2 k.2) us kvs:=Paired.mapQ hs fun u kd r=>⟨r.1,r.2.tr (M:=fun b=>b = p0) (fun b z=>z ▸ pn) k fun b z=>.inl z⟩
   have h2:RepA (NN fp3 (ad O [])) (upd H2 p0 (.dK (putK us ky y))) y d:=qy.tr (M:=fun b=>b = p0) (fun b z=>z ▸ pn) k fun b z=>.inl z
   have hlz:LIM≤sizeLine:=by decide
   have hl3:us.length < sizeLine:=by have:kvs.length < LIM:=hlen; lia
   refine ⟨p0,upd H2 p0 (.dK (putK us ky y)),rfl,.inl ⟨us,ky,hp,rfl,hl3,rfl⟩,w _ _ _ (p4.mutD (a':=.dic (putD kvs ky d)) (L':=[p0]) g gst hv (by rw [e9]; simp) hp (fun b hb=>?_) (by simp) ?_)⟩
   ·simp at hb; subst hb; exact .inl (by rw [e9]; simp)
   ·rw [Aq]
    have:=D4 us ky y
    exact ⟨p0,putK us ky y,rfl,rfl,AK,by lia,VT h1 h2⟩
  ·cases e7
 ·cases e4
end
section
variable {X:Cx} {a b c e:Expr} {es:List Expr} {m m1 m2 m3:ME} {ms:MA} {p pos pos' p2 apos cpos q npos:Pos} {x:Str}
theorem RY {k:Nat} (i:Nat) (hr:Room k X.A) (hN:X.N[i]? = some x) (hv:Vis X.env.scope x) (hd:(x == ("__debug__" : Str)) = false) (hcd:(x == ("__classdict__" : Str)) = false) (hs:swapsWith e (some (.Subscript (.Name x npos) b pos')) pos.line X.env = pure false)
  (hk:JE X b m1) (he:JE X e m2):JS X (.Assign [.Subscript (.Name x npos) b pos'] e pos) (He i m1 m2):=
 CG (L2.SI (Nx hr) (F0 hN hv hd hcd) hk he hs) fun _ _ _ h=>Tz h
end
end J
end
section
namespace J
open PySem PySem.Spec PyProof.Rows L2
section
variable {X:Cx} {a b c e:Expr} {m m1 m2 m3:ME} {p pos pos' p2:Pos}
variable {K:Frag} {N:Addr→Prop} {H:Hp} {v:V}
theorem Rn {k:Key} {us:List (Key × V)} {kvs:List (Key × D)} (hp:Paired (fun (u:Key × V) (k:Key × D)=>u.1 = k.1∧RepA N H u.2 k.2) us kvs):(F8 us k).isSome = (Ez kvs k).isSome:=by
 induction hp with
 | nil=>rfl
 | @cons u kd us kvs r t ih =>
  simp only [Ez,F8,find?_cons] at ih ⊢
  by_cases h:kd.1 = k
  ·have h':u.1 = k:=r.1.trans h
   simp only [h,h',decide_true,map_some,Option.isSome_some]
  ·have h':¬ u.1 = k:=fun z=>h (r.1.symm.trans z)
   simp only [h,h',decide_false]
   exact ih
noncomputable def J9 (neg:Bool):List A→Option A:=on2 fun q1 q2=>(fzU q1).bind fun d=>(Ce q2).bind fun kvs=>(GZ d).map fun k=>.fz (.bl ((Ez kvs k).isSome != neg))
theorem Qg (neg:Bool):OpN K (J9 neg) (r2L fun y x H Q=>∃ a o,x = .ref a∧GL H a y o∧Q (.bl (o.isSome != neg)) H):=by
 intro N H xs as b Q hs e k
 replace e:=BM e
 obtain ⟨q1,q2,rfl,e⟩:=e
 replace e:=bind_eq_some_iff.mp e
 obtain ⟨d,eq1,e⟩:=e
 cases FO eq1
 clear eq1
 replace e:=bind_eq_some_iff.mp e
 obtain ⟨kvs,eq2,e⟩:=e
 cases Hx eq2
 clear eq2
 simp only [map_eq_some_iff] at e
 obtain ⟨ky,e1,rfl⟩:=e
 obtain ⟨x,y,L1,L2,rfl,h1,h2⟩:=A9 hs
 obtain ⟨_,h1⟩:=Ci.mp h1
 rw [Aq] at h2
 obtain ⟨a,us,rfl,rfl,ha,hz,hp⟩:=h2
 cases Im h1 e1
 refine ⟨_,_,rfl,a,_,rfl,GL.k ha,?_⟩
 rw [Rn hp]
 exact k _ _ (Eh (.bl _))
theorem UK {k:Nat} (hr:Room k X.A) (hm:behindInMarks .In b = false) (ha:JE X a m1) (hb:JE X b m2):JE X (.Compare a [.In] [b] pos) (opM (J9 false) (m2L m1 m2)):=by
 refine AA (Vp (Vn (Nx hr) ha hb) hm) fun σ H Q h=>?_
 exact tE.mono (two (Qg false) h) fun x H1 h1=>tE.mono h1 fun y H2 ⟨a,o,e,g,q⟩=>⟨a,o,e,g,by simpa using q⟩
theorem RZ {k:Nat} (hr:Room k X.A) (hm:behindInMarks .NotIn b = false) (ha:JE X a m1) (hb:JE X b m2):JT X (.Compare a [.NotIn] [b] pos) (AG (opM (J9 true) (m2L m1 m2))):=by
 refine FC (VP (OO (Nx hr) ha hb) hm) fun σ H Q h=>?_
 exact tE.mono (two (Qg true) (IV h)) fun x H1 h1=>tE.mono h1 fun y H2 ⟨a,o,e,g,q⟩=>⟨a,o,e,g,by simpa using q⟩
end
end J
end
section
namespace L2
open PySem PySem.Spec PyProof.Rows
section
variable {X:Cx}
noncomputable def T5:List V→Hp→VK→Prop:=fun xs H Q=>∃ a kvs,xs = [.ref a]∧H a = some (.dK kvs)∧Q (.int kvs.length) H
theorem Of:BX X (.builtin "len") T5:=by
 intro pins s σ H xs us Q I r h
 obtain ⟨a,kvs,rfl,ha,q⟩:=h
 obtain ⟨u,rfl,ru⟩:=r.one
 cases ru
 exact WQ I (.inl ha) fun t s' I'=>⟨.int kvs.length,H,I',⟨t,rfl⟩,q⟩
noncomputable def QB:List V→Hp→VK→Prop:=fun xs H Q=>∃ (a:Addr) (kvs:List (Key × V)),xs = [.ref a]∧H a = some (.dK kvs)∧∀ l,H l = none→Q (.ref l) (upd H l (.lst (kvs.map fun kv=>kV kv.1)))
theorem UW {P:Program} {w:World} {k:Key} {v:Value} (h:(Bm P w).is k v = true):RelV (kV k) v:=by
 have h:Ik k v = true:=h
 cases k with
 | inl i=>exact Value.isInt_shape h
 | inr i=>exact Value.isStrOf_shape h
theorem HV (hc:X.calm = true):BX X (.type "list") QB:=by
 intro pins s σ H xs us Q I r h
 obtain ⟨a,kvs,rfl,ha,q⟩:=h
 obtain ⟨u,rfl,ru⟩:=r.one
 cases ru
 obtain ⟨z,hd,vs,rel,dd⟩:=Pj I.hok ha
 obtain ⟨ep,dat⟩:=dd.dictAt
 have hl:=rel.length
 refine PySem.W.kdl_call (PySem.W.kdl_dict (knd:=Bm X.prog X.w) (kvs:=vs) (ep:=ep) hd) (I.ok.hd hc) dat (by rw [← hl]; exact z) fun h' tk acc c' kk hg hi=>?_
 refine ⟨.ref s.heap.objs.size,_,I.laid (t':=tk) (o:=.lst (kvs.map fun kv=>kV kv.1)) kk (le_refl _) ⟨by rw [length_map]; exact z,acc.toList,c',?_,?_⟩,rfl,q _ (I.hok.fresh (le_refl _))⟩
 ·obtain ⟨h1,h2⟩:=hi
  refine IB (by simp [h1,hl]) fun k v u e1 e2=>?_
  simp only [getElem?_map,map_eq_some_iff] at e1
  obtain ⟨kv,e1,rfl⟩:=e1
  obtain ⟨k',x,e3,e4⟩:=h2 k u (by simpa using e2)
  have hk:=congrArg (fun l=>l[k]?) rel.keys
  simp only [getElem?_map,e1,e3,map_some,Option.some.injEq] at hk
  rw [hk]
  exact UW e4
 ·rw [hg]
noncomputable def tAt (zs:List Str) (i:Nat):Str:=zs.getD i ⟨#[]⟩
noncomputable def KU (zs:List Str):Str:=tAt zs (argBest (fun i j=>decide ((tAt zs i).cps.toList < (tAt zs j).cps.toList)) (zs.length - 1))
noncomputable def T7 (K:Frag):List V→Hp→VK→Prop:=fun xs H Q=>∃ (p:Addr) (zs:List Str),xs = [.ref p]∧H p = some (.lst (zs.map V.str))∧0 < zs.length∧Q (.str (KU zs)) H
theorem IT {zs:List Str} {us:List Value} (h:Vals (zs.map V.str) us) {i:Nat} {v:Value} (e:us.toArray[i]? = some v):∃ t,v = .str (tAt zs i) t:=by
 induction zs generalizing us i with
 | nil=>cases h; simp at e
 | cons z zs ih =>
  cases h with
  | @cons _ u _ us r t =>
   cases i with
   | zero=>simp at e; subst e; exact r
   | succ i =>
    obtain ⟨t',e'⟩:=ih (us:=us) (i:=i) t (by simpa using e)
    exact ⟨t',e'⟩
theorem Jw (hc:X.calm = true):BX X (.builtin "min") (T7 X.K):=by
 intro pins s σ H xs us Q I r h
 obtain ⟨l,zs,rfl,ha,hn,q⟩:=h
 obtain ⟨u,rfl,ru⟩:=r.one
 cases ru
 obtain ⟨its,rv,pl,hz⟩:=I.list (.inl (.inl ha))
 have hlen:=rv.length
 rw [length_map] at hlen
 have hL:=pl.isList
 have hlt:l < s.heap.objs.size:=by obtain ⟨_,e,_⟩:=hL; exact lt_size e
 refine call_min_walk (wpAny_pyIter_list hL ?_)
 refine ⟨_,_,_,_,_,_,(fun i j=>decide ((tAt zs i).cps.toList < (tAt zs j).cps.toList)),rfl,Walks.list (A:=X.A.in1) (I.ok.hd hc) _ l (ne_of_lt hlt) its.toArray,⟨⟨_,get?_push_size _ rfl,rfl,rfl⟩,hL.push _⟩,fun b hb=>?_,by simp; lia,?_,fun v h' tk hP hk=>?_⟩
 ·show b < (s.heap.push _).objs.size
  rw [Heap.size_push]
  rcases mem_cons.mp hb with rfl | hb
  ·exact Nat.lt_succ_self _
  ·rcases mem_cons.mp hb with rfl | hb
   ·exact Nat.lt_succ_of_lt hlt
   ·cases hb
 ·intro i j vi vj s' Q' E' hi hj h
  obtain ⟨t,rfl⟩:=IT rv hi
  obtain ⟨t',rfl⟩:=IT rv hj
  exact PyProof.Rows.lt_str h
 ·obtain ⟨t,rfl⟩:=IT rv hP
  have kk:∀ b o,s.heap.get? b = some o→h'.get? b = some o:=fun b o e=>hk b o (fun hm=>by
   rcases mem_cons.mp hm with e1 | hm
   ·exact absurd (e1 ▸ lt_size e) (lt_irrefl _)
   ·cases hm) (get?_push_of_some _ e)
  refine ⟨.str (KU zs),H,I.kept (h':=h') (t':=tk) kk,⟨t,?_⟩,q⟩
  rw [KU,size_toArray,hlen]
end
end L2
namespace J
open PySem PySem.Spec PyProof.Rows L2
section
variable {X:Cx} {a b c e:Expr} {es:List Expr} {m m1 m2 m3:ME} {ms:MA} {p pos pos' p2 apos cpos q npos:Pos} {x:Str}
variable {K:Frag} {N:Addr→Prop} {H:Hp} {σ:L2.St} {v:V} {L:List Addr}
noncomputable def P2:List A→Option A:=on1 fun q1=>(Ce q1).bind fun kvs=>some (.fz (.int kvs.length))
theorem Sf:OpN K P2 T5:=by
 intro N H xs as b Q hs e k
 replace e:=Dd e
 obtain ⟨q1,rfl,e⟩:=e
 replace e:=bind_eq_some_iff.mp e
 obtain ⟨kvs,eq1,e⟩:=e
 cases Hx eq1
 clear eq1
 cases e
 obtain ⟨x,L1,rfl,h1⟩:=CJ hs
 rw [Aq] at h1
 obtain ⟨a,us,rfl,rfl,ha,hz,hp⟩:=h1
 refine ⟨a,us,rfl,ha,?_⟩
 rw [Paired.length hp]
 exact k _ _ Di
noncomputable def kD:Key→D
 | .inl i=>.int i
 | .inr z=>.str z
noncomputable def kSh:Key→Bool
 | .inl _=>true
 | .inr z=>decide (z.length≤LIM)
noncomputable def Ff:List A→Option A:=on1 fun q1=>(Ce q1).bind fun kvs=>if kvs.all fun kv=>kSh kv.1 then some (.lst ((kvs.map fun kv=>kD kv.1).map A.fz)) else none
theorem LI:OpN K Ff QB:=by
 intro N H xs as b Q hs e k
 replace e:=Dd e
 obtain ⟨q1,rfl,e⟩:=e
 replace e:=bind_eq_some_iff.mp e
 obtain ⟨kvs,eq1,e⟩:=e
 cases Hx eq1
 clear eq1
 split at e
 ·rename_i hl
  cases e
  obtain ⟨x,L1,rfl,h1⟩:=CJ hs
  rw [Aq] at h1
  obtain ⟨a,us,rfl,rfl,ha,hz,hp⟩:=h1
  refine ⟨a,us,rfl,ha,fun l hl2=>k _ _ (HF hl2 (by rw [length_map]; exact hz) ?_)⟩
  rw [all_eq_true] at hl
  clear ha hz hs k
  induction hp with
  | nil=>trivial
  | @cons u kd us kvs r t ih =>
   refine ⟨?_,ih fun z hz=>hl z (by simp [hz])⟩
   have:=hl kd (by simp)
   show RepA N H (kV u.1) (kD kd.1)
   rw [r.1]
   cases hk:kd.1 with
   | inl i=>exact .int i
   | inr z =>
    rw [hk] at this
    simp only [kSh,decide_eq_true_iff] at this
    have:LIM≤sizeLine:=by decide
    exact .str z (by lia)
 ·cases e
noncomputable def Je:List A→Option A:=on1 fun a=>(C2 a).bind fun ds=>(Dp ds).bind fun zs=>if zs.isEmpty then none else some (.fz (.str (KU zs)))
theorem Rv (bt:Nat→Nat→Bool):∀ n,argBest bt n≤n:=by
 intro n
 induction n with
 | zero=>exact le_refl _
 | succ n ih=>rw [argBest]; split <;> lia
theorem Me {zs:List Str} (h:zs≠[]):KU zs∈zs:=by
 have hl:=length_pos_iff.mpr h
 have:=Rv (fun i j=>decide ((tAt zs i).cps.toList < (tAt zs j).cps.toList)) (zs.length - 1)
 unfold KU
 generalize argBest _ _ = i at this
 have hi:i < zs.length:=by lia
 simp [tAt,getD_eq_getElem?_getD,hi]
theorem TJ {zs:List Str}:∀ z∈zs,¬ z.cps.toList < (KU zs).cps.toList:=by
 have go:∀ n i,i≤n→¬ (tAt zs i).cps.toList < (tAt zs (argBest (fun i j=>decide ((tAt zs i).cps.toList < (tAt zs j).cps.toList)) n)).cps.toList:=by
  intro n
  induction n with
  | zero =>
   intro i hi
   have:i = 0:=by lia
   subst this
   exact List.lt_irrefl _
  | succ n ih =>
   intro i hi
   rw [argBest]
   split
   ·rename_i hb
    rw [decide_eq_true_iff] at hb
    by_cases e:i = n + 1
    ·subst e; exact List.lt_irrefl _
    ·intro z
     exact ih i (by lia) (List.lt_trans z hb)
   ·rename_i hb
    by_cases e:i = n + 1
    ·subst e; simpa using hb
    ·exact ih i (by lia)
 intro z hz
 obtain ⟨i,hi,e⟩:=mem_iff_getElem.mp hz
 have:=go (zs.length - 1) i (by lia)
 rw [show tAt zs i = z by simp [tAt,getD_eq_getElem?_getD,hi,e]] at this
 exact this
theorem NJ:OpN K Je (T7 K):=by
 intro N H xs as b Q hs e k
 replace e:=Dd e
 obtain ⟨a,rfl,e⟩:=e
 simp only [bind_eq_some_iff] at e
 obtain ⟨ds,e1,zs,e2,e3⟩:=e
 split at e3
 ·cases e3
 ·rename_i hl
  cases e3
  obtain ⟨x,L1,rfl,h1⟩:=CJ hs
  obtain ⟨p,vs,rfl,hp,hz',q⟩:=Eg h1 e1
  have ed:=IQ e2
  subst ed
  have sh:=F6 q
  cases HJ q e2
  have hne:zs≠[]:=fun z=>hl (by rw [z]; rfl)
  exact ⟨p,zs,rfl,hp,length_pos_iff.mpr hne,k _ _ (Eh (.str _ (sh _ (Me hne))))⟩
noncomputable def PB:List A→Option A:=on2 fun a q2=>(CD q2).bind fun _u=>some (.fz (.bl (BK a)))
theorem Vb:OpN K PB (r2L fun x y H Q=>y = .non∧Q (.bl (decide (x = .non))) H):=by
 intro N H xs as b Q hs e k
 replace e:=BM e
 obtain ⟨a,q2,rfl,e⟩:=e
 replace e:=bind_eq_some_iff.mp e
 obtain ⟨_u,eq2,e⟩:=e
 cases NH eq2
 clear eq2
 cases e
 obtain ⟨x,y,L1,L2,rfl,h1,h2⟩:=A9 hs
 obtain ⟨_,h2⟩:=Ci.mp h2
 cases h2
 refine ⟨_,_,rfl,rfl,k _ _ ?_⟩
 have:decide (x = V.non) = BK a:=by
  cases a with
  | fz d =>
   obtain ⟨_,h1⟩:=Ci.mp h1
   cases h1 <;> simp [BK]
  | lst as=>rw [Aq] at h1; obtain ⟨_,_,_,rfl,_⟩:=h1; simp [BK]
  | tup as=>rw [Aq] at h1; obtain ⟨_,_,rfl,_⟩:=h1; simp [BK]
  | scr ns=>rw [Aq] at h1; obtain ⟨_,rfl,_⟩:=h1; simp [BK]
  | dic kvs=>rw [Aq] at h1; obtain ⟨_,_,rfl,_⟩:=h1; simp [BK]
 rw [this]
 exact Eh (.bl _)
noncomputable def Ld:List A→Option A:=on2 fun q1 q2=>(fzU q1).bind fun d=>(fzU q2).bind fun n=>(GZ d).map fun k=>.dic [(k,n)]
theorem PJ (i:Nat) {n:Int} {j:Nat} (hN:X.N[i]? = some x) (hv:Vis X.env.scope x) (hd:(x == ("__debug__" : Str)) = false) (hcd:(x == ("__classdict__" : Str)) = false) :
  JE X (.Dict [some (.Name x npos)] [.Constant (.int n) j p2] pos) (opM Ld (m2L (Ab i) (Ae (.int n)))):=by
 refine AA (Sv (Qv (F0 hN hv hd hcd) Qp SH) rfl rfl (by simp) (by simp)) fun σ H Q h=>?_
 have ok:OpN X.K Ld (r2L fun x y H Q=>∃ k,x = kV k∧∀ p,H p = none→Q (.ref p) (upd (upd H p (.dK [])) p (.dK [(k,y)]))):=by
  intro N H xs as b Q hs e k
  replace e:=BM e
  obtain ⟨q1,q2,rfl,e⟩:=e
  replace e:=bind_eq_some_iff.mp e
  obtain ⟨d,eq1,e⟩:=e
  cases FO eq1
  clear eq1
  replace e:=bind_eq_some_iff.mp e
  obtain ⟨n,eq2,e⟩:=e
  cases FO eq2
  clear eq2
  simp only [map_eq_some_iff] at e
  obtain ⟨ky,e1,rfl⟩:=e
  obtain ⟨x,y,L1,L2,rfl,h1,h2⟩:=A9 hs
  obtain ⟨_,h1⟩:=Ci.mp h1
  obtain ⟨_,h2⟩:=Ci.mp h2
  cases Im h1 e1
  refine ⟨_,_,rfl,ky,rfl,fun p hp=>k _ _ ?_⟩
  have eu:upd (upd H p (.dK [])) p (.dK [(ky,y)]) = upd H p (.dK [(ky,y)]):=by
   funext b
   by_cases hb:b = p
   ·subst hb; rw [AK,AK]
   ·rw [AH hb,AH hb,AH hb]
  rw [eu]
  have sm:=Cj (o:=.dK [(ky,y)]) hp
  have h1z:[(ky,y)].length≤sizeLine:=by simp only [length_cons,length_nil]; decide
  refine ⟨sm,[p],?_,by simp,fun b hb=>by simp at hb; rw [hb]; exact hp⟩
  rw [Aq]
  exact ⟨p,[(ky,y)],rfl,rfl,AK,h1z,.cons ⟨rfl,h2.tr (M:=fun _=>False) (fun _ z=>z.elim) (EG.kept sm) fun b z=>z.imp id fun z=>by simp at z; rw [z]; exact hp⟩ .nil⟩
 have h0:=tE.mono (two ok h) fun x H1 h1=>Hc (v:=.int n) (fun _ _=>.int n) h1
 obtain ⟨v,e1,ky,ek,q⟩:=KS h0
 intro p hp
 exact ⟨v,e1,AK,[(ky,.int n)],by rw [ek]; rfl,by simp,q p hp⟩
noncomputable def Um:List A→Option A:=FP (fun _ _=>true) fun i j=>i + j
noncomputable def Ru (i:Nat) (m:ME):MS:=Ar i (opM Um (m2L (Ab i) m))
theorem UR (i:Nat) (hN:X.N.Nodup) (hi:X.N[i]? = some x) (hx:Loc X.env.scope x) (hf:X.fn x = true) (h:JE X e m):JS X (.AugAssign (.Name x pos') .Add e pos) (Ru i m):=
 CG (VL hN hi hx h UH (.inl hf)) fun D σ H h=>by
  have h1:tE X.K (opM Um (m2L (Ab i) m)) σ H fun z H2=>D.nx (σ.set i (some z)) H2:=Rb h
  obtain ⟨v,e1,q⟩:=KS (two Gz h1)
  refine ⟨v,e1,tE.mono q fun y H1 h2=>?_⟩
  obtain ⟨i',j',a1,a2,a3⟩:=h2
  exact ⟨i',j',a1,a2,a3⟩
end
end J
end
section
namespace L2
open PySem PySem.Spec PyProof.Rows
section
variable {X:Cx} {pins:List (Addr × Obj)} {σ:St} {H:Hp} {s:Shared}
noncomputable abbrev withN (X:Cx) (N':List Str):Cx:={ X with N:=N' }
noncomputable def JF (N' N:List Str) (sco:Scope):Bool:=(N'.length == N.length) && (N'.zip N).all fun p=>p.1 == p.2 || (sco.names.lookup p.1).isNone
theorem RP:∀ {N' N:List Str} {sco:Scope},JF N' N sco = true→∀ (i:Nat) (x:Str),N'[i]? = some x→Vis sco x→N[i]? = some x:=by
 intro N' N sco h i x e v
 simp only [JF,and_eq_true,beq_iff_eq,all_eq_true] at h
 obtain ⟨hl,ha⟩:=h
 have hi:i < N'.length:=(List.getElem?_eq_some_iff.mp e).1
 have hi2:i < N.length:=by rw [← hl]; exact hi
 have hz:(N'.zip N)[i]? = some (x,N[i]):=by
  rw [List.getElem?_zip_eq_some]
  exact ⟨e,getElem?_eq_getElem hi2⟩
 have:=ha _ (mem_of_getElem? hz)
 simp only [Bool.or_eq_true,beq_iff_eq,Option.isNone_iff_eq_none] at this
 rcases this with z | z
 ·rw [getElem?_eq_getElem hi2,← z]
 ·rcases v with v | v | v <;> rw [z] at v <;> cases v
theorem Cx.Ok.withN {N':List Str} (ok:X.Ok):(withN X N').Ok:=⟨ok.mod,ok.kind,ok.glob,ok.blt,ok.above,ok.inj,ok.has,ok.cab,ok.hd,ok.frames,ok.stk,ok.exf,ok.bs,ok.bsz,ok.noex,ok.exfs,ok.funs,ok.frf,ok.tb⟩
theorem Inv.hide {N':List Str} (h:JF N' X.N X.env.scope = true) (I:Inv X pins σ H s):Inv (withN X N') pins σ H s:=by
 refine ⟨I.ok.withN,I.os,I.bare,I.base,?_,I.cell,I.free,I.freeC,I.pin,I.hok,?_⟩
 ·obtain ⟨m,hn,q⟩:=I.loc
  exact ⟨m,hn,fun i x v e1 e2 vis=>q i x v (RP h i x e1 vis) e2 vis⟩
 ·simp only [JF,and_eq_true,beq_iff_eq] at h
  exact I.len.trans h.1.symm
theorem Inv.blank {N':List Str} (I:Inv (withN X N') pins σ H s):Inv X pins (List.replicate X.N.length none) H s:=by
 have ok:X.Ok:=⟨I.ok.mod,I.ok.kind,I.ok.glob,I.ok.blt,I.ok.above,I.ok.inj,I.ok.has,I.ok.cab,I.ok.hd,I.ok.frames,I.ok.stk,I.ok.exf,I.ok.bs,I.ok.bsz,I.ok.noex,I.ok.exfs,I.ok.funs,I.ok.frf,I.ok.tb⟩
 refine ⟨ok,I.os,I.bare,I.base,?_,I.cell,I.free,I.freeC,I.pin,I.hok,by rw [List.length_replicate]⟩
 obtain ⟨m,hn,_⟩:=I.loc
 refine ⟨m,hn,fun i x v e1 e2 vis=>?_⟩
 rw [List.getElem?_replicate] at e2
 split at e2 <;> simp at e2
theorem Vw {N':List Str} {own:List Str} {scope:Scope} {target iter elt:Expr} {ifs:List Expr} {pos:Pos} {wi:TI} {un:TU} {tc:TT} {te:TE} (hid:JF N' X.N X.env.scope = true) (hc:X.calm = true) (hok:CC own N' scope X.env.scope = true) (hi:PI X target iter wi)
  (hg:∀ C s H fp pins,PGo (cxC (withN X N') own scope C s H fp pins) target own.length un) (ht:∀ C s H fp pins,PTs (cxC (withN X N') own scope C s H fp pins) ifs tc) (he:∀ C s H fp pins,PE (cxC (withN X N') own scope C s H fp pins) elt te)
  (hs:∀ x,foldedSetIterable iter X.env x = pure x:=by intro _; rfl):PE X (.ListComp elt [⟨target,iter,ifs,0⟩] scope pos) (tLc wi un tc te):=by
 intro pins s σ H Q I h
 have hok':CC own (withN X N').N scope (withN X N').env.scope = true:=hok
 rw [eval_ListComp]
 refine wpAny_comprehension_free (use:=none) rfl hs (Pe (env:=X.env) (CC.free (X:=withN X N') hok' (I.hide hid))) (CC.kind hok) (CC.names hok) ?_
 refine thn (hi pins s σ H _ I h) fun v s1 h1=>thn h1 fun itv s2 h2=>?_
 obtain ⟨it,fp,tn,J,H2,e,I2,T,st2,f2,q⟩:=h2
 subst e
 obtain ⟨W,w0,turn⟩:=q s2.heap.objs.size I2.fresh
 refine wpAny_newObj_type (hd:=by size_fits) ?_
 have I3:Inv X pins σ (upd H2 s2.heap.objs.size (.lst [])) { s2 with heap:=s2.heap.push { cls:=.type "list",data:=.seq ([]:List Value).toArray } }:=I2.lnew (its:=[]) (t':=s2.toks) .nil (zero_le _)
 have st3:tn 0 (s2.heap.push { cls:=.type "list",data:=.seq ([]:List Value).toArray }):=T.keep _ _ _ st2 fun b _ o e=>get?_push_of_some _ e
 have f3:∀ b∈fp,Ga X pins (upd H2 s2.heap.objs.size (.lst [])) b:=fun b hb=>by
  obtain ⟨o,e,_⟩:=T.obj _ _ st2 b hb
  exact ⟨by rw [AH (ne_of_lt (lt_size e))]; exact (f2 b hb).1,(f2 b hb).2⟩
 refine thn (JN (X:=withN X N') (iter:=iter) (pos:=pos) (R:=compPost (model X.prog X.w) X.A X.xe none (EP X pins σ Q) (.ref s2.heap.objs.size) (s2.heap.push { cls:=.type "list",data:=.seq ([]:List Value).toArray }).objs.size) hc hok' hg ht he (I3.hide hid) T st3 f3 W w0 turn fun s' σ' H' J' q'=>?_) fun cenv s4 ⟨el,h4⟩=>?_
 ·obtain ⟨m,hn,_⟩:=J'.loc
  have J2:=Inv.blank (X:=cxC X own scope (s2.heap.push { cls:=.type "list",data:=.seq ([]:List Value).toArray }).objs.size _ _ fp pins) (N':=own ++ N') J'
  exact ⟨m,hn,fun h' hs'=>⟨.ref s2.heap.objs.size,H',Hg I3 f3 J2 hs',rfl,q'⟩⟩
 ·have el':cenv.locals = (s2.heap.push { cls:=.type "list",data:=.seq ([]:List Value).toArray }).objs.size:=el
  rw [← el'] at h4
  exact h4
end
end L2
namespace J
open PySem PySem.Spec PyProof.Rows L2
section
variable {X:Cx} {x:Str} {pos:Pos} {mi:MI} {mt:MT} {m:ME}
theorem UN (N':List Str) {scope:Scope} {iter elt:Expr} {ifs:List Expr} {px:Pos} (hid:JF N' X.N X.env.scope = true) (hok:CC [x] N' scope X.env.scope = true) (hc:X.calm = true) (hn:N'.Nodup) (hx:scope.names.lookup x = some .local)
  (hs:∀ z,foldedSetIterable iter X.env z = pure z) (hi:JI X (.Name x px) iter mi) (ht:JTc (withN X N') [x] scope ifs mt) (he:JEc (withN X N') [x] scope elt m) :
  JE X (.ListComp elt [⟨.Name x px,iter,ifs,0⟩] scope pos) (A4 mi 0 mt m):=by
 have hnx:∀ y∈N',x≠y:=fun y hy z=>by
  simp only [CC,and_eq_true,all_eq_true] at hok
  have:=hok.2 x (by simp)
  rw [z] at this
  simp [hy] at this
 exact AA (Vw (te:=tE X.K m) hid hc hok hi (fun C s H fp pins=>LP rfl (nodup_cons.mpr ⟨fun z=>hnx x z rfl,hn⟩) (lookup_relabel_local hx)) ht (fun C s H fp pins=>he C s H fp pins) hs) fun _ _ _ h=>KR h
end
end J
end
section
namespace St
noncomputable def hit (f:Nat→List Int) (bs:List Int) (c:Nat):Bool:=(f c).any fun x=>decide (x∈bs)
noncomputable def fs (f:Nat→List Int):List Int→List Nat→List Nat
 | _,[]=>[]
 | bs,c :: w=>if hit f bs c then fs f (bs ++ f c) w else c :: fs f (bs ++ f c) w
noncomputable def rs (f:Nat→List Int):List Int→List Nat→List Nat
 | _,[]=>[]
 | bs,c :: w=>if hit f bs c then c :: rs f (bs ++ f c) w else rs f (bs ++ f c) w
noncomputable def srt (cs:List Nat):List Nat:=cs.mergeSort fun a b=>decide (a≤b)
noncomputable def stp (f:Nat→List Int):Nat→List Nat→List (List Nat)
 | 0,_=>[]
 | n + 1,w=>if w.isEmpty then [] else srt (fs f [] w) :: stp f n (rs f [] w)
variable {f:Nat→List Int}
theorem Cg {bs:List Int} {c:Nat}:hit f bs c = true↔∃ x∈f c,x∈bs:=by simp [hit]
theorem Oq {bs bs':List Int} (h:∀ x,x∈bs↔x∈bs') (c:Nat):hit f bs c = hit f bs' c:=by
 rw [Bool.eq_iff_iff,Cg,Cg]; simp [h]
theorem Pt:∀ (w:List Nat) {bs bs':List Int},(∀ x,x∈bs↔x∈bs')→fs f bs w = fs f bs' w∧rs f bs w = rs f bs' w:=by
 intro w
 induction w with
 | nil=>intro bs bs' h; exact ⟨rfl,rfl⟩
 | cons c w ih =>
  intro bs bs' h
  have h2:=ih (bs:=bs ++ f c) (bs':=bs' ++ f c) fun x=>by simp [h]
  simp only [fs,rs,Oq h c,h2.1,h2.2]
  exact ⟨trivial,trivial⟩
theorem UC {x:Int}:∀ (w:List Nat) {bs:List Int},x∈bs→∀ c∈fs f bs w,x ∉ f c:=by
 intro w
 induction w with
 | nil=>intro bs _ c hc; simp [fs] at hc
 | cons d w ih =>
  intro bs hx c hc hxc
  have hx':x∈bs ++ f d:=mem_append_left _ hx
  simp only [fs] at hc
  split at hc
  ·exact ih hx' c hc hxc
  ·rename_i hn
   rcases mem_cons.mp hc with rfl | hc
   ·exact hn (Cg.mpr ⟨x,hxc,hx⟩)
   ·exact ih hx' c hc hxc
noncomputable def seen (f:Nat→List Int) (x:Int) (w:List Nat):List Nat:=w.filter fun c=>decide (x∈f c)
theorem L0 {x:Int} {bs:List Int} (w:List Nat) (hx:x∈bs):seen f x (fs f bs w) = []:=by
 rw [seen,List.filter_eq_nil_iff]
 intro c hc
 simp [UC w hx c hc]
theorem BA (x:Int) (c:Nat) (w:List Nat):seen f x (c :: w) = if x∈f c then c :: seen f x w else seen f x w:=by
 simp [seen,List.filter_cons]
theorem DV (x:Int) (u w:List Nat):seen f x (u ++ w) = seen f x u ++ seen f x w:=by simp [seen]
theorem QT (x:Int):∀ (w:List Nat) (bs:List Int),seen f x w = seen f x (fs f bs w) ++ seen f x (rs f bs w):=by
 intro w
 induction w with
 | nil=>intro bs; simp [fs,rs,seen]
 | cons c w ih =>
  intro bs
  have h:=ih (bs ++ f c)
  by_cases hx:x∈f c
  ·have h0:=L0 (f:=f) w (mem_append_right bs hx)
   rw [h0] at h
   simp only [fs,rs]
   split <;> simp only [BA,hx,if_true,h0,h,nil_append,cons_append]
  ·simp only [fs,rs]
   split <;> simp only [BA,hx,if_false,h]
theorem QU (x:Int):∀ (w:List Nat) (bs:List Int),(seen f x (fs f bs w)).length≤1:=by
 intro w
 induction w with
 | nil=>intro bs; simp [fs,seen]
 | cons c w ih =>
  intro bs
  simp only [fs]
  split
  ·exact ih _
  ·by_cases hx:x∈f c
   ·rw [BA,if_pos hx,L0 w (mem_append_right bs hx)]; simp
   ·rw [BA,if_neg hx]; exact ih _
theorem Ex (cs:List Nat):(srt cs).Perm cs:=List.mergeSort_perm cs _
theorem KO (cs:List Nat):(srt cs).Pairwise (· ≤ ·):=by
 have:=List.pairwise_mergeSort (le:=fun a b:Nat=>decide (a≤b)) (fun a b c h1 h2=>by simp at h1 h2 ⊢; lia) (fun a b=>by simp; lia) cs
 exact this.imp fun h=>by simpa using h
theorem Q1 {xs ys:List Nat} (p:xs.Perm ys):srt xs = srt ys:=
 ((Ex xs).trans (p.trans (Ex ys).symm)).eq_of_pairwise (fun a b _ _ h1 h2=>Nat.le_antisymm h1 h2) (KO xs) (KO ys)
theorem M6 {α:Type} {xs ys:List α} (p:xs.Perm ys) (h:ys.length≤1):xs = ys:=by
 have hl:=p.length_eq
 cases ys with
 | nil=>exact length_eq_zero_iff.mp hl
 | cons y ys =>
  have:ys = []:=length_eq_zero_iff.mp (by rw [length_cons] at h; lia)
  subst this
  exact List.perm_singleton.mp p
theorem QV (x:Int) (w:List Nat) (bs:List Int):seen f x (srt (fs f bs w)) = seen f x (fs f bs w):=
 M6 ((Ex _).filter _) (QU x w bs)
theorem Gm {c:Nat} {w:List Nat}:fs f [] (c :: w) = c :: fs f (f c) w∧rs f [] (c :: w) = rs f (f c) w:=by
 have:hit f [] c = false:=by simp [hit]
 simp [fs,rs,this]
theorem MV:∀ (w:List Nat) (bs:List Int),(rs f bs w).length≤w.length:=by
 intro w
 induction w with
 | nil=>intro bs; simp [rs]
 | cons c w ih =>
  intro bs
  have:=ih (bs ++ f c)
  simp only [rs]
  split <;> simp <;> lia
theorem UA:∀ (w:List Nat) (bs:List Int),(fs f bs w).length≤w.length:=by
 intro w
 induction w with
 | nil=>intro bs; simp [fs]
 | cons c w ih =>
  intro bs
  have:=ih (bs ++ f c)
  simp only [fs]
  split <;> simp <;> lia
theorem L7 (x:Int):∀ (n:Nat) (w:List Nat),w.length≤n→seen f x (stp f n w).flatten = seen f x w:=by
 intro n
 induction n with
 | zero =>
  intro w h
  have:w = []:=length_eq_zero_iff.mp (by lia)
  subst this; rfl
 | succ n ih =>
  intro w h
  cases w with
  | nil=>rfl
  | cons c w =>
   have hl:(rs f [] (c :: w)).length≤n:=by
    rw [Gm.2]; have:=MV (f:=f) w (f c); simp at h; lia
   have h2:=ih _ hl
   simp only [stp,List.isEmpty_cons,false_eq_true,if_false,List.flatten_cons,DV,h2,QV]
   exact (QT x (c :: w) []).symm
noncomputable def Cm (f:Nat→List Int) (a b:Nat):Prop:=∃ x∈f a,x∈f b
theorem Cm.symm {a b:Nat} (h:Cm f a b):Cm f b a:=let ⟨x,h1,h2⟩:=h; ⟨x,h2,h1⟩
theorem Ia:∀ (w:List Nat) (bs:List Int),∀ c∈fs f bs w,c∈w:=by
 intro w
 induction w with
 | nil=>intro bs c h; simp [fs] at h
 | cons d w ih =>
  intro bs c h
  simp only [fs] at h
  split at h
  ·exact mem_cons_of_mem _ (ih _ c h)
  ·rcases mem_cons.mp h with rfl | h
   ·exact mem_cons_self
   ·exact mem_cons_of_mem _ (ih _ c h)
theorem V1:∀ (w:List Nat) (bs:List Int),∀ c∈rs f bs w,c∈w:=by
 intro w
 induction w with
 | nil=>intro bs c h; simp [rs] at h
 | cons d w ih =>
  intro bs c h
  simp only [rs] at h
  split at h
  ·rcases mem_cons.mp h with rfl | h
   ·exact mem_cons_self
   ·exact mem_cons_of_mem _ (ih _ c h)
  ·exact mem_cons_of_mem _ (ih _ c h)
inductive Sw (f:Nat→List Int):List Nat→List Nat→Prop where
 | refl (w:List Nat):Sw f w w
 | swap (a b:Nat) (v:List Nat) (h:¬ Cm f a b):Sw f (a :: b :: v) (b :: a :: v)
 | cons (c:Nat) {w w':List Nat} (h:Sw f w w'):Sw f (c :: w) (c :: w')
theorem Nw {bs:List Int} {a b:Nat} (h:¬ Cm f a b):hit f (bs ++ f b) a = hit f bs a:=by
 rw [Bool.eq_iff_iff,Cg,Cg]
 constructor
 ·rintro ⟨x,h1,h2⟩
  rcases mem_append.mp h2 with h2 | h2
  ·exact ⟨x,h1,h2⟩
  ·exact absurd ⟨x,h1,h2⟩ h
 ·rintro ⟨x,h1,h2⟩
  exact ⟨x,h1,mem_append_left _ h2⟩
theorem Q4 {w w':List Nat} (h:Sw f w w'):∀ bs:List Int,(fs f bs w).Perm (fs f bs w')∧Sw f (rs f bs w) (rs f bs w'):=by
 induction h with
 | refl w=>exact fun bs=>⟨.refl _,.refl _⟩
 | swap a b v h =>
  intro bs
  have h1:=Nw (bs:=bs) h
  have h2:=Nw (bs:=bs) (fun z=>h (Cm.symm z))
  have h3:=Pt (f:=f) v (bs:=bs ++ f a ++ f b) (bs':=bs ++ f b ++ f a) fun x=>by simp only [mem_append]; exact or_right_comm
  simp only [fs,rs,h1,h2,h3.1,h3.2]
  cases hit f bs a <;> cases hit f bs b <;> simp only [false_eq_true,if_true,if_false]
  ·exact ⟨.swap _ _ _,.refl _⟩
  ·exact ⟨.refl _,.refl _⟩
  ·exact ⟨.refl _,.refl _⟩
  ·exact ⟨.refl _,.swap _ _ _ h⟩
 | cons c h ih =>
  intro bs
  obtain ⟨p,q⟩:=ih (bs ++ f c)
  simp only [fs,rs]
  split
  ·exact ⟨p,.cons _ q⟩
  ·exact ⟨p.cons _,q⟩
theorem Mb {w w':List Nat} (h:Sw f w w'):w.isEmpty = w'.isEmpty:=by cases h <;> rfl
theorem Wb {w w':List Nat} (h:Sw f w w'):w.length = w'.length:=by
 induction h with
 | refl w=>rfl
 | swap a b v h=>rfl
 | cons c h ih=>simp [ih]
theorem Wc {w w':List Nat} (h:Sw f w w'):∀ c,c∈w↔c∈w':=by
 induction h with
 | refl w=>exact fun _=>Iff.rfl
 | swap a b v h=>intro c; simp only [mem_cons]; exact or_left_comm
 | cons c h ih=>intro d; simp only [mem_cons,ih d]
theorem Wd:∀ (n:Nat) {w w':List Nat},Sw f w w'→stp f n w = stp f n w':=by
 intro n
 induction n with
 | zero=>intro w w' h; rfl
 | succ n ih =>
  intro w w' h
  obtain ⟨p,q⟩:=Q4 h []
  simp only [stp,Mb h,Q1 p,ih q]
noncomputable def pl (f:Nat→List Int):List Int→Nat→List Nat→List Nat
 | _,_,[]=>[]
 | bs,k,c :: w=>if hit f bs c then pl f (bs ++ f c) (k + 1) w else k :: pl f (bs ++ f c) (k + 1) w
theorem Xj:∀ (w:List Nat) (bs:List Int) (k:Nat),∀ i∈pl f bs k w,k≤i:=by
 intro w
 induction w with
 | nil=>intro bs k i h; simp [pl] at h
 | cons c w ih =>
  intro bs k i h
  simp only [pl] at h
  split at h
  ·have:=ih _ _ i h; lia
  ·rcases mem_cons.mp h with rfl | h
   ·exact le_refl _
   ·have:=ih _ _ i h; lia
theorem IG:∀ (w:List Nat) (bs:List Int) (k:Nat),((List.range' k w.length).filter fun i=>decide (i∈pl f bs k w)) = pl f bs k w∧(pl f bs k w).map (fun i=>w.getD (i - k) 0) = fs f bs w∧(((List.range' k w.length).filter fun i=>!decide (i∈pl f bs k w)).map fun i=>w.getD (i - k) 0) = rs f bs w:=by
 intro w
 induction w with
 | nil=>intro bs k; simp [pl,fs,rs]
 | cons c w ih =>
  intro bs k
  obtain ⟨h1,h2,h3⟩:=ih (bs ++ f c) (k + 1)
  have ge:=Xj (f:=f) w (bs ++ f c) (k + 1)
  have nk:k ∉ pl f (bs ++ f c) (k + 1) w:=fun z=>by have:=ge k z; lia
  have r1:∀ i∈List.range' (k + 1) w.length,k + 1≤i:=fun i hi=>by rw [List.mem_range'] at hi; obtain ⟨j,_,rfl⟩:=hi; lia
  have sub:∀ l:List Nat,(∀ i∈l,k + 1≤i)→l.map (fun i=>(c :: w).getD (i - k) 0) = l.map fun i=>w.getD (i - (k + 1)) 0:=fun l hl=>List.map_congr_left fun i hi=>by
   have:=hl i hi
   rw [show i - k = (i - (k + 1)) + 1 by lia,List.getD_cons_succ]
  simp only [pl,fs,rs,length_cons,List.range'_succ]
  by_cases hh:hit f bs c = true
  ·simp only [if_pos hh]
   rw [List.filter_cons_of_neg (by simpa using nk),List.filter_cons_of_pos (by simpa using nk),h1]
   refine ⟨rfl,?_,?_⟩
   ·rw [sub _ ge]; exact h2
   ·rw [map_cons,sub _ (fun i hi=>r1 i (mem_filter.mp hi).1),h3]; simp
  ·simp only [if_neg hh]
   have e1:((List.range' (k + 1) w.length).filter fun i=>decide (i∈k :: pl f (bs ++ f c) (k + 1) w)) = (List.range' (k + 1) w.length).filter fun i=>decide (i∈pl f (bs ++ f c) (k + 1) w):=List.filter_congr fun i hi=>by
    have:=r1 i hi
    have hik:i≠k:=by lia
    simp [hik]
   have e2:((List.range' (k + 1) w.length).filter fun i=>!decide (i∈k :: pl f (bs ++ f c) (k + 1) w)) = (List.range' (k + 1) w.length).filter fun i=>!decide (i∈pl f (bs ++ f c) (k + 1) w):=List.filter_congr fun i hi=>by
    have:=r1 i hi
    have hik:i≠k:=by lia
    simp [hik]
   rw [List.filter_cons_of_pos (by simp),List.filter_cons_of_neg (by simp),e1,e2,h1]
   refine ⟨rfl,?_,?_⟩
   ·rw [map_cons,sub _ ge,h2]; simp
   ·rw [sub _ (fun i hi=>r1 i (mem_filter.mp hi).1),h3]
end St
end
section
namespace St
variable {f:Nat→List Int}
noncomputable def lst (cs:List Nat):Nat:=(srt cs).headD 0
noncomputable def lr (f:Nat→List Int):Nat→List Nat→List Nat
 | 0,_=>[]
 | n + 1,w=>if w.isEmpty then [] else lst (fs f [] w) :: lr f n (w.erase (lst (fs f [] w)))
theorem P6 {xs ys:List Nat} (p:xs.Perm ys):lst xs = lst ys:=by rw [lst,lst,Q1 p]
theorem D5 {xs:List Nat} (h:xs≠[]):lst xs∈xs∧∀ y∈xs,lst xs≤y:=by
 have p:=Ex xs
 have hs:=KO xs
 unfold lst
 cases e:srt xs with
 | nil=>rw [e] at p; exact absurd p.symm.eq_nil h
 | cons a r =>
  rw [e] at p hs
  refine ⟨p.mem_iff.mp mem_cons_self,fun y hy=>?_⟩
  rcases mem_cons.mp (p.mem_iff.mpr hy) with rfl | hr
  ·exact le_refl _
  ·exact (pairwise_cons.mp hs).1 y hr
theorem P5 {xs:List Nat} {a:Nat} (h1:a∈xs) (h2:∀ y∈xs,a≤y):lst xs = a:=by
 obtain ⟨h3,h4⟩:=D5 (List.ne_nil_of_mem h1)
 exact Nat.le_antisymm (h4 a h1) (h2 _ h3)
theorem Q5 {w w':List Nat} (h:Sw f w w') (a:Nat):Sw f (w.erase a) (w'.erase a):=by
 induction h with
 | refl w=>exact .refl _
 | swap x y v h =>
  by_cases hx:x = a
  ·by_cases hy:y = a
   ·subst hx; subst hy; exact .refl _
   ·subst hx
    rw [erase_cons_head,erase_cons_tail (by simpa using hy),erase_cons_head]
    exact .refl _
  ·by_cases hy:y = a
   ·subst hy
    rw [erase_cons_tail (by simpa using hx),erase_cons_head,erase_cons_head]
    exact .refl _
   ·rw [erase_cons_tail (by simpa using hx),erase_cons_tail (by simpa using hy),erase_cons_tail (by simpa using hy),erase_cons_tail (by simpa using hx)]
    exact .swap _ _ _ h
 | cons c h ih =>
  by_cases hc:c = a
  ·subst hc; rw [erase_cons_head,erase_cons_head]; exact h
  ·rw [erase_cons_tail (by simpa using hc),erase_cons_tail (by simpa using hc)]; exact .cons _ ih
theorem Xx:∀ (n:Nat) {w w':List Nat},Sw f w w'→lr f n w = lr f n w':=by
 intro n
 induction n with
 | zero=>intro w w' h; rfl
 | succ n ih =>
  intro w w' h
  have e:=P6 (Q4 h []).1
  simp only [lr,Mb h,e,ih (Q5 h _)]
inductive Swc (f:Nat→List Int):List Nat→List Nat→Prop where
 | refl (w:List Nat):Swc f w w
 | step {u v w:List Nat} (h:Sw f u v) (t:Swc f v w):Swc f u w
theorem Swc.trans {u v w:List Nat} (h:Swc f u v) (t:Swc f v w):Swc f u w:=by
 induction h with
 | refl u=>exact t
 | step h _ ih=>exact .step h (ih t)
theorem Swc.cons (c:Nat) {u v:List Nat} (h:Swc f u v):Swc f (c :: u) (c :: v):=by
 induction h with
 | refl u=>exact .refl _
 | step h _ ih=>exact .step (.cons c h) ih
theorem We {u v:List Nat} (n:Nat) (h:Swc f u v):lr f n u = lr f n v:=by
 induction h with
 | refl u=>rfl
 | step h _ ih=>rw [Xx n h,ih]
theorem To {u v:List Nat} (h:Swc f u v):u.length = v.length:=by
 induction h with
 | refl u=>rfl
 | step h _ ih=>rw [Wb h,ih]
theorem Tp {u v:List Nat} (h:Swc f u v):∀ c,c∈u↔c∈v:=by
 induction h with
 | refl u=>exact fun _=>Iff.rfl
 | step h _ ih=>exact fun c=>(Wc h c).trans (ih c)
theorem Tn {u v:List Nat} (h:Sw f u v) (x:Int):seen f x u = seen f x v:=by
 induction h with
 | refl u=>rfl
 | swap a b v h =>
  simp only [BA]
  by_cases ha:x∈f a
  ·have hb:x ∉ f b:=fun z=>h ⟨x,ha,z⟩
   simp only [ha,hb,if_true,if_false]
  ·simp only [ha,if_false]
 | cons c h ih=>simp only [BA,ih]
theorem Mc {u v:List Nat} (h:Swc f u v) (x:Int):seen f x u = seen f x v:=by
 induction h with
 | refl u=>rfl
 | step h _ ih=>rw [Tn h,ih]
theorem O1 (a:Nat) (v:List Nat):∀ (u:List Nat),(∀ d∈u,¬ Cm f d a)→Swc f (u ++ a :: v) (a :: (u ++ v)):=by
 intro u
 induction u with
 | nil=>intro _; exact .refl _
 | cons d u ih =>
  intro h
  have h2:=ih fun e he=>h e (mem_cons_of_mem _ he)
  exact (Swc.cons d h2).trans (.step (.swap d a _ (h d mem_cons_self)) (.refl _))
theorem Pu:∀ (w:List Nat) (bs:List Int),∀ c∈fs f bs w,∃ u v,w = u ++ c :: v∧(∀ d∈u,¬ Cm f d c)∧hit f bs c = false:=by
 intro w
 induction w with
 | nil=>intro bs c h; simp [fs] at h
 | cons d w ih =>
  intro bs c h
  have key:c∈fs f (bs ++ f d) w→∃ u v,d :: w = u ++ c :: v∧(∀ d∈u,¬ Cm f d c)∧hit f bs c = false:=fun h=>by
   obtain ⟨u,v,e,h1,h2⟩:=ih _ c h
   have nh:∀ x∈f c,x ∉ bs∧x ∉ f d:=fun x hx=>by
    constructor
    ·intro z
     have:hit f (bs ++ f d) c = true:=Cg.mpr ⟨x,hx,mem_append_left _ z⟩
     rw [h2] at this; cases this
    ·intro z
     have:hit f (bs ++ f d) c = true:=Cg.mpr ⟨x,hx,mem_append_right _ z⟩
     rw [h2] at this; cases this
   refine ⟨d :: u,v,by rw [e]; rfl,fun g hg=>?_,?_⟩
   ·rcases mem_cons.mp hg with rfl | hg
    ·rintro ⟨x,hx,hx2⟩; exact (nh x hx2).2 hx
    ·exact h1 g hg
   ·rw [Bool.eq_false_iff,Ne,Cg]
    rintro ⟨x,hx,hx2⟩; exact (nh x hx).1 hx2
  simp only [fs] at h
  split at h
  ·exact key h
  ·rename_i hn
   rcases mem_cons.mp h with rfl | h
   ·exact ⟨[],w,rfl,fun _ h=>by simp at h,by simpa using hn⟩
   ·exact key h
theorem UB:∀ (u:List Nat) (c:Nat) (v:List Nat) (bs:List Int),(∀ d∈u,¬ Cm f d c)→hit f bs c = false→c∈fs f bs (u ++ c :: v):=by
 intro u
 induction u with
 | nil=>intro c v bs _ h; simp [fs,h]
 | cons d u ih =>
  intro c v bs h1 h2
  have h3:hit f (bs ++ f d) c = false:=by
   rw [Bool.eq_false_iff,Ne,Cg]
   rintro ⟨x,hx,hx2⟩
   rcases mem_append.mp hx2 with z | z
   ·have:hit f bs c = true:=Cg.mpr ⟨x,hx,z⟩
    rw [h2] at this; cases this
   ·exact h1 d mem_cons_self ⟨x,z,hx⟩
  have:=ih c v (bs ++ f d) (fun e he=>h1 e (mem_cons_of_mem _ he)) h3
  simp only [cons_append,fs]
  split
  ·exact this
  ·exact mem_cons_of_mem _ this
theorem Dj {u v:List Nat} {c:Nat} (h:c ∉ u):(u ++ c :: v).erase c = u ++ v:=by
 rw [List.erase_append_right _ h,erase_cons_head]
theorem Nr {c:Nat} {w:List Nat}:fs f [] (c :: w)≠[]:=by rw [Gm.1]; simp
theorem Fw {w:List Nat} {c:Nat} (hw:∀ d∈w,f d≠[]) (h:c∈fs f [] w):∃ u v,w = u ++ c :: v∧(∀ d∈u,¬ Cm f d c)∧c ∉ u:=by
 obtain ⟨u,v,e,h1,_⟩:=Pu w [] c h
 refine ⟨u,v,e,h1,fun z=>?_⟩
 obtain ⟨x,r,hx⟩:=exists_cons_of_ne_nil (hw c (by rw [e]; simp))
 exact h1 c z ⟨x,by rw [hx]; simp,by rw [hx]; simp⟩
theorem DX:∀ (n:Nat) (w:List Nat),w.length≤n→(∀ d∈w,f d≠[])→Swc f w (lr f n w):=by
 intro n
 induction n with
 | zero =>
  intro w h _
  have:w = []:=length_eq_zero_iff.mp (by lia)
  subst this; exact .refl _
 | succ n ih =>
  intro w h hw
  cases w with
  | nil=>exact .refl _
  | cons c w =>
   obtain ⟨hm,_⟩:=D5 (Nr (f:=f) (c:=c) (w:=w))
   obtain ⟨u,v,e,h1,h2⟩:=Fw hw hm
   have ee:(c :: w).erase (lst (fs f [] (c :: w))) = u ++ v:=(congrArg (fun z=>List.erase z (lst (fs f [] (c :: w)))) e).trans (Dj h2)
   have es:lr f (n + 1) (c :: w) = lst (fs f [] (c :: w)) :: lr f n (u ++ v):=by simp only [lr,List.isEmpty_cons,false_eq_true,if_false,ee]
   rw [es]
   generalize lst (fs f [] (c :: w)) = a at e h1
   have hl:(u ++ v).length≤n:=by
    have:=congrArg List.length e
    simp at this h ⊢
    lia
   have t:=ih (u ++ v) hl fun d hd=>hw d (by rw [e]; rcases mem_append.mp hd with z | z <;> simp [z])
   rw [e]
   exact (O1 a v u h1).trans (.cons a t)
theorem P4 {n:Nat} {w:List Nat} (h:w.length≤n) (hw:∀ d∈w,f d≠[]):(lr f n w).length = w.length:=(To (DX n w h hw)).symm
theorem LQ:∀ (w:List Nat) (bs:List Int) (k:Nat),∀ i∈pl f bs k w,∃ u v c,w = u ++ c :: v∧u.length = i - k∧k≤i∧(∀ d∈u,¬ Cm f d c)∧hit f bs c = false:=by
 intro w
 induction w with
 | nil=>intro bs k i h; simp [pl] at h
 | cons d w ih =>
  intro bs k i h
  have key:i∈pl f (bs ++ f d) (k + 1) w→∃ u v c,d :: w = u ++ c :: v∧u.length = i - k∧k≤i∧(∀ d∈u,¬ Cm f d c)∧hit f bs c = false:=fun h=>by
   obtain ⟨u,v,c,e,h1,h2,h3,h4⟩:=ih _ _ i h
   have nh:∀ x∈f c,x ∉ bs∧x ∉ f d:=fun x hx=>by
    constructor
    ·intro z
     have:hit f (bs ++ f d) c = true:=Cg.mpr ⟨x,hx,mem_append_left _ z⟩
     rw [h4] at this; cases this
    ·intro z
     have:hit f (bs ++ f d) c = true:=Cg.mpr ⟨x,hx,mem_append_right _ z⟩
     rw [h4] at this; cases this
   refine ⟨d :: u,v,c,by rw [e]; rfl,by simp; lia,by lia,fun g hg=>?_,?_⟩
   ·rcases mem_cons.mp hg with rfl | hg
    ·rintro ⟨x,hx,hx2⟩; exact (nh x hx2).2 hx
    ·exact h3 g hg
   ·rw [Bool.eq_false_iff,Ne,Cg]
    rintro ⟨x,hx,hx2⟩; exact (nh x hx).1 hx2
  simp only [pl] at h
  split at h
  ·exact key h
  ·rename_i hn
   rcases mem_cons.mp h with rfl | h
   ·exact ⟨[],w,d,rfl,by simp,le_refl _,fun _ h=>by simp at h,by simpa using hn⟩
   ·exact key h
theorem Qt {w:List Nat} (hw:∀ d∈w,f d≠[]) {i:Nat} (h:i∈pl f [] 0 w):i < w.length∧w.take i ++ w.drop (i + 1) = w.erase (w.getD i 0):=by
 obtain ⟨u,v,c,e,h1,_,h3,_⟩:=LQ w [] 0 i h
 have hu:u.length = i:=by lia
 have hc:c ∉ u:=fun z=>by
  obtain ⟨x,r,hx⟩:=exists_cons_of_ne_nil (hw c (by rw [e]; simp))
  exact h3 c z ⟨x,by rw [hx]; simp,by rw [hx]; simp⟩
 subst hu
 have eg:w.getD u.length 0 = c:=by rw [e]; simp
 rw [eg]
 refine ⟨by rw [e]; simp,?_⟩
 rw [e,Dj hc]
 simp
end St
end
section
namespace St
variable {f:Nat→List Int}
theorem EN (t:Nat) {w:List Nat} (h:w≠[]):lr f (t + 1) w = lst (fs f [] w) :: lr f t (w.erase (lst (fs f [] w))):=by
 cases w with
 | nil=>exact absurd rfl h
 | cons c w=>simp [lr]
theorem Kc {w:List Nat} (h:w≠[]):fs f [] w≠[]:=by
 obtain ⟨c,r,rfl⟩:=exists_cons_of_ne_nil h
 exact Nr
theorem pick {w:List Nat} (h0:w≠[]) (hw:∀ d∈w,f d≠[]):∃ u v,w = u ++ lst (fs f [] w) :: v∧(∀ d∈u,¬ Cm f d (lst (fs f [] w)))∧lst (fs f [] w) ∉ u:=
 Fw hw (D5 (Kc h0)).1
noncomputable def fpl (f:Nat→List Int) (w:List Nat):Nat:=w.idxOf (lst (fs f [] w))
theorem HA {u v:List Nat} {c:Nat} (h:c ∉ u):(u ++ c :: v).idxOf c = u.length:=by
 rw [List.idxOf_append,if_neg h]; simp
noncomputable def dn (d k:Nat):List Nat:=(List.range k).map fun i=>d + k - 1 - i
noncomputable def exs (f:Nat→List Int):Nat→Nat→List Nat→List Nat
 | 0,_,_=>[]
 | t + 1,d,w=>if w.isEmpty then [] else dn d (fpl f w) ++ exs f t (d + 1) (w.erase (lst (fs f [] w)))
theorem Gk (t d:Nat) {w:List Nat} (h:w≠[]):exs f (t + 1) d w = dn d (fpl f w) ++ exs f t (d + 1) (w.erase (lst (fs f [] w))):=by
 cases w with
 | nil=>exact absurd rfl h
 | cons c w=>simp [exs]
theorem Hz (t d:Nat):exs f t d [] = []:=by cases t <;> simp [exs]
noncomputable def swp (p:Nat) (w:List Nat):List Nat:=w.take p ++ ((w.drop p).take 2).reverse ++ w.drop (p + 2)
noncomputable def okP (f:Nat→List Int) (p:Nat) (w:List Nat):Prop:=p + 1 < w.length∧¬ Cm f (w.getD p 0) (w.getD (p + 1) 0)
inductive Walks (f:Nat→List Int):List Nat→List Nat→List Nat→Prop
 | nil (w:List Nat):Walks f w [] w
 | cons {w:List Nat} {p:Nat} {ps w':List Nat}:okP f p w→Walks f (swp p w) ps w'→Walks f w (p :: ps) w'
theorem Walks.app {u v w ps qs:List Nat} (h:Walks f u ps v) (t:Walks f v qs w):Walks f u (ps ++ qs) w:=by
 induction h with
 | nil _=>exact t
 | cons o _ ih=>exact .cons o (ih t)
theorem KQ (a:List Nat) (x c:Nat) (v:List Nat):swp a.length (a ++ x :: c :: v) = a ++ c :: x :: v:=by
 unfold swp
 rw [List.take_left,List.drop_left,show a.length + 2 = (a ++ [x,c]).length by simp,show a ++ x :: c :: v = (a ++ [x,c]) ++ v by simp,List.drop_left]
 simp
theorem RF (d k:Nat):dn d (k + 1) = (d + k) :: dn d k:=by
 unfold dn
 rw [List.range_succ_eq_map,map_cons,map_map]
 refine List.cons_eq_cons.mpr ⟨by simp,List.map_congr_left fun i _=>?_⟩
 simp only [Function.comp_apply]
 lia
theorem Ni (made:List Nat) (c:Nat):∀ (n:Nat) (u v:List Nat),u.length = n→(∀ d∈u,¬ Cm f d c)→Walks f (made ++ (u ++ c :: v)) (dn made.length n) (made ++ (c :: (u ++ v))):=by
 intro n
 induction n with
 | zero =>
  intro u v h _
  have:u = []:=length_eq_zero_iff.mp h
  subst this
  exact .nil _
 | succ n ih =>
  intro u v h hu
  obtain ⟨u',x,rfl⟩:∃ u' x,u = u' ++ [x]:=by
   rcases List.eq_nil_or_concat u with e | ⟨u',x,e⟩
   ·rw [e] at h; cases h
   ·exact ⟨u',x,by simpa using e⟩
  have hl:u'.length = n:=by simpa using h
  have e1:made ++ (u' ++ [x] ++ c :: v) = (made ++ u') ++ x :: c :: v:=by simp
  have e2:(made ++ u').length = made.length + n:=by simp [hl]
  rw [RF,e1,← e2]
  refine .cons ⟨by simp only [length_append,length_cons]; lia,?_⟩ ?_
  ·have gm:∀ (a:List Nat) (y:Nat) (z:List Nat),(a ++ y :: z).getD a.length 0 = y:=fun a y z=>by simp [getD_eq_getElem?_getD]
   have g1:((made ++ u') ++ x :: c :: v).getD (made ++ u').length 0 = x:=gm _ _ _
   have g2:((made ++ u') ++ x :: c :: v).getD ((made ++ u').length + 1) 0 = c:=by
    rw [show (made ++ u') ++ x :: c :: v = (made ++ u' ++ [x]) ++ c :: v by simp,show (made ++ u').length + 1 = (made ++ u' ++ [x]).length by simp [Nat.add_assoc]]
    exact gm _ _ _
   rw [g1,g2]
   exact hu x (by simp)
  ·rw [KQ]
   have:=ih u' (x :: v) hl fun d hd=>hu d (by simp [hd])
   simpa using this
theorem HX:∀ (t:Nat) (w made:List Nat),w.length≤t→(∀ d∈w,f d≠[])→Walks f (made ++ w) (exs f t made.length w) (made ++ lr f t w):=by
 intro t
 induction t with
 | zero =>
  intro w made h _
  have:w = []:=length_eq_zero_iff.mp (by lia)
  subst this
  exact .nil _
 | succ t ih =>
  intro w made h hw
  by_cases h0:w = []
  ·subst h0
   rw [Hz]
   exact .nil _
  ·obtain ⟨u,v,e,hu,hc⟩:=pick (f:=f) h0 hw
   rw [Gk t _ h0,EN t h0]
   have ek:fpl f w = u.length:=by
    unfold fpl
    generalize lst (fs f [] w) = c at e hc
    rw [e]; exact HA hc
   have ee:w.erase (lst (fs f [] w)) = u ++ v:=by
    generalize lst (fs f [] w) = c at e hc
    rw [e]; exact Dj hc
   rw [ek,ee]
   generalize lst (fs f [] w) = c at e hc hu
   subst e
   refine (Ni made c u.length u v rfl hu).app ?_
   have:=ih (u ++ v) (made ++ [c]) (by simp at h ⊢; lia) fun d hd=>hw d (by rcases mem_append.mp hd with z | z <;> simp [z])
   simpa using this
theorem RJ:∀ (t:Nat) (l:List Nat) (d:Nat),l.length≤t→lr f t l = l→exs f t d l = []:=by
 intro t
 induction t with
 | zero=>intro l d _ _; rfl
 | succ t ih =>
  intro l d h e
  cases l with
  | nil=>exact Hz _ _
  | cons c l =>
   rw [EN t (by simp),List.cons_eq_cons] at e
   obtain ⟨e1,e2⟩:=e
   rw [Gk t d (by simp)]
   unfold fpl
   rw [e1] at e2 ⊢
   rw [erase_cons_head] at e2 ⊢
   rw [ih l (d + 1) (by simpa using h) e2]
   simp [dn]
theorem Kh:∀ (t:Nat) (w:List Nat),w.length≤t→(lr f t w).Perm w:=by
 intro t
 induction t with
 | zero =>
  intro w h
  have:w = []:=length_eq_zero_iff.mp (by lia)
  subst this; exact .nil
 | succ t ih =>
  intro w h
  by_cases h0:w = []
  ·subst h0; exact .nil
  ·rw [EN t h0]
   have hm:=Ia w [] _ (D5 (Kc (f:=f) h0)).1
   have hl:=List.length_erase_of_mem hm
   exact ((ih _ (by lia)).cons _).trans (List.perm_cons_erase hm).symm
noncomputable def occ:Nat→List Nat→Nat→List Nat
 | _,[],_=>[]
 | k,a :: l,c=>if a = c then k :: occ (k + 1) l c else occ (k + 1) l c
theorem OG (c:Nat):∀ (l:List Nat) (k:Nat),occ (k + 1) l c = (occ k l c).map (· + 1):=by
 intro l
 induction l with
 | nil=>intro k; rfl
 | cons b l ih=>intro k; simp only [occ,ih]; split <;> simp
theorem R9 (c:Nat):∀ (l:List Nat) (k:Nat),(occ k l c).length = l.count c:=by
 intro l
 induction l with
 | nil=>intro k; rfl
 | cons b l ih=>intro k; simp only [occ,List.count_cons]; split <;> simp_all
noncomputable def sp (low:List Nat):List Nat→List Nat→List Nat
 | _,[]=>[]
 | pre,d :: w=>(occ 0 low d).getD (pre.count d) 0 :: sp low (pre ++ [d]) w
theorem KN (low:List Nat):∀ (u pre v:List Nat),sp low pre (u ++ v) = sp low pre u ++ sp low (pre ++ u) v:=by
 intro u
 induction u with
 | nil=>intro pre v; simp [sp]
 | cons d u ih=>intro pre v; simp [sp,ih]
theorem V9 (low:List Nat):∀ (u pre:List Nat),(sp low pre u).length = u.length:=by
 intro u
 induction u with
 | nil=>intro pre; rfl
 | cons d u ih=>intro pre; simp [sp,ih]
theorem Om {l:List Nat} {i:Nat} (h:i < l.length):(l.map (· + 1)).getD i 0 = l.getD i 0 + 1:=by
 simp [getD_eq_getElem?_getD,h]
theorem N5 (c:Nat) (l:List Nat):∀ (w pre pre':List Nat),(∀ d∈w,pre'.count d = pre.count d + if d = c then 1 else 0)→(∀ d,(pre ++ w).count d≤l.count d)→sp (c :: l) pre' w = (sp l pre w).map (· + 1):=by
 intro w
 induction w with
 | nil=>intro pre pre' _ _; rfl
 | cons d w ih =>
  intro pre pre' h1 h2
  have hi:pre.count d < (occ 0 l d).length:=by
   have:=h2 d
   rw [R9]
   simp at this
   lia
  have hd:=h1 d (by simp)
  simp only [sp,map_cons]
  refine List.cons_eq_cons.mpr ⟨?_,ih (pre ++ [d]) (pre' ++ [d]) (fun e he=>?_) fun e=>?_⟩
  ·rw [← Om hi,← OG,hd]
   by_cases e:c = d
   ·subst e
    simp [occ]
   ·simp [occ,e,Ne.symm e]
  ·rw [count_append,count_append,h1 e (by simp [he])]
   lia
  ·have:=h2 e
   simpa using this
noncomputable def inv:List Nat→Nat
 | []=>0
 | x :: l=>l.countP (fun y=>decide (y < x)) + inv l
theorem RS (B:List Nat):∀ A:List Nat,inv (A.map (· + 1) ++ 0 :: B.map (· + 1)) = A.length + inv (A ++ B):=by
 have hB:∀ B:List Nat,inv (B.map (· + 1)) = inv B:=by
  intro B
  induction B with
  | nil=>rfl
  | cons b B ih=>simp only [map_cons,inv,ih,List.countP_map]; congr 1; exact List.countP_congr fun y _=>by simp
 intro A
 induction A with
 | nil =>
  simp only [map_nil,nil_append,inv,hB,List.countP_map,length_nil]
  congr 1
  rw [List.countP_eq_zero]
  intro y _
  simp
 | cons a A ih =>
  simp only [map_cons,cons_append,inv,ih,length_cons,List.countP_append,List.countP_cons,List.countP_map,Function.comp_def,Nat.add_lt_add_iff_right]
  simp
  lia
theorem Hy:∀ (t:Nat) (w:List Nat) (d:Nat),w.length≤t→(∀ d∈w,f d≠[])→(exs f t d w).length = inv (sp (lr f t w) [] w):=by
 intro t
 induction t with
 | zero =>
  intro w d h _
  have:w = []:=length_eq_zero_iff.mp (by lia)
  subst this; rfl
 | succ t ih =>
  intro w d h hw
  by_cases h0:w = []
  ·subst h0; rw [Hz]; rfl
  ·obtain ⟨u,v,e,hu,hc⟩:=pick (f:=f) h0 hw
   rw [Gk t _ h0,EN t h0]
   have ek:fpl f w = u.length:=by
    unfold fpl
    generalize lst (fs f [] w) = c at e hc
    rw [e]; exact HA hc
   have ee:w.erase (lst (fs f [] w)) = u ++ v:=by
    generalize lst (fs f [] w) = c at e hc
    rw [e]; exact Dj hc
   rw [ek,ee]
   generalize lst (fs f [] w) = c at e hc hu
   subst e
   have hl:(u ++ v).length≤t:=by simp at h ⊢; lia
   have cnt:∀ d,(u ++ v).count d≤(lr f t (u ++ v)).count d:=fun d=>Nat.le_of_eq ((Kh t (u ++ v) hl).count_eq d).symm
   have i1:=ih (u ++ v) (d + 1) hl fun d hd=>hw d (by rcases mem_append.mp hd with z | z <;> simp [z])
   generalize lr f t (u ++ v) = l at cnt i1 ⊢
   have s1:sp (c :: l) [] u = (sp l [] u).map (· + 1):=N5 c l u [] [] (fun d hd=>by
    have:d≠c:=fun e=>hc (e ▸ hd)
    simp [this]) fun d=>by
     have:=cnt d
     simp at this ⊢; lia
   have s2:sp (c :: l) (u ++ [c]) v = (sp l u v).map (· + 1):=N5 c l v u (u ++ [c]) (fun d _=>by
    rw [count_append,List.count_singleton]
    by_cases e:d = c
    ·simp [e]
    ·have:¬ (c == d) = true:=by simpa using fun z=>e z.symm
     rw [if_neg this,if_neg e]) cnt
   rw [KN,sp,nil_append,s1,s2,List.count_eq_zero.mpr hc]
   have o:(occ 0 (c :: l) c).getD 0 0 = 0:=by simp [occ]
   rw [o,RS,← nil_append u,nil_append u,V9,length_append,i1,KN,nil_append]
   simp [dn]
theorem RN {w:List Nat} (hw:∀ d∈w,f d≠[]) {c:Nat}:c∈fs f [] w↔c∈w∧∀ d∈w.take (w.idxOf c),¬ Cm f d c:=by
 constructor
 ·intro h
  obtain ⟨u,v,e,hu,hc⟩:=Fw hw h
  refine ⟨Ia w [] c h,?_⟩
  rw [e,HA hc,List.take_left]
  exact hu
 ·rintro ⟨h1,h2⟩
  have hi:=List.idxOf_lt_length_of_mem h1
  have e:w = w.take (w.idxOf c) ++ c :: w.drop (w.idxOf c + 1):=by
   have g:=List.getElem_idxOf hi
   conv=>lhs; rw [← List.take_append_drop (w.idxOf c) w,drop_eq_getElem_cons hi,g]
  rw [e]
  exact UB _ c _ [] h2 (by simp [hit])
end St
end
section
namespace St
variable {f:Nat→List Int}
theorem GH {x:Int} {c:Nat} {w:List Nat}:c∈seen f x w↔c∈w∧x∈f c:=by simp [seen]
theorem Nt {w:List Nat} (hw:∀ d∈w,f d≠[]) {c:Nat}:c∈fs f [] w↔c∈w∧∀ x∈f c,(seen f x w).head? = some c:=by
 rw [RN hw]
 refine and_congr_right fun hc=>?_
 have hi:=List.idxOf_lt_length_of_mem hc
 have g:=List.getElem_idxOf hi
 have hn:c ∉ w.take (w.idxOf c):=fun z=>by
  obtain ⟨i,hi2,e⟩:=mem_iff_getElem.mp z
  have h3:i < w.idxOf c:=by simp at hi2; lia
  have:=List.not_of_lt_findIdx (p:=fun x=>x == c) (xs:=w) (i:=i) h3
  simp at e this
  exact this e
 have e:w = w.take (w.idxOf c) ++ c :: w.drop (w.idxOf c + 1):=by
  conv=>lhs; rw [← List.take_append_drop (w.idxOf c) w,drop_eq_getElem_cons hi,g]
 generalize w.take (w.idxOf c) = a at e hn
 generalize w.drop (w.idxOf c + 1) = b at e
 subst e
 constructor
 ·intro h x hx
  have:seen f x a = []:=by
   unfold seen
   rw [List.filter_eq_nil_iff]
   intro d hd
   simp only [decide_eq_true_eq]
   exact fun z=>h d hd ⟨x,z,hx⟩
  rw [DV,this,BA,if_pos hx]
  rfl
 ·intro h d hd ⟨x,hxd,hxc⟩
  have hh:=h x hxc
  rw [DV] at hh
  have hdm:d∈seen f x a:=GH.mpr ⟨hd,hxd⟩
  cases hs:seen f x a with
  | nil=>rw [hs] at hdm; simp at hdm
  | cons y r =>
   rw [hs] at hh
   simp at hh
   have:y∈seen f x a:=by rw [hs]; simp
   rw [hh] at this
   exact hn (GH.mp this).1
theorem IL {w:List Nat} (hw:∀ d∈w,f d≠[]) {c:Nat} (h:c∈fs f [] w) (x:Int):seen f x (w.erase c) = if x∈f c then (seen f x w).tail else seen f x w:=by
 obtain ⟨a,b,e,ha,hn⟩:=Fw hw h
 subst e
 rw [Dj hn,DV,DV,BA]
 by_cases hx:x∈f c
 ·have:seen f x a = []:=by
   unfold seen
   rw [List.filter_eq_nil_iff]
   intro d hd
   simp only [decide_eq_true_eq]
   exact fun z=>ha d hd ⟨x,z,hx⟩
  rw [if_pos hx,if_pos hx,this]
  rfl
 ·rw [if_neg hx,if_neg hx]
theorem Lw {w:List Nat} (hw:∀ d∈w,f d≠[]) {c:Nat}:c∈w↔∃ x,x∈f c∧c∈seen f x w:=by
 constructor
 ·intro h
  obtain ⟨x,r,hx⟩:=exists_cons_of_ne_nil (hw c h)
  have:x∈f c:=by rw [hx]; simp
  exact ⟨x,this,GH.mpr ⟨h,this⟩⟩
 ·rintro ⟨x,_,h⟩
  exact (GH.mp h).1
theorem N1:∀ (n:Nat) (u v:List Nat),u.length≤n→v.length≤n→(∀ d∈u,f d≠[])→(∀ d∈v,f d≠[])→(∀ x,seen f x u = seen f x v)→lr f n u = lr f n v:=by
 intro n
 induction n with
 | zero=>intro u v _ _ _ _ _; rfl
 | succ n ih =>
  intro u v hu hv hfu hfv hs
  have mem:∀ c,c∈u↔c∈v:=fun c=>by
   rw [Lw hfu,Lw hfv]
   exact exists_congr fun x=>by rw [hs x]
  by_cases h0:u = []
  ·have:v = []:=by
    cases v with
    | nil=>rfl
    | cons c v=>rw [h0] at mem; exact absurd ((mem c).mpr (by simp)) (by simp)
   rw [h0,this]
  ·have h1:v≠[]:=fun z=>by
    obtain ⟨c,r,e⟩:=exists_cons_of_ne_nil h0
    have:=(mem c).mp (by rw [e]; simp)
    rw [z] at this
    simp at this
   have fe:∀ c,c∈fs f [] u↔c∈fs f [] v:=fun c=>by
    rw [Nt hfu,Nt hfv,mem c]
    exact and_congr_right fun _=>forall_congr' fun x=>by rw [hs x]
   obtain ⟨m1,l1⟩:=D5 (Kc (f:=f) h0)
   have el:lst (fs f [] v) = lst (fs f [] u):=P5 ((fe _).mp m1) fun y hy=>l1 y ((fe y).mpr hy)
   rw [EN n h0,EN n h1,el]
   refine List.cons_eq_cons.mpr ⟨rfl,?_⟩
   have mu:=Ia u [] _ m1
   have mv:=(mem _).mp mu
   refine ih _ _ (by rw [List.length_erase_of_mem mu]; lia) (by rw [List.length_erase_of_mem mv]; lia) (fun d hd=>hfu d (List.mem_of_mem_erase hd)) (fun d hd=>hfv d (List.mem_of_mem_erase hd)) fun x=>?_
   rw [IL hfu m1,IL hfv ((fe _).mp m1),hs x]
end St
end
section
namespace St
variable {f:Nat→List Int}
theorem Lq {x y:Nat} (b:List Nat) (h:x < y):∀ a:List Nat,inv (a ++ y :: x :: b) = inv (a ++ x :: y :: b) + 1:=by
 intro a
 induction a with
 | nil =>
  have h':¬ y < x:=by lia
  simp only [nil_append,inv,List.countP_cons,h,h',decide_true,decide_false,if_true]
  simp
  lia
 | cons c a ih =>
  simp only [cons_append,inv,ih,List.countP_append,List.countP_cons]
  lia
theorem Lr (x y:Nat) (a b:List Nat):inv (a ++ y :: x :: b)≤inv (a ++ x :: y :: b) + 1:=by
 rcases Nat.lt_trichotomy x y with h | h | h
 ·rw [Lq b h a]; exact le_refl _
 ·rw [h]; lia
 ·have:=Lq b h a; lia
theorem Q0 (low:List Nat):∀ (w pre pre':List Nat),(∀ d,pre.count d = pre'.count d)→sp low pre w = sp low pre' w:=by
 intro w
 induction w with
 | nil=>intro pre pre' _; rfl
 | cons c w ih =>
  intro pre pre' h
  simp only [sp,h c]
  rw [ih (pre ++ [c]) (pre' ++ [c]) fun d=>by rw [count_append,count_append,h d]]
theorem Th (low:List Nat) {x y:Nat} (h:x≠y) (a b:List Nat):∃ A p q B,sp low [] (a ++ x :: y :: b) = A ++ p :: q :: B∧sp low [] (a ++ y :: x :: b) = A ++ q :: p :: B:=by
 refine ⟨sp low [] a,(occ 0 low x).getD (a.count x) 0,(occ 0 low y).getD (a.count y) 0,sp low (a ++ [x] ++ [y]) b,?_,?_⟩
 ·rw [KN,nil_append,sp,sp]
  have:(a ++ [x]).count y = a.count y:=by
   rw [count_append,List.count_singleton]
   have:¬ (x == y) = true:=by simpa using h
   simp [this]
  rw [this]
 ·rw [KN,nil_append,sp,sp]
  have:(a ++ [y]).count x = a.count x:=by
   rw [count_append,List.count_singleton]
   have:¬ (y == x) = true:=by simpa using h.symm
   simp [this]
  rw [this,Q0 low b (a ++ [y] ++ [x]) (a ++ [x] ++ [y]) fun d=>by simp only [count_append]; lia]
noncomputable def tp (f:Nat→List Int) (n:Nat) (w:List Nat):Nat:=inv (sp (lr f n w) [] w)
theorem Oa {n:Nat} {x y:Nat} {a b:List Nat} (h:x≠y) (e:lr f n (a ++ y :: x :: b) = lr f n (a ++ x :: y :: b)):tp f n (a ++ y :: x :: b)≤tp f n (a ++ x :: y :: b) + 1:=by
 unfold tp
 rw [e]
 obtain ⟨A,p,q,B,e1,e2⟩:=Th (lr f n (a ++ x :: y :: b)) h a b
 rw [e1,e2]
 exact Lr p q A B
theorem Rh {n:Nat} {l:List Nat} (h:l.length≤n) (hl:∀ d∈l,f d≠[]) (e:lr f n l = l):tp f n l = 0:=by
 unfold tp
 rw [← Hy n l 0 h hl,RJ n l 0 h e]
 rfl
theorem KW {n:Nat} {w:List Nat} (h:w.length≤n) (hw:∀ d∈w,f d≠[]) (h0:tp f n w≠0):∃ p ps,exs f n 0 w = p :: ps∧okP f p w∧Walks f (swp p w) ps (lr f n w)∧ps.length + 1 = tp f n w:=by
 have hw':=HX (f:=f) n w [] h hw
 have hl:=Hy (f:=f) n w 0 h hw
 simp only [nil_append,length_nil] at hw'
 cases he:exs f n 0 w with
 | nil =>
  rw [he] at hl
  exact absurd hl.symm h0
 | cons p ps =>
  rw [he] at hw' hl
  cases hw' with
  | cons o t=>exact ⟨p,ps,rfl,o,t,hl⟩
end St
end
section
namespace St
variable {f:Nat→List Int}
theorem U5:∀ (n:Nat) (w:List Nat),w.length≤n→¬ (w < lr f n w):=by
 intro n
 induction n with
 | zero =>
  intro w h
  have:w = []:=length_eq_zero_iff.mp (by lia)
  subst this
  simp [lr]
 | succ n ih =>
  intro w h
  cases w with
  | nil=>simp [lr]
  | cons c w =>
   rw [EN n (by simp)]
   have hc:c∈fs f [] (c :: w):=by rw [Gm.1]; simp
   have hl:=(D5 (Nr (f:=f) (c:=c) (w:=w))).2 c hc
   rw [List.cons_lt_cons_iff]
   rintro (h1 | ⟨h1,h2⟩)
   ·lia
   ·rw [← h1,erase_cons_head] at h2
    exact ih w (by simpa using h) h2
noncomputable def Alike (f:Nat→List Int) (n:Nat) (low w:List Nat):Prop:=w.length≤n∧(∀ d∈w,f d≠[])∧lr f n w = low
theorem De {n p:Nat} {low w:List Nat} (a:Alike f n low w) (o:okP f p w):Alike f n low (swp p w)∧∃ u v x y,w = u ++ x :: y :: v∧u.length = p∧x≠y∧¬ Cm f x y∧swp p w = u ++ y :: x :: v:=by
 obtain ⟨h1,h2,h3⟩:=a
 obtain ⟨o1,o2⟩:=o
 have e:w = w.take p ++ w[p] :: w[p + 1] :: w.drop (p + 2):=by
  rw [← drop_eq_getElem_cons o1,← drop_eq_getElem_cons (by lia),List.take_append_drop]
 have tl:(w.take p).length = p:=by rw [length_take]; lia
 rw [getD_eq_getElem?_getD,getD_eq_getElem?_getD,getElem?_eq_getElem (by lia),getElem?_eq_getElem o1,getD_some,getD_some] at o2
 have es:swp p w = w.take p ++ w[p + 1] :: w[p] :: w.drop (p + 2):=by
  have:=KQ (w.take p) w[p] w[p + 1] (w.drop (p + 2))
  rw [tl,← e] at this
  exact this
 have hne:w[p]≠w[p + 1]:=fun z=>by
  obtain ⟨x,r,hx⟩:=exists_cons_of_ne_nil (h2 w[p] (getElem_mem _))
  exact o2 ⟨x,by rw [hx]; simp,by rw [← z,hx]; simp⟩
 have mem:∀ d,d∈swp p w↔d∈w:=fun d=>by
  rw [es]
  conv=>rhs; rw [e]
  simp only [mem_append,mem_cons]
  constructor
  ·rintro (z | z | z | z)
   ·exact .inl z
   ·exact .inr (.inr (.inl z))
   ·exact .inr (.inl z)
   ·exact .inr (.inr (.inr z))
  ·rintro (z | z | z | z)
   ·exact .inl z
   ·exact .inr (.inr (.inl z))
   ·exact .inr (.inl z)
   ·exact .inr (.inr (.inr z))
 have ls:(swp p w).length = w.length:=by
  rw [es]
  simp only [length_append,length_cons,length_drop,tl]
  lia
 refine ⟨⟨by rw [ls]; exact h1,fun d hd=>h2 d ((mem d).mp hd),?_⟩,w.take p,w.drop (p + 2),w[p],w[p + 1],e,tl,hne,o2,es⟩
 rw [← h3]
 refine N1 n _ _ (by rw [ls]; exact h1) h1 (fun d hd=>h2 d ((mem d).mp hd)) h2 fun x=>?_
 rw [es]
 conv=>rhs; rw [e]
 rw [DV,DV,BA,BA,BA,BA]
 by_cases q1:x∈f w[p]
 ·have q2:x ∉ f w[p + 1]:=fun z=>o2 ⟨x,q1,z⟩
  simp [q1,q2]
 ·simp [q1]
theorem KY {n:Nat} {low w ps:List Nat} (h:Walks f w ps low) (a:Alike f n low w):tp f n w≤ps.length:=by
 induction h with
 | nil w =>
  rw [Rh a.1 a.2.1 a.2.2]
  exact zero_le _
 | @cons w p ps w' o t ih =>
  obtain ⟨a2,u,v,x,y,e,_,hne,_,es⟩:=De a o
  have:=ih a2
  have t1:tp f n (u ++ x :: y :: v)≤tp f n (u ++ y :: x :: v) + 1:=Oa hne.symm (by rw [← e,← es,a.2.2,a2.2.2])
  rw [← e,← es] at t1
  simp only [length_cons]
  lia
end St
end
section
namespace St
variable {f:Nat→List Int}
noncomputable def frN (f:Nat→List Int) (a b:Nat):Bool:=!(f a).any fun x=>decide (x∈f b)
theorem RM {a b:Nat}:frN f a b = true↔¬ Cm f a b:=by simp [frN,Cm]
noncomputable def nbs (f:Nat→List Int) (w:List Nat):List (List Nat):=((List.range (w.length - 1)).filter fun p=>frN f (w.getD p 0) (w.getD (p + 1) 0)).map fun p=>swp p w
theorem Gx {w o:List Nat}:o∈nbs f w↔∃ p,okP f p w∧swp p w = o:=by
 simp only [nbs,mem_map,mem_filter,mem_range,RM,okP]
 constructor
 ·rintro ⟨p,⟨h1,h2⟩,h3⟩; exact ⟨p,⟨by lia,h2⟩,h3⟩
 ·rintro ⟨p,⟨h1,h2⟩,h3⟩; exact ⟨p,⟨by lia,h2⟩,h3⟩
theorem M9 {n p:Nat} {low w:List Nat} (a:Alike f n low w) (o:okP f p w):w∈nbs f (swp p w):=by
 obtain ⟨_,u,v,x,y,e,hp,hne,hc,es⟩:=De a o
 rw [Gx]
 have gm:∀ (a:List Nat) (y:Nat) (z:List Nat),(a ++ y :: z).getD a.length 0 = y:=fun a y z=>by simp [getD_eq_getElem?_getD]
 refine ⟨p,⟨?_,?_⟩,?_⟩
 ·rw [es,← hp]; simp only [length_append,length_cons]; lia
 ·rw [es,← hp,gm,show u ++ y :: x :: v = (u ++ [y]) ++ x :: v by simp,show u.length + 1 = (u ++ [y]).length by simp,gm]
  exact fun z=>hc z.symm
 ·rw [es,← hp,KQ,← e]
noncomputable abbrev Td:=List (List Nat × Nat)
noncomputable def Hl (k:Nat) (td:Td) (o:List Nat):Td:=if o∈td.map (·.1) then td else td ++ [(o,k + 1)]
noncomputable def turn (f:Nat→List Int) (td:Td) (w:List Nat) (k:Nat):Td:=(nbs f w).foldl (Hl k) td
structure Bf (f:Nat→List Int) (n:Nat) (low:List Nat) (td:Td) (at_:Nat):Prop where
 nd:(td.map (·.1)).Nodup
 hd:td[0]? = some (low,0)
 al:∀ q∈td,Alike f n low q.1∧q.2 = tp f n q.1
 so:td.Pairwise fun p q=>p.2≤q.2
 cl:∀ i,i < at_→∀ q,td[i]? = some q→∀ o∈nbs f q.1,o∈td.map (·.1)
 up:∀ q0,td[at_]? = some q0→∀ q∈td,q.2≤q0.2 + 1
theorem KZ {n:Nat} {low w:List Nat} (a:Alike f n low w) (h:tp f n w = 0):w = low:=by
 have hl:=Hy (f:=f) n w 0 a.1 a.2.1
 have hw:=HX (f:=f) n w [] a.1 a.2.1
 simp only [nil_append,length_nil] at hw
 have:exs f n 0 w = []:=length_eq_zero_iff.mp (hl.trans h)
 rw [this,a.2.2] at hw
 cases hw
 rfl
theorem Bf.low {n:Nat} {low:List Nat} {td:Td} {at_:Nat} {w:List Nat} {k:Nat} (b:Bf f n low td at_) (hw:td[at_]? = some (w,k)):∀ m z,Alike f n low z→tp f n z = m→m < k→∃ i,i < at_∧td[i]? = some (z,m):=by
 intro m
 induction m using Nat.strongRecOn with
 | _ m ih =>
  intro z az hz hm
  by_cases h0:m = 0
  ·subst h0
   have:=KZ az hz
   subst this
   refine ⟨0,?_,b.hd⟩
   cases at_ with
   | zero=>rw [b.hd] at hw; cases hw; lia
   | succ _=>lia
  ·obtain ⟨p,ps,_,o,t,hl⟩:=KW az.1 az.2.1 (by lia)
   obtain ⟨a2,_⟩:=De az o
   rw [az.2.2] at t
   have t2:=KY t a2
   obtain ⟨i,hi,e⟩:=ih (tp f n (swp p z)) (by lia) (swp p z) a2 rfl (by lia)
   have hzm:=b.cl i hi _ e z (M9 az o)
   obtain ⟨q,hq,eq⟩:=mem_map.mp hzm
   obtain ⟨j,hj,ej⟩:=mem_iff_getElem.mp hq
   have hq2:=(b.al q hq).2
   obtain ⟨q1,q2⟩:=q
   simp only at eq hq2
   subst eq
   have:q2 = m:=by rw [hq2,hz]
   subst this
   refine ⟨j,?_,by rw [getElem?_eq_getElem hj,ej]⟩
   rcases Nat.lt_trichotomy j at_ with h | h | h
   ·exact h
   ·subst h
    rw [getElem?_eq_getElem hj,ej] at hw
    cases hw
    lia
   ·obtain ⟨ha,ea⟩:=List.getElem?_eq_some_iff.mp hw
    have:=pairwise_iff_getElem.mp b.so at_ j ha hj h
    rw [ea,ej] at this
    simp at this
    lia
theorem TK {n:Nat} {low:List Nat} {td:Td} {at_:Nat} {w:List Nat} {k:Nat} (b:Bf f n low td at_) (hw:td[at_]? = some (w,k)):∃ new,turn f td w k = td ++ new∧(∀ q∈new,q.2 = k + 1∧Alike f n low q.1∧tp f n q.1 = k + 1)∧((td ++ new).map (·.1)).Nodup∧∀ o∈nbs f w,o∈(td ++ new).map (·.1):=by
 have hm:(w,k)∈td:=mem_of_getElem? hw
 obtain ⟨aw,kw⟩:=b.al _ hm
 simp only at aw kw
 have go:∀ (os:List (List Nat)),(∀ o∈os,o∈nbs f w)→∀ new:Td,(∀ q∈new,q.2 = k + 1∧Alike f n low q.1∧tp f n q.1 = k + 1)→((td ++ new).map (·.1)).Nodup →
   ∃ new',os.foldl (Hl k) (td ++ new) = td ++ new'∧(∀ q∈new,q∈new')∧(∀ q∈new',q.2 = k + 1∧Alike f n low q.1∧tp f n q.1 = k + 1)∧((td ++ new').map (·.1)).Nodup∧∀ o∈os,o∈(td ++ new').map (·.1):=by
  intro os
  induction os with
  | nil=>intro _ new h1 h2; exact ⟨new,rfl,fun _ h=>h,h1,h2,fun o h=>by simp at h⟩
  | cons o os ih =>
   intro ho new h1 h2
   obtain ⟨p,op,ep⟩:=Gx.mp (ho o (by simp))
   obtain ⟨ao,u,v,x,y,ew,_,hne,_,es⟩:=De aw op
   rw [ep] at ao es
   by_cases hin:o∈(td ++ new).map (·.1)
   ·obtain ⟨new',e,i1,i2,i3,i4⟩:=ih (fun o h=>ho o (by simp [h])) new h1 h2
    refine ⟨new',by rw [foldl_cons,Hl,if_pos hin,e],i1,i2,i3,fun o' h=>?_⟩
    rcases mem_cons.mp h with rfl | h
    ·rw [map_append,mem_append] at hin ⊢
     rcases hin with z | z
     ·exact .inl z
     ·obtain ⟨q,hq,eq⟩:=mem_map.mp z
      exact .inr (mem_map.mpr ⟨q,i1 q hq,eq⟩)
    ·exact i4 o' h
   ·have hle:tp f n o≤k + 1:=by
     have:=Oa (f:=f) (n:=n) (a:=u) (b:=v) hne (by rw [← es,← ew,ao.2.2,aw.2.2])
     rw [← es,← ew] at this
     lia
    have hnt:o ∉ td.map (·.1):=fun z=>hin (by rw [map_append]; exact mem_append_left _ z)
    have heq:tp f n o = k + 1:=by
     by_cases hk:tp f n o = k + 1
     ·exact hk
     ·exfalso
      by_cases h0:tp f n o = 0
      ·have:=KZ ao h0
       subst this
       exact hnt (mem_map.mpr ⟨_,mem_of_getElem? b.hd,rfl⟩)
      ·obtain ⟨p2,ps,_,o2,t,hl⟩:=KW ao.1 ao.2.1 h0
       obtain ⟨a2,_⟩:=De ao o2
       rw [ao.2.2] at t
       have t2:=KY t a2
       obtain ⟨i,hi,e⟩:=b.low hw _ (swp p2 o) a2 rfl (by lia)
       exact hnt (b.cl i hi _ e o (M9 ao o2))
    have nd2:((td ++ (new ++ [(o,k + 1)])).map (·.1)).Nodup:=by
     rw [← append_assoc,map_append]
     refine nodup_append.mpr ⟨h2,by simp,fun a ha c hc e=>?_⟩
     simp at hc
     subst hc
     subst e
     exact hin ha
    obtain ⟨new',e,i1,i2,i3,i4⟩:=ih (fun o h=>ho o (by simp [h])) (new ++ [(o,k + 1)]) (fun q hq=>by
     rcases mem_append.mp hq with z | z
     ·exact h1 q z
     ·simp at z; subst z; exact ⟨rfl,ao,heq⟩) nd2
    refine ⟨new',by rw [foldl_cons,Hl,if_neg hin,append_assoc,e],fun q hq=>i1 q (by simp [hq]),i2,i3,fun o' h=>?_⟩
    rcases mem_cons.mp h with rfl | h
    ·rw [map_append,mem_append]
     exact .inr (mem_map.mpr ⟨_,i1 (o',k + 1) (by simp),rfl⟩)
    ·exact i4 o' h
 obtain ⟨new',e,_,i2,i3,i4⟩:=go (nbs f w) (fun o h=>h) [] (fun q h=>by simp at h) (by rw [append_nil]; exact b.nd)
 rw [append_nil] at e
 exact ⟨new',e,i2,i3,i4⟩
theorem Bf.step {n:Nat} {low:List Nat} {td:Td} {at_:Nat} {w:List Nat} {k:Nat} (b:Bf f n low td at_) (hw:td[at_]? = some (w,k)):Bf f n low (turn f td w k) (at_ + 1):=by
 obtain ⟨new,e,h1,h2,h3⟩:=TK b hw
 have ha:=(List.getElem?_eq_some_iff.mp hw).1
 have hup:=b.up _ hw
 simp only at hup
 rw [e]
 refine ⟨h2,by rw [getElem?_append_left (by lia)]; exact b.hd,fun q hq=>?_,List.pairwise_append.mpr ⟨b.so,?_,fun q hq r hr=>?_⟩,fun i hi q hq o ho=>?_,fun q0 hq0 q hq=>?_⟩
 ·rcases mem_append.mp hq with z | z
  ·exact b.al q z
  ·obtain ⟨z1,z2,z3⟩:=h1 q z
   exact ⟨z2,by rw [z1,z3]⟩
 ·exact List.pairwise_of_forall_mem_list fun q hq r hr=>by rw [(h1 q hq).1,(h1 r hr).1]; exact le_refl _
 ·rw [(h1 r hr).1]; exact hup q hq
 ·rcases Nat.lt_or_ge i at_ with h | h
  ·rw [getElem?_append_left (by lia)] at hq
   have:=b.cl i h q hq o ho
   rw [map_append]; exact mem_append_left _ this
  ·have:i = at_:=by lia
   subst this
   rw [getElem?_append_left ha,hw] at hq
   cases hq
   exact h3 o ho
 ·have hk:k≤q0.2:=by
   obtain ⟨hb,eb⟩:=List.getElem?_eq_some_iff.mp hq0
   have so:(td ++ new).Pairwise fun p q=>p.2≤q.2:=List.pairwise_append.mpr ⟨b.so,List.pairwise_of_forall_mem_list fun q hq r hr=>by rw [(h1 q hq).1,(h1 r hr).1]; exact le_refl _,fun q hq r hr=>by rw [(h1 r hr).1]; exact hup q hq⟩
   have:=pairwise_iff_getElem.mp so at_ (at_ + 1) (by rw [length_append]; lia) hb (by lia)
   rw [eb,List.getElem_append_left ha] at this
   have e2:=(List.getElem?_eq_some_iff.mp hw).2
   rw [e2] at this
   exact this
  rcases mem_append.mp hq with z | z
  ·have:=hup q z; lia
  ·rw [(h1 q z).1]; lia
end St
end
section
namespace St
variable {f:Nat→List Int} {n:Nat} {low:List Nat}
theorem TM {S:List Nat→Prop} (cl:∀ w,S w→∀ o∈nbs f w,S o) {w ps w':List Nat} (h:Walks f w ps w') (hw:S w):S w':=by
 induction h with
 | nil _=>exact hw
 | @cons w p ps w' o t ih=>exact ih (cl w hw _ (Gx.mpr ⟨p,o,rfl⟩))
theorem U4 {S:List Nat→Prop} (cl:∀ w,S w→∀ o∈nbs f w,S o) {w:List Nat} (a:Alike f n low w) (hw:S w):S low:=by
 have h:=HX (f:=f) n w [] a.1 a.2.1
 simp only [nil_append,length_nil] at h
 rw [a.2.2] at h
 exact TM cl h hw
theorem O9 {S:List Nat→Prop} (cl:∀ w,S w→∀ o∈nbs f w,S o) (hl:S low):∀ (m:Nat) (z:List Nat),Alike f n low z→tp f n z = m→S z:=by
 intro m
 induction m using Nat.strongRecOn with
 | _ m ih =>
  intro z az hz
  by_cases h0:m = 0
  ·subst h0
   rw [KZ az hz]; exact hl
  ·obtain ⟨p,ps,_,o,t,hlen⟩:=KW az.1 az.2.1 (by lia)
   obtain ⟨a2,_⟩:=De az o
   rw [az.2.2] at t
   have t2:=KY t a2
   exact cl _ (ih (tp f n (swp p z)) (by lia) _ a2 rfl) z (M9 az o)
theorem Mq {S:List Nat→Prop} (cl:∀ w,S w→∀ o∈nbs f w,S o) {w z:List Nat} (a:Alike f n low w) (hw:S w) (b:Alike f n low z):S z:=
 O9 cl (U4 cl a hw) _ z b rfl
theorem Bf.all {td:Td} (b:Bf f n low td td.length) {z:List Nat} (a:Alike f n low z):(z,tp f n z)∈td:=by
 have cl:∀ w,w∈td.map (·.1)→∀ o∈nbs f w,o∈td.map (·.1):=fun w hw o ho=>by
  obtain ⟨q,hq,rfl⟩:=mem_map.mp hw
  obtain ⟨i,hi,e⟩:=mem_iff_getElem.mp hq
  exact b.cl i hi q (by rw [getElem?_eq_getElem hi,e]) o ho
 have:=O9 (S:=fun w=>w∈td.map (·.1)) cl (mem_map.mpr ⟨_,mem_of_getElem? b.hd,rfl⟩) _ z a rfl
 obtain ⟨q,hq,rfl⟩:=mem_map.mp this
 have:=(b.al q hq).2
 rw [← this]
 exact hq
theorem Bf.start (a:Alike f n low low):Bf f n low [(low,0)] 0:=
 ⟨by simp,rfl,fun q hq=>by simp at hq; subst hq; exact ⟨a,(Rh a.1 a.2.1 a.2.2).symm⟩,by simp,fun i hi=>by lia,fun q0 h0 q hq=>by simp at h0 hq; subst h0 hq; simp⟩
end St
end
section
namespace St
variable {f:Nat→List Int} {n:Nat} {low:List Nat}
noncomputable def bfs (f:Nat→List Int):Nat→Td→Nat→Td
 | 0,td,_=>td
 | m + 1,td,a=>if a < td.length∧td.length < 300 then match td[a]? with
   | some q=>bfs f m (turn f td q.1 q.2) (a + 1)
   | none=>td
  else td
theorem HP (k:Nat) (os:List (List Nat)):∀ td:Td,∃ new,os.foldl (Hl k) td = td ++ new∧new.length≤os.length∧(∀ q∈new,q.1∈os)∧((td.map (·.1)).Nodup→((td ++ new).map (·.1)).Nodup)∧∀ o∈os,o∈(td ++ new).map (·.1):=by
 induction os with
 | nil=>intro td; exact ⟨[],by simp,by simp,by simp,by simp,by simp⟩
 | cons o os ih =>
  intro td
  by_cases h:o∈td.map (·.1)
  ·obtain ⟨new,e,h1,h2,h3,h4⟩:=ih td
   refine ⟨new,by rw [foldl_cons,Hl,if_pos h,e],by simp; lia,fun q hq=>by simp [h2 q hq],h3,fun o' ho=>?_⟩
   rcases mem_cons.mp ho with rfl | ho
   ·rw [map_append]; exact mem_append_left _ h
   ·exact h4 o' ho
  ·obtain ⟨new,e,h1,h2,h3,h4⟩:=ih (td ++ [(o,k + 1)])
   refine ⟨(o,k + 1) :: new,by rw [foldl_cons,Hl,if_neg h,e,append_assoc]; rfl,by simp; lia,fun q hq=>?_,fun nd=>?_,fun o' ho=>?_⟩
   ·rcases mem_cons.mp hq with rfl | hq
    ·simp
    ·simp [h2 q hq]
   ·rw [show td ++ (o,k + 1) :: new = td ++ [(o,k + 1)] ++ new by simp]
    refine h3 ?_
    rw [map_append]
    refine nodup_append.mpr ⟨nd,by simp,fun a ha c hc e'=>?_⟩
    simp at hc
    rw [e',hc] at ha
    exact h ha
   ·rw [show td ++ (o,k + 1) :: new = td ++ [(o,k + 1)] ++ new by simp]
    rcases mem_cons.mp ho with rfl | ho
    ·simp
    ·exact h4 o' ho
structure Bg (f:Nat→List Int) (n:Nat) (low row:List Nat) (td:Td) (a:Nat):Prop where
 nd:(td.map (·.1)).Nodup
 hd:row∈td.map (·.1)
 al:∀ q∈td,Alike f n low q.1
 cl:∀ i,i < a→∀ q,td[i]? = some q→∀ o∈nbs f q.1,o∈td.map (·.1)
 le:a≤td.length
theorem Bg.start {row:List Nat} (a:Alike f n low row):Bg f n low row [(row,0)] 0:=
 ⟨by simp,by simp,fun q hq=>by simp at hq; subst hq; exact a,fun i hi=>by lia,by simp⟩
theorem Bg.step {row:List Nat} {td:Td} {a:Nat} (b:Bg f n low row td a) {q:List Nat × Nat} (hq:td[a]? = some q):Bg f n low row (turn f td q.1 q.2) (a + 1):=by
 obtain ⟨new,e,h1,h2,h3,h4⟩:=HP q.2 (nbs f q.1) td
 have ha:=(List.getElem?_eq_some_iff.mp hq).1
 have aq:=b.al q (mem_of_getElem? hq)
 show Bg f n low row ((nbs f q.1).foldl (Hl q.2) td) (a + 1)
 rw [e]
 refine ⟨h3 b.nd,by rw [map_append]; exact mem_append_left _ b.hd,fun p hp=>?_,fun i hi p hp o ho=>?_,by rw [length_append]; lia⟩
 ·rcases mem_append.mp hp with z | z
  ·exact b.al p z
  ·obtain ⟨p',op,ep⟩:=Gx.mp (h2 p z)
   have:=(De aq op).1
   rw [ep] at this
   exact this
 ·rcases Nat.lt_or_ge i a with h | h
  ·rw [getElem?_append_left (by lia)] at hp
   rw [map_append]; exact mem_append_left _ (b.cl i h p hp o ho)
  ·have:i = a:=by lia
   subst this
   rw [getElem?_append_left ha,hq] at hp
   cases hp
   exact h4 o ho
theorem Ml {row:List Nat}:∀ (m:Nat) (td:Td) (a:Nat),300 < m + a→Bg f n low row td a→∃ a',Bg f n low row (bfs f m td a) a'∧((bfs f m td a).length≤299→a' = (bfs f m td a).length):=by
 intro m
 induction m with
 | zero=>intro td a h b; exact ⟨a,b,fun z=>by
   have:=b.le
   have z:td.length≤299:=z
   lia⟩
 | succ m ih =>
  intro td a h b
  unfold bfs
  split
  ·rename_i hc
   rw [getElem?_eq_getElem hc.1]
   exact ih _ _ (by lia) (b.step (getElem?_eq_getElem hc.1))
  ·rename_i hc
   refine ⟨a,b,fun z=>?_⟩
   have:=b.le
   by_cases h1:a < td.length
   ·exact absurd ⟨h1,by lia⟩ hc
   ·lia
theorem Ur:∀ (m:Nat) (td:Td) (a:Nat),Bf f n low td a→∃ a',Bf f n low (bfs f m td a) a':=by
 intro m
 induction m with
 | zero=>intro td a b; exact ⟨a,b⟩
 | succ m ih =>
  intro td a b
  unfold bfs
  split
  ·rename_i hc
   rw [getElem?_eq_getElem hc.1]
   exact ih _ _ (b.step (w:=td[a].1) (k:=td[a].2) (getElem?_eq_getElem hc.1))
  ·exact ⟨a,b⟩
theorem Lk {row:List Nat} (a:Alike f n low row) (hl:(bfs f 301 [(row,0)] 0).length≤299) (z:List Nat):z∈(bfs f 301 [(row,0)] 0).map (·.1)↔Alike f n low z:=by
 obtain ⟨a',b,e⟩:=Ml 301 _ 0 (by lia) (Bg.start a)
 have e:=e hl
 subst e
 constructor
 ·intro h
  obtain ⟨q,hq,rfl⟩:=mem_map.mp h
  exact b.al q hq
 ·intro h
  refine Mq (S:=fun w=>w∈(bfs f 301 [(row,0)] 0).map (·.1)) (fun w hw o ho=>?_) a b.hd h
  obtain ⟨q,hq,rfl⟩:=mem_map.mp hw
  obtain ⟨i,hi,e⟩:=mem_iff_getElem.mp hq
  exact b.cl i hi q (by rw [getElem?_eq_getElem hi,e]) o ho
theorem RO {row:List Nat} (a:Alike f n low row):((bfs f 301 [(row,0)] 0).map (·.1)).Nodup∧row∈(bfs f 301 [(row,0)] 0).map (·.1):=by
 obtain ⟨a',b,_⟩:=Ml 301 _ 0 (by lia) (Bg.start a)
 exact ⟨b.nd,b.hd⟩
theorem Qc {α:Type} [DecidableEq α]:∀ {l m:List α},l.Nodup→(∀ x∈l,x∈m)→l.length≤m.length:=by
 intro l
 induction l with
 | nil=>intro m _ _; simp
 | cons a l ih =>
  intro m nd h
  obtain ⟨n1,n2⟩:=nodup_cons.mp nd
  have ha:=h a (by simp)
  have:=ih (m:=m.erase a) n2 fun x hx=>(List.mem_erase_of_ne (fun e:x = a=>n1 (e ▸ hx))).mpr (h x (by simp [hx]))
  rw [List.length_erase_of_mem ha] at this
  have:=List.length_pos_of_mem ha
  simp only [length_cons]
  lia
theorem Px {row:List Nat} (a:Alike f n low row) (al:Alike f n low low) (hl:(bfs f 301 [(row,0)] 0).length≤299) {z:List Nat} (hz:Alike f n low z):(z,tp f n z)∈bfs f 301 [(low,0)] 0:=by
 obtain ⟨a1,b⟩:=Ur 301 _ 0 (Bf.start al)
 obtain ⟨a',g,e⟩:=Ml 301 _ 0 (by lia) (Bg.start al)
 have hle:(bfs f 301 [(low,0)] 0).length≤299:=by
  have:=Qc g.nd (fun w hw=>(Lk a hl w).mpr (by
   obtain ⟨q,hq,rfl⟩:=mem_map.mp hw
   exact g.al q hq))
  simp only [length_map] at this
  lia
 have e:=e hle
 subst e
 have b':Bf f n low (bfs f 301 [(low,0)] 0) (bfs f 301 [(low,0)] 0).length:=⟨b.nd,b.hd,b.al,b.so,g.cl,fun q0 h0=>by rw [List.getElem?_eq_none (le_refl _)] at h0; cases h0⟩
 exact b'.all hz
theorem Rw:bfs f 301 [([],0)] 0 = [([],0)]:=by
 show (if 0 < 1∧1 < 300 then bfs f 300 (turn f [([],0)] [] 0) 1 else [([],0)]) = _
 rw [if_pos (by decide)]
 have:turn f [([],0)] [] 0 = [([],0)]:=rfl
 rw [this]
 show (if 1 < 1∧1 < 300 then _ else [([],0)]) = _
 rw [if_neg (by decide)]
theorem NF {u v:List Nat} (hu:u.length≤n) (hv:v.length≤n) (fu:∀ d∈u,f d≠[]) (fv:∀ d∈v,f d≠[]):lr f n u = lr f n v↔∀ x,seen f x u = seen f x v:=by
 constructor
 ·intro h x
  rw [Mc (DX n u hu fu) x,Mc (DX n v hv fv) x,h]
 ·exact N1 n u v hu hv fu fv
theorem N7 {u v:List Nat} (h:Swc f u v):stp f n u = stp f n v:=by
 induction h with
 | refl _=>rfl
 | step s _ ih=>exact (Wd n s).trans ih
theorem U6 {u v:List Nat} (hu:u.length≤n) (hv:v.length≤n) (fu:∀ d∈u,f d≠[]) (fv:∀ d∈v,f d≠[]):lr f n u = lr f n v↔stp f n u = stp f n v:=by
 constructor
 ·intro h
  rw [N7 (DX n u hu fu),N7 (DX n v hv fv),h]
 ·intro h
  refine (NF hu hv fu fv).mpr fun x=>?_
  rw [← L7 x n u hu,← L7 x n v hv,h]
theorem W3 {u:List Nat} (hu:u.length≤n) (fu:∀ d∈u,f d≠[]):Alike f n (lr f n u) (lr f n u):=by
 refine ⟨by rw [P4 hu fu]; exact hu,fun d hd=>fu d ((Tp (DX n u hu fu) d).mpr hd),?_⟩
 exact (We n (DX n u hu fu)).symm
end St
end
section
namespace Gk15
open PySem PySem.Spec PyProof.Rows L2 J
noncomputable def top (i:Nat):Stmt:=PySem.Challenge.pw_handsapart_k15_whole_alike_three_ways.main.body.getD i (.Pass ⟨0,0,0,0⟩)
noncomputable def Cw:MS:=Ap (ifS (AG (opM eqA (m2L (opM ixA (m2L (Ab 0) (Ae (.int 1)))) (Ae (.int 0))))) (Ap (Ar 2 (opM Ip (m2L (opM ixA (m2L (Ab 0) (Ae (.int 0)))) (Ab 1)))) (Ap (LS 0 (Ae (.int 0)) (opM Lf (m2L (opM ixA (m2L (Ab 0) (Ae (.int 0)))) (Ab 1)))) (retS (Ab 2)))) AY) (Ap (LS 0 (Ae (.int 0)) (opM Ip (m2L (opM Az (m2L (opM Az (m2L (opM MB (m2L (opM ixA (m2L (Ab 0) (Ae (.int 0)))) (Ae (.int 48271)))) (opM MB (m2L (opM MB (m2L (Ae (.int 7919)) (opM ixA (m2L (Ab 0) (Ae (.int 1)))))) (opM ixA (m2L (Ab 0) (Ae (.int 1)))))))) (Ae (.int 17)))) (Ae (.int 2147483647))))) (Ap (LS 0 (Ae (.int 1)) (opM Az (m2L (opM ixA (m2L (Ab 0) (Ae (.int 1)))) (Ae (.int 1))))) (retS (opM Ip (m2L (opM Lf (m2L (opM Ip (m2L (opM MB (m2L (opM ixA (m2L (Ab 0) (Ae (.int 0)))) (Ae (.int 69621)))) (Ae (.int 2147483629)))) (Ae (.int 5)))) (Ab 1))))))
noncomputable def Ag:Fn:=fnM 2 3 Cw
noncomputable def DM:MS:=Ap (Ar 1 (opM Az (m2L (Ae (.int 2)) (Af Ag (Aa (Ab 0) (Aa (Ae (.int 3)) Ad)))))) (Ap (Ar 2 (opM Az (m2L (Ae (.int 1)) (Af Ag (Aa (Ab 0) (Aa (Ae (.int 6)) Ad)))))) (Ap (Ar 3 (Af Ag (Aa (Ab 0) (Aa (Ae (.int 2)) Ad)))) (Ap (Ar 4 (lstM Ad)) (Ap (Ar 5 (Ae (.int 0))) (Ap (GU [6] true (Bt (Ab 2)) (Ap (Ar 5 (opM Az (m2L (Ab 5) (Af Ag (Aa (Ab 0) (Aa (opM BN (m2L (opM Az (m2L (opM BN (m2L (Ae (.int 27)) (Ab 2))) (Ab 6))) (Ab 5))) Ad)))))) (Ap (Ar 7 (opM Az (m2L (Ae (.int 1)) (Af Ag (Aa (Ab 0) (Aa (opM BN (m2L (opM Ew (m2L (Ae (.int 1)) (Ab 1))) (Ae (.int 1)))) Ad)))))) (Ap (ifS (AG (opM eqA (m2L (Ab 3) (Ae (.int 1))))) (Ar 7 (opM Mm (m2L (opM Ew (m2L (Ae (.int 1)) (Af Ag (Aa (Ab 0) (Aa (Ab 1) Ad))))) (opM Ew (m2L (Ae (.int 1)) (Af Ag (Aa (Ab 0) (Aa (Ab 1) Ad)))))))) AY) (Ap (DB 4 (Fs (Aa (AW (opM ixA (m2L (Ae (.str (Str.ofString "abcdefghijklmnopqrstuvwxyz"))) (Ab 5)))) (Aa (AW (A4 (Bt (Ab 1)) 0 (AG (opM eqA (m2L (opM Ge (m2L (opM Hr (m2L (Ab 8) (Ab 0))) (Ae (.int 1)))) (Ae (.int 1))))) (Ab 0))) Ad)))) (Ar 5 (opM Az (m2L (Ab 5) (Ae (.int 1)))))))))) (retS (Fs (Aa (AW (Ab 1)) (Aa (AW (Ab 4)) Ad)))))))))
noncomputable def B1:Fn:=fnM 1 8 DM
noncomputable def CW:MS:=Ap (ifS (AG (opM geA (m2L (opM O8 (Aa (Ab 0) Ad)) (opM SG (m2L (Ae (.int 10)) (Ae (.int 18))))))) (retS (lstM (Aa (AW (opM O8 (Aa (Ab 0) Ad))) (Aa (AW (Ae (.int 0))) Ad)))) AY) (retS (lstM (Aa (AW (opM Ip (m2L (Ab 0) (Ae (.int 2147483647))))) (Aa (AW (Ae (.int 1))) Ad))))
noncomputable def Bu:Fn:=fnM 1 1 CW
noncomputable def BB:MS:=Ap (Ar 3 (opM Nm (Aa (opM ixA (m2L (Ab 0) (Ae (.int 1)))) Ad))) (Ap (ifS (AG (opM eqA (m2L (Ab 1) (Ab 2)))) (retS (Ae (.bl false))) AY) (retS (opM eqA (m2L (A4 (Dy (opM EX (m2L (Ab 3) (Ab 1)))) 0 (AG (opM (inA false) (m2L (Ab 0) (opM EX (m2L (Ab 4) (Ab 3)))))) (Ab 0)) (lstM Ad)))))
noncomputable def Bh:Fn:=fnM 3 4 BB
noncomputable def Ea:MS:=Ap (Ar 3 (opM Ld (m2L (Ab 1) (Ae (.int 0))))) (Ap (Ar 4 (lstM (Aa (AW (Ab 1)) Ad))) (Ap (Ar 5 (Ae (.int 0))) (Ap (F9 301 (J0 (AG (opM ltA (m2L (Ab 5) (opM Bs (Aa (Ab 4) Ad))))) (AG (opM ltA (m2L (opM Bs (Aa (Ab 4) Ad)) (Ab 2))))) (Ap (Ar 6 (opM ixA (m2L (Ab 4) (Ab 5)))) (Ap (GU [7] true (Bt (opM BN (m2L (opM Bs (Aa (Ab 6) Ad)) (Ae (.int 1))))) (ifS (AG (Af Bh (Aa (Ab 0) (Aa (opM ixA (m2L (Ab 6) (Ab 7))) (Aa (opM ixA (m2L (Ab 6) (opM Az (m2L (Ab 7) (Ae (.int 1)))))) Ad))))) (Ap (Ar 8 (opM Ct (Aa (Ab 6) (Aa (Ab 7) (Aa (opM Az (m2L (Ab 7) (Ae (.int 2)))) Ad))))) (Ap (Ar 9 (opM Az (m2L (opM Az (m2L (opM DE (m2L (Ab 6) (Ab 7))) (opM MR (m2L (Ab 8) (opM ER (m1L (Ae (.int 1)))))))) (opM Dn (m2L (Ab 6) (opM Az (m2L (Ab 7) (Ae (.int 2))))))))) (ifS (AG (opM (J9 true) (m2L (Ab 9) (Ab 3)))) (Ap (He 3 (Ab 9) (opM Az (m2L (opM EX (m2L (Ab 3) (Ab 6))) (Ae (.int 1))))) (DB 4 (Ab 9))) AY))) AY)) (Ar 5 (opM Az (m2L (Ab 5) (Ae (.int 1)))))))) (retS (Ab 3)))))
noncomputable def AL:Fn:=fnM 3 10 Ea
noncomputable def Cp:MS:=Ap (Ar 2 (Af AL (Aa (Ab 0) (Aa (Ab 1) (Aa (Ae (.int 300)) Ad))))) (Ap (F9 41 (AG (opM gtA (m2L (opM P2 (Aa (Ab 2) Ad)) (Ae (.int 299))))) (Ap (Ar 1 (opM DE (m2L (Ab 1) (opM ER (m1L (Ae (.int 1))))))) (Ar 2 (Af AL (Aa (Ab 0) (Aa (Ab 1) (Aa (Ae (.int 300)) Ad))))))) (retS (Fs (Aa (AW (Ab 1)) (Aa (Ab 2) Ad)))))
noncomputable def Bi:Fn:=fnM 2 3 Cp
noncomputable def Cv:MS:=Ap (ifS (AG (opM ltA (m2L (Ab 1) (opM Bs (Aa (Ab 0) Ad))))) (retS (opM ixA (m2L (Ab 0) (Ab 1)))) AY) (retS (Ae (.int 0)))
noncomputable def AZ:Fn:=fnM 2 2 Cv
noncomputable def DO:MS:=retS (andM (opM (E9 isBool) (m1L (Ab 0))) (opM eqA (m2L (Ab 0) (Ab 1))))
noncomputable def B3:Fn:=fnM 2 2 DO
noncomputable def Hd:MS:=retS (andM (opM (E9 isTup) (m1L (Ab 0))) (opM eqA (m2L (opM Bs (Aa (Ab 0) Ad)) (Ae (.int 2)))))
noncomputable def CI:Fn:=fnM 1 1 Hd
noncomputable def Gi:MS:=retS (andM (opM (E9 isInt) (m1L (Ab 0))) (notM (opM (E9 isBool) (m1L (Ab 0)))))
noncomputable def B9:Fn:=fnM 1 1 Gi
noncomputable def C3:MS:=retS (andM (Af B9 (Aa (Ab 0) Ad)) (Jc leA leA (Ae (.int 2)) (Ab 0) (Ae (.int 4))))
noncomputable def Bq:Fn:=fnM 1 1 C3
noncomputable def Dz:MS:=retS (andM (Af B9 (Aa (Ab 0) Ad)) (Jc leA ltA (Ae (.int 0)) (Ab 0) (Ab 1)))
noncomputable def Bj:Fn:=fnM 2 2 Dz
noncomputable def B5:MS:=retS (opM HQ (Aa (A4 (Dy (Ab 0)) 0 D0 (Af Bj (Aa (Ab 0) (Aa (Ab 2) Ad)))) Ad))
noncomputable def BC:Fn:=fnM 2 2 B5
noncomputable def BY:MS:=retS (andM (opM (E9 Hh) (m1L (Ab 0))) (Af BC (Aa (Ab 0) (Aa (Ab 1) Ad))))
noncomputable def AO:Fn:=fnM 2 2 BY
noncomputable def Cy:MS:=Ap (ifS (Dm (AG (Af AO (Aa (Ab 0) (Aa (Ab 1) Ad))))) (retS (Ae (.bl false))) AY) (retS (opM HQ (Aa (A4 (Bt (opM BN (m2L (opM Bs (Aa (Ab 0) Ad)) (Ae (.int 1))))) 0 D0 (opM ltA (m2L (opM ixA (m2L (Ab 1) (Ab 0))) (opM ixA (m2L (Ab 1) (opM Az (m2L (Ab 0) (Ae (.int 1))))))))) Ad)))
noncomputable def A5:Fn:=fnM 2 2 Cy
noncomputable def DA:MS:=retS (andM (opM (E9 isStr) (m1L (Ab 0))) (andM (opM eqA (m2L (opM Bs (Aa (Ab 0) Ad)) (Ae (.int 1)))) (Jc leA leA (Ae (.str (Str.ofString "a"))) (Ab 0) (Ae (.str (Str.ofString "z"))))))
noncomputable def By:Fn:=fnM 1 1 DA
noncomputable def Gg:MS:=Ap (ifS (orT (Dm (AG (Af CI (Aa (Ab 1) Ad)))) (Dm (AG (Af By (Aa (opM ixA (m2L (Ab 1) (Ae (.int 0)))) Ad))))) (retS (Ae (.bl false))) AY) (retS (andM (Af A5 (Aa (opM ixA (m2L (Ab 1) (Ae (.int 1)))) (Aa (Ab 0) Ad))) (opM gtA (m2L (opM Bs (Aa (opM ixA (m2L (Ab 1) (Ae (.int 1)))) Ad)) (Ae (.int 0))))))
noncomputable def CP:Fn:=fnM 2 2 Gg
noncomputable def Dt:MS:=Ap (ifS (orT (Dm (AG (opM (E9 Hh) (m1L (Ab 1))))) (Dm (AG (Jc leA leA (Ae (.int 1)) (opM Bs (Aa (Ab 1) Ad)) (Ae (.int 6)))))) (retS (Ae (.bl false))) AY) (Ap (ifS (Dm (AG (opM HQ (Aa (A4 (Dy (Ab 1)) 0 D0 (Af CP (Aa (Ab 1) (Aa (Ab 0) Ad)))) Ad)))) (retS (Ae (.bl false))) AY) (retS (opM HQ (Aa (A4 (Bt (opM BN (m2L (opM Bs (Aa (Ab 1) Ad)) (Ae (.int 1))))) 0 D0 (opM ltA (m2L (opM ixA (m2L (opM ixA (m2L (Ab 2) (Ab 0))) (Ae (.int 0)))) (opM ixA (m2L (opM ixA (m2L (Ab 2) (opM Az (m2L (Ab 0) (Ae (.int 1)))))) (Ae (.int 0))))))) Ad))))
noncomputable def CZ:Fn:=fnM 2 2 Dt
noncomputable def Gh:MS:=Ap (ifS (Dm (AG (Af CI (Aa (Ab 0) Ad)))) (retS (Ae (.bl false))) AY) (retS (andM (Af Bq (Aa (opM ixA (m2L (Ab 0) (Ae (.int 0)))) Ad)) (Af CZ (Aa (opM ixA (m2L (Ab 0) (Ae (.int 0)))) (Aa (opM ixA (m2L (Ab 0) (Ae (.int 1)))) Ad)))))
noncomputable def Dk:Fn:=fnM 1 1 Gh
noncomputable def E5:MS:=ifS (Dm (AG (Af Dk (Aa (Ab 0) Ad)))) (IS) AY
noncomputable def Cz:Fn:=fnM 1 1 E5
noncomputable def DP:MS:=retS (DF CB (Ae (.str (Str.ofString ""))) (m1L (A4 (Dy (opM ixA (m2L (Ab 0) (Ae (.int 1))))) 0 D0 (opM ixA (m2L (Ab 0) (Ae (.int 0)))))))
noncomputable def B4:Fn:=fnM 1 1 DP
noncomputable def FN:MS:=Ap (EJ (Af Cz (Aa (Ab 0) Ad))) (Ap (ifS (Dm (AG (opM (E9 isStr) (m1L (Ab 1))))) (retS (Ae (.bl false))) AY) (Ap (Ar 2 (Af B4 (Aa (Ab 0) Ad))) (retS (opM HQ (Aa (A4 (L8 (Ab 1)) 0 D0 (opM (inA false) (m2L (Ab 0) (Ab 3)))) Ad)))))
noncomputable def Fv:Fn:=fnM 2 3 FN
noncomputable def Gj:MS:=ifS (Dm (AG (Af Fv (Aa (Ab 0) (Aa (Ab 1) Ad))))) (IS) AY
noncomputable def AE:Fn:=fnM 2 2 Gj
noncomputable def EI:MS:=retS (opM ixA (m2L (opM ixA (m2L (opM ixA (m2L (Ab 0) (Ae (.int 1)))) (DF Ic (Af B4 (Aa (Ab 0) Ad)) (m1L (Ab 1))))) (Ae (.int 1))))
noncomputable def B8:Fn:=fnM 2 2 EI
noncomputable def Cq:MS:=retS (opM Pa (Aa (A4 (Dy (Ab 0)) 0 D0 (opM (inA false) (m2L (Ab 0) (Ab 2)))) Ad))
noncomputable def A2:Fn:=fnM 2 2 Cq
noncomputable def C6:MS:=Ap (Ar 2 (lstM Ad)) (Ap (Ar 3 (lstM Ad)) (Ap (GU [4,5] false (El (Ab 1)) (Ap (Ar 6 (Af B8 (Aa (Ab 0) (Aa (Ab 5) Ad)))) (Ap (ifS (Dm (AG (Af A2 (Aa (Ab 6) (Aa (Ab 3) Ad))))) (DB 2 (Ab 4)) AY) (GS 3 (Ab 6))))) (retS (Ab 2))))
noncomputable def AI:Fn:=fnM 2 7 C6
noncomputable def CH:MS:=retS (opM NG (m2L (Af AI (Aa (Ab 0) (Aa (Ab 1) Ad))) (Ab 1)))
noncomputable def Au:Fn:=fnM 2 2 CH
noncomputable def C7:MS:=Ap (Ar 2 (lstM Ad)) (Ap (F9 41 (Hu (Ab 1)) (Ap (Ar 3 (Af Au (Aa (Ab 0) (Aa (Ab 1) Ad)))) (Ap (DB 2 (opM ixA (m2L (Ab 1) (Ab 3)))) (Ar 1 (opM Az (m2L (opM DE (m2L (Ab 1) (Ab 3))) (opM Dn (m2L (Ab 1) (opM Az (m2L (Ab 3) (Ae (.int 1)))))))))))) (retS (DF CB (Ae (.str (Str.ofString ""))) (m1L (Ab 2)))))
noncomputable def CF:Fn:=fnM 2 4 C7
noncomputable def Ed:MS:=Ap (EJ (Af AE (Aa (Ab 0) (Aa (Ab 1) Ad)))) (retS (Af CF (Aa (Ab 0) (Aa (Ab 1) Ad))))
noncomputable def BD:Fn:=fnM 2 2 Ed
noncomputable def GP:MS:=Ap (EJ (Af AE (Aa (Ab 0) (Aa (Ab 1) Ad)))) (Ap (Ar 2 (lstM Ad)) (Ap (F9 41 (Hu (Ab 1)) (Ap (Ar 3 (Af AI (Aa (Ab 0) (Aa (Ab 1) Ad)))) (Ap (DB 2 (DF CB (Ae (.str (Str.ofString ""))) (m1L (opM D7 (Aa (A4 (Dy (Ab 3)) 0 D0 (opM ixA (m2L (Ab 2) (Ab 0)))) Ad))))) (Ar 1 (DF CB (Ae (.str (Str.ofString ""))) (m1L (A4 (El (Ab 1)) 2 (AG (opM (inA true) (m2L (Ab 0) (Ab 5)))) (Ab 1)))))))) (retS (Ab 2))))
noncomputable def BJ:Fn:=fnM 2 4 GP
noncomputable def E6:MS:=Ap (Ar 3 (A4 (Dy (opM ixA (m2L (Ab 0) (Ae (.int 1))))) 2 (AG (opM (inA false) (m2L (Ab 4) (Ab 1)))) (Ab 0))) (retS (DF CB (Ae (.str (Str.ofString ""))) (m1L (A4 (L8 (Ab 1)) 0 (AG (opM (inA false) (m2L (Ab 0) (Ab 4)))) (Ab 0)))))
noncomputable def AB:Fn:=fnM 3 4 E6
noncomputable def Du:MS:=retS (A4 (Bt (opM ixA (m2L (Ab 0) (Ae (.int 0))))) 0 D0 (Af AB (Aa (Ab 1) (Aa (Ab 2) (Aa (Ab 0) Ad)))))
noncomputable def Bz:Fn:=fnM 2 2 Du
noncomputable def Eb:MS:=retS (opM eqA (m2L (Af Bz (Aa (Ab 0) (Aa (Ab 1) Ad))) (Af Bz (Aa (Ab 0) (Aa (Ab 2) Ad)))))
noncomputable def DC:Fn:=fnM 3 3 Eb
noncomputable def GO:MS:=Ap (EJ (Af AE (Aa (Ab 0) (Aa (Ab 1) Ad)))) (Ap (EJ (Af AE (Aa (Ab 0) (Aa (Ab 2) Ad)))) (retS (Af DC (Aa (Ab 0) (Aa (Ab 1) (Aa (Ab 2) Ad))))))
noncomputable def Em:Fn:=fnM 3 3 GO
noncomputable def BZ:MS:=Ap (ifS (AG (opM eqA (m2L (Ab 0) (Ab 1)))) (retS (Ae .non)) AY) (Ap (Ar 2 (Ae (.int 0))) (Ap (F9 41 (AG (opM eqA (m2L (opM Ct (Aa (Ab 0) (Aa (Ab 2) (Aa (opM Az (m2L (Ab 2) (Ae (.int 1)))) Ad)))) (opM Ct (Aa (Ab 1) (Aa (Ab 2) (Aa (opM Az (m2L (Ab 2) (Ae (.int 1)))) Ad))))))) (Ru 2 (Ae (.int 1)))) (retS (Ab 2))))
noncomputable def AV:Fn:=fnM 2 3 BZ
noncomputable def B7:MS:=Ap (EJ (Af AE (Aa (Ab 0) (Aa (Ab 1) Ad)))) (Ap (EJ (Af AE (Aa (Ab 0) (Aa (Ab 2) Ad)))) (Ap (GU [3] true (Bt (opM ixA (m2L (Ab 0) (Ae (.int 0))))) (Ap (Ar 4 (Af AV (Aa (Af AB (Aa (Ab 0) (Aa (Ab 1) (Aa (Ab 3) Ad)))) (Aa (Af AB (Aa (Ab 0) (Aa (Ab 2) (Aa (Ab 3) Ad)))) Ad)))) (ifS (AG (opM nnA (m2L (Ab 4) (Ae .non)))) (retS (Fs (Aa (AW (Ab 3)) (Aa (AW (Ab 4)) Ad)))) AY))) (retS (Ae .non))))
noncomputable def Bv:Fn:=fnM 3 5 B7
noncomputable def DN:MS:=Ap (Ar 4 (opM (J9 false) (m2L (Ab 3) (Ab 2)))) (Ap (ifS (orT (Dm (AG (Af B3 (Aa (Af Em (Aa (Ab 0) (Aa (Ab 1) (Aa (Ab 3) Ad)))) (Aa (Ab 4) Ad))))) (AG (opM neA (m2L (opM PB (m2L (Af Bv (Aa (Ab 0) (Aa (Ab 1) (Aa (Ab 3) Ad)))) (Ae .non))) (Ab 4))))) (retS (Ae (.bl false))) AY) (Ap (ifS (AG (opM neA (m2L (opM eqA (m2L (Af BD (Aa (Ab 0) (Aa (Ab 3) Ad))) (opM Je (Aa (opM Ff (Aa (Ab 2) Ad)) Ad)))) (Ab 4)))) (retS (Ae (.bl false))) AY) (retS (opM eqA (m2L (opM eqA (m2L (Af BJ (Aa (Ab 0) (Aa (Ab 3) Ad))) (Af BJ (Aa (Ab 0) (Aa (Ab 1) Ad))))) (Ab 4))))))
noncomputable def BG:Fn:=fnM 4 5 DN
noncomputable def Ec:MS:=Ap (EJ (Af AE (Aa (Ab 0) (Aa (Ab 1) Ad)))) (Ap (Ar 2 (lstM Ad)) (Ap (GU [3] true (Bt (opM Bs (Aa (Ab 1) Ad))) (Ap (Ar 4 (opM Az (m2L (Ab 3) (Af Au (Aa (Ab 0) (Aa (opM Dn (m2L (Ab 1) (Ab 3))) Ad)))))) (Ap (GS 2 (opM FI (Aa (opM BN (m2L (Ab 4) (Ae (.int 1)))) (Aa (opM BN (m2L (Ab 3) (Ae (.int 1)))) (Aa (opM ER (m1L (Ae (.int 1)))) Ad))))) (Ar 1 (opM Az (m2L (opM Az (m2L (opM Az (m2L (opM DE (m2L (Ab 1) (Ab 3))) (opM ixA (m2L (Ab 1) (Ab 4))))) (opM Ct (Aa (Ab 1) (Aa (Ab 3) (Aa (Ab 4) Ad)))))) (opM Dn (m2L (Ab 1) (opM Az (m2L (Ab 4) (Ae (.int 1)))))))))))) (retS (Ab 2))))
noncomputable def BR:Fn:=fnM 2 5 Ec
noncomputable def J8:MS:=Ap (Ar 1 (Af B1 (Aa (Af Bu (Aa (Af AZ (Aa (Ab 0) (Aa (Ae (.int 0)) Ad))) Ad)) Ad))) (Ap (Ar 2 (Af Bu (Aa (Af AZ (Aa (Ab 0) (Aa (Ae (.int 1)) Ad))) Ad))) (Ap (Ar 3 (DF CB (Ae (.str (Str.ofString ""))) (m1L (A4 (Bt (Af Ag (Aa (Ab 2) (Aa (Ae (.int 8)) Ad)))) 0 D0 (opM ixA (m2L (opM ixA (m2L (opM ixA (m2L (Ab 2) (Ae (.int 1)))) (Af Ag (Aa (Ab 3) (Aa (opM Bs (Aa (opM ixA (m2L (Ab 2) (Ae (.int 1)))) Ad)) Ad))))) (Ae (.int 0)))))))) (Ap (K1 [3,4] (Af Bi (Aa (Ab 1) (Aa (Ab 3) Ad)))) (Ap (Ar 5 (opM Ff (Aa (Ab 4) Ad))) (Ap (Ar 6 (opM Je (Aa (Ab 5) Ad))) (Ap (Ar 7 (Af AL (Aa (Ab 1) (Aa (Ab 6) (Aa (Ae (.int 300)) Ad))))) (Ap (GU [8] true (Bt (Ae (.int 8))) (Ap (Ar 9 (opM ixA (m2L (Ab 5) (Af Ag (Aa (Ab 2) (Aa (opM Bs (Aa (Ab 5) Ad)) Ad)))))) (Ap (ifS (AG (opM neA (m2L (opM Bs (Aa (Af BR (Aa (Ab 1) (Aa (Ab 9) Ad))) Ad)) (opM EX (m2L (Ab 7) (Ab 9)))))) (retS (Ae (.bl false))) AY) (Ap (ifS (AG (opM eqA (m2L (opM Ip (m2L (Ab 8) (Ae (.int 2)))) (Ae (.int 1))))) (Ap (Ar 10 (Af Ag (Aa (Ab 2) (Aa (opM Az (m2L (opM Bs (Aa (Ab 9) Ad)) (Ae (.int 1)))) Ad)))) (Ar 9 (opM Az (m2L (opM Az (m2L (opM DE (m2L (Ab 9) (Ab 10))) (opM ixA (m2L (opM ixA (m2L (opM ixA (m2L (Ab 1) (Ae (.int 1)))) (Af Ag (Aa (Ab 2) (Aa (opM Bs (Aa (opM ixA (m2L (Ab 1) (Ae (.int 1)))) Ad)) Ad))))) (Ae (.int 0)))))) (opM Dn (m2L (Ab 9) (opM Az (m2L (Ab 10) (Ae (.int 1)))))))))) AY) (ifS (Dm (AG (Af BG (Aa (Ab 1) (Aa (Ab 3) (Aa (Ab 4) (Aa (Ab 9) Ad))))))) (retS (Ae (.bl false))) AY))))) (retS (Ae (.bl true))))))))))
noncomputable def H0:Fn:=fnM 1 11 J8
local macro_rules | `(tactic| walk_at $s:str)=>do
 let n:=s.getString
 if n.startsWith "v" && n.length < 4 && n != "vis" then `(tactic| exact UQ $(Lean.quote (n.drop 1).toNat!) rfl (by walk_at "vis") dK dK) else Lean.Macro.throwUnsupported
local macro_rules | `(tactic| walk_at "vis")=>`(tactic| first | exact .inl rfl | exact .inr (.inl rfl) | exact .inr (.inr rfl))
local macro_rules | `(tactic| walk_at "loc")=>`(tactic| first | exact .inl rfl | exact .inr rfl)
structure Blt2 (mg:Str→Option Value):Prop where
 sorted:mg "sorted" = none
 set:mg "set" = none
 enumerate:mg "enumerate" = none
section
variable {P:Program} {w:World} {K:Frag} {mg:Str→Option Value} {base:Heap}
theorem Ko {f:Addr} {fd:FuncData} (F:Fun K "_law_take" "_law_take" (top 44) f fd) (B:Blt mg K) (B2:Blt2 mg) :
  FnOk P w K mg base CX0 1 f fd ["_law_bag_here","_law_many"] (spJ K Ag 2):=by
 refine Bc (N:=["_law_bag_here","_law_many","_law_digit"]) F ⟨rfl,rfl,rfl,by decide +kernel,rfl,by decide +kernel,by decide +kernel⟩ fun cdv A outer s H E hr=>?_
 have nd3:List.Nodup (["_law_bag_here","_law_many","_law_digit"]:List Str):=by decide +kernel
 refine Ah ?_ ?_
 refine Ca ?_ ?_ ?_
 refine BL DU (CK hr) (Bd _) ?_ ?_
 refine AR AS AF (fun _ _=>rfl) ?_ ?_
 walk_at "v0"
 exact Ak
 exact Ak
 refine Ah ?_ ?_
 refine AD 2 nd3 rfl (by walk_at "loc") rfl rfl ?_
 refine Av G4 G5 ?_ ?_
 refine AR AS AF (fun _ _=>rfl) ?_ ?_
 walk_at "v0"
 exact Ak
 walk_at "v1"
 refine Ah ?_ ?_
 refine Mx 0 rfl (by walk_at "vis") dK dK (fun _=>rfl) rfl rfl rfl ?_ ?_
 exact Ak
 refine Av NI NK ?_ ?_
 refine AR AS AF (fun _ _=>rfl) ?_ ?_
 walk_at "v0"
 exact Ak
 walk_at "v1"
 refine Al ?_
 refine Ax ?_
 walk_at "v2"
 exact A7
 refine Ah ?_ ?_
 refine Mx 0 rfl (by walk_at "vis") dK dK (fun _=>rfl) rfl rfl rfl ?_ ?_
 exact Ak
 refine Av G4 G5 ?_ ?_
 refine Av A3 AM ?_ ?_
 refine Av A3 AM ?_ ?_
 refine Av Kt Ku ?_ ?_
 refine AR AS AF (fun _ _=>rfl) ?_ ?_
 walk_at "v0"
 exact Ak
 exact Ak
 refine Av Kt Ku ?_ ?_
 refine Av Kt Ku ?_ ?_
 exact Ak
 refine AR AS AF (fun _ _=>rfl) ?_ ?_
 walk_at "v0"
 exact Ak
 refine AR AS AF (fun _ _=>rfl) ?_ ?_
 walk_at "v0"
 exact Ak
 exact Ak
 exact Ak
 refine Ah ?_ ?_
 refine Mx 0 rfl (by walk_at "vis") dK dK (fun _=>rfl) rfl rfl rfl ?_ ?_
 exact Ak
 refine Av A3 AM ?_ ?_
 refine AR AS AF (fun _ _=>rfl) ?_ ?_
 walk_at "v0"
 exact Ak
 exact Ak
 refine Al ?_
 refine Ax ?_
 refine Av G4 G5 ?_ ?_
 refine Av NI NK ?_ ?_
 refine Av G4 G5 ?_ ?_
 refine Av Kt Ku ?_ ?_
 refine AR AS AF (fun _ _=>rfl) ?_ ?_
 walk_at "v0"
 exact Ak
 exact Ak
 exact Ak
 exact Ak
 walk_at "v1"
theorem Jf {f:Addr} {fd:FuncData} (F:Fun K "_law_house" "_law_house" (top 45) f fd) (B:Blt mg K) (B2:Blt2 mg) (AN:Def P w K mg base CX0 1 "_law_take" ["_law_bag_here","_law_many"] (spJ K Ag 2)) :
  FnOk P w K mg base CX0 2 f fd ["_law_bag_here"] (spJ K B1 1):=by
 refine Bc (N:=["_law_bag_here","_law_hands","_law_many","_law_few","_law_letters","_law_at","_law_k","_law_bits"]) F ⟨rfl,rfl,rfl,by decide +kernel,rfl,by decide +kernel,by decide +kernel⟩ fun cdv A outer s H E hr=>?_
 have nd8:List.Nodup (["_law_bag_here","_law_hands","_law_many","_law_few","_law_letters","_law_at","_law_k","_law_bits"]:List Str):=by decide +kernel
 refine Ah ?_ ?_
 refine AD 1 nd8 rfl (by walk_at "loc") rfl rfl ?_
 refine Av A3 AM ?_ ?_
 exact Ak
 refine An AN Am rfl rfl rfl rfl rfl hr (by decide) Ay dK rfl rfl rfl ?_
 refine Ac rfl ?_ ?_
 walk_at "v0"
 refine Ac rfl ?_ ?_
 exact Ak
 exact Aj
 refine Ah ?_ ?_
 refine AD 2 nd8 rfl (by walk_at "loc") rfl rfl ?_
 refine Av A3 AM ?_ ?_
 exact Ak
 refine An AN Am rfl rfl rfl rfl rfl hr (by decide) Ay dK rfl rfl rfl ?_
 refine Ac rfl ?_ ?_
 walk_at "v0"
 refine Ac rfl ?_ ?_
 exact Ak
 exact Aj
 refine Ah ?_ ?_
 refine AD 3 nd8 rfl (by walk_at "loc") rfl rfl ?_
 refine An AN Am rfl rfl rfl rfl rfl hr (by decide) Ay dK rfl rfl rfl ?_
 refine Ac rfl ?_ ?_
 walk_at "v0"
 refine Ac rfl ?_ ?_
 exact Ak
 exact Aj
 refine Ah ?_ ?_
 refine AD 4 nd8 rfl (by walk_at "loc") rfl rfl ?_
 refine Ef ?_
 exact Aj
 refine Ah ?_ ?_
 refine AD 5 nd8 rfl (by walk_at "loc") rfl rfl ?_
 exact Ak
 refine Ah ?_ ?_
 refine GX PassesOwn.never rfl ?_ ?_ ?_ (fun _=>rfl)
 refine Dg rfl B.range rfl ?_
 walk_at "v2"
 exact ID 6 nd8 rfl (by walk_at "loc") rfl
 refine Ah ?_ ?_
 refine AD 5 nd8 rfl (by walk_at "loc") rfl rfl ?_
 refine Av A3 AM ?_ ?_
 walk_at "v5"
 refine An AN Am rfl rfl rfl rfl rfl hr (by decide) Ay dK rfl rfl rfl ?_
 refine Ac rfl ?_ ?_
 walk_at "v0"
 refine Ac rfl ?_ ?_
 refine Av Fj Fm ?_ ?_
 refine Av A3 AM ?_ ?_
 refine Av Fj Fm ?_ ?_
 exact Ak
 walk_at "v2"
 walk_at "v6"
 walk_at "v5"
 exact Aj
 refine Ah ?_ ?_
 refine AD 7 nd8 rfl (by walk_at "loc") rfl rfl ?_
 refine Av A3 AM ?_ ?_
 exact Ak
 refine An AN Am rfl rfl rfl rfl rfl hr (by decide) Ay dK rfl rfl rfl ?_
 refine Ac rfl ?_ ?_
 walk_at "v0"
 refine Ac rfl ?_ ?_
 refine Av Fj Fm ?_ ?_
 refine Av MH MN ?_ ?_
 exact Ak
 walk_at "v1"
 exact Ak
 exact Aj
 refine Ah ?_ ?_
 refine Ca ?_ ?_ ?_
 refine BL DU (CK hr) (Bd _) ?_ ?_
 walk_at "v3"
 exact Ak
 refine Al ?_
 refine AD 7 nd8 rfl (by walk_at "loc") rfl rfl ?_
 refine Av U9 Xd ?_ ?_
 refine Av MH MN ?_ ?_
 exact Ak
 refine An AN Am rfl rfl rfl rfl rfl hr (by decide) Ay dK rfl rfl rfl ?_
 refine Ac rfl ?_ ?_
 walk_at "v0"
 refine Ac rfl ?_ ?_
 walk_at "v1"
 exact Aj
 refine Av MH MN ?_ ?_
 exact Ak
 refine An AN Am rfl rfl rfl rfl rfl hr (by decide) Ay dK rfl rfl rfl ?_
 refine Ac rfl ?_ ?_
 walk_at "v0"
 refine Ac rfl ?_ ?_
 walk_at "v1"
 exact Aj
 exact A7
 refine Ah ?_ ?_
 refine Ii 4 rfl (by walk_at "vis") dK dK rfl rfl rfl rfl ?_
 refine HC ?_
 refine Ac rfl ?_ ?_
 refine B0 ?_
 refine AR AS AF (fun _ _=>rfl) ?_ ?_
 exact EM dK
 walk_at "v5"
 refine Ac rfl ?_ ?_
 refine B0 ?_
 refine Dv (by rfl) rfl nd8 (by rfl) (fun _=>rfl) ?_ ?_ ?_
 refine Dg rfl B.range rfl ?_
 walk_at "v1"
 refine Gw fun _ _ _ _ _=>?_
 refine BL DU (CK hr) (Bd _) ?_ ?_
 refine Av Sb Vh ?_ ?_
 refine Av Vf Vl ?_ ?_
 walk_at "v8"
 walk_at "v0"
 exact Ak
 exact Ak
 intro _ _ _ _ _
 walk_at "v0"
 exact Aj
 refine Al ?_
 refine AD 5 nd8 rfl (by walk_at "loc") rfl rfl ?_
 refine Av A3 AM ?_ ?_
 walk_at "v5"
 exact Ak
 refine Al ?_
 refine Ax ?_
 refine HC ?_
 refine Ac rfl ?_ ?_
 refine B0 ?_
 walk_at "v1"
 refine Ac rfl ?_ ?_
 refine B0 ?_
 walk_at "v4"
 exact Aj
theorem LB {f:Addr} {fd:FuncData} (F:Fun K "_law_bag" "_law_bag" (top 43) f fd) (B:Blt mg K) (B2:Blt2 mg) :
  FnOk P w K mg base CX0 1 f fd ["_law_cell_here"] (spJ K Bu 1):=by
 refine Bc (N:=["_law_cell_here"]) F ⟨rfl,rfl,rfl,by decide +kernel,rfl,by decide +kernel,by decide +kernel⟩ fun cdv A outer s H E hr=>?_
 refine Ah ?_ ?_
 refine Ca ?_ ?_ ?_
 refine BL W7 Xa (Bd _) ?_ ?_
 refine AJ Qe K5 B.abs Boot.«abs» dK dK rfl rfl rfl ?_
 refine Ac rfl ?_ ?_
 walk_at "v0"
 exact Aj
 refine Av Ve Vk ?_ ?_
 exact Ak
 exact Ak
 refine Al ?_
 refine Ax ?_
 refine Ef ?_
 refine Ac rfl ?_ ?_
 refine B0 ?_
 refine AJ Qe K5 B.abs Boot.«abs» dK dK rfl rfl rfl ?_
 refine Ac rfl ?_ ?_
 walk_at "v0"
 exact Aj
 refine Ac rfl ?_ ?_
 refine B0 ?_
 exact Ak
 exact Aj
 exact A7
 refine Al ?_
 refine Ax ?_
 refine Ef ?_
 refine Ac rfl ?_ ?_
 refine B0 ?_
 refine Av G4 G5 ?_ ?_
 walk_at "v0"
 exact Ak
 refine Ac rfl ?_ ?_
 refine B0 ?_
 exact Ak
 exact Aj
theorem G3 {f:Addr} {fd:FuncData} (F:Fun K "_law_are_free" "_law_are_free" (top 46) f fd) (B:Blt mg K) (B2:Blt2 mg) :
  FnOk P w K mg base CX0 1 f fd ["_law_house_here","_law_one","_law_other"] (spJ K Bh 3):=by
 refine Bc (N:=["_law_house_here","_law_one","_law_other","_law_owned"]) F ⟨rfl,rfl,rfl,by decide +kernel,rfl,by decide +kernel,by decide +kernel⟩ fun cdv A outer s H E hr=>?_
 have nd4:List.Nodup (["_law_house_here","_law_one","_law_other","_law_owned"]:List Str):=by decide +kernel
 refine Ah ?_ ?_
 refine AD 3 nd4 rfl (by walk_at "loc") rfl rfl ?_
 refine Ih Sd (Mo rfl) B.dict Boot.«dict» dK dK rfl rfl rfl ?_
 refine Ac rfl ?_ ?_
 refine AR AS AF (fun _ _=>rfl) ?_ ?_
 walk_at "v0"
 exact Ak
 exact Aj
 refine Ah ?_ ?_
 refine Ca ?_ ?_ ?_
 refine BL DU (CK hr) (Bd _) ?_ ?_
 walk_at "v1"
 walk_at "v2"
 refine Al ?_
 refine Ax ?_
 exact EV
 exact A7
 refine Al ?_
 refine Ax ?_
 refine C0 DU (CK hr) (Bd _) ?_ ?_
 refine Dv (by rfl) rfl nd4 (by rfl) (fun _=>rfl) ?_ ?_ ?_
 refine FR ?_
 refine Kd hr (fun _ _=>rfl) ?_ ?_
 walk_at "v3"
 walk_at "v1"
 refine Gw fun _ _ _ _ _=>?_
 refine BL (JK false) Iy (by with_unfolding_all rfl) ?_ ?_
 walk_at "v0"
 refine Kd hr (fun _ _=>rfl) ?_ ?_
 walk_at "v4"
 walk_at "v3"
 intro _ _ _ _ _
 walk_at "v0"
 refine Ef ?_
 exact Aj
theorem Kn {f:Addr} {fd:FuncData} (F:Fun K "_law_heap" "_law_heap" (top 47) f fd) (B:Blt mg K) (B2:Blt2 mg) (Dr:Def P w K mg base CX0 1 "_law_are_free" ["_law_house_here","_law_one","_law_other"] (spJ K Bh 3)) :
  FnOk P w K mg base CX0 2 f fd ["_law_house_here","_law_row","_law_most"] (spJ K AL 3):=by
 refine Bc (N:=["_law_house_here","_law_row","_law_most","_law_far","_law_todo","_law_at","_law_here","_law_place","_law_pair","_law_other"]) F ⟨rfl,rfl,rfl,by decide +kernel,rfl,by decide +kernel,by decide +kernel⟩ fun cdv A outer s H E hr=>?_
 have nd10:List.Nodup (["_law_house_here","_law_row","_law_most","_law_far","_law_todo","_law_at","_law_here","_law_place","_law_pair","_law_other"]:List Str):=by decide +kernel
 refine Ah ?_ ?_
 refine AD 3 nd10 rfl (by walk_at "loc") rfl rfl ?_
 exact PJ 1 rfl (by walk_at "vis") dK dK
 refine Ah ?_ ?_
 refine AD 4 nd10 rfl (by walk_at "loc") rfl rfl ?_
 refine Ef ?_
 refine Ac rfl ?_ ?_
 refine B0 ?_
 walk_at "v1"
 exact Aj
 refine Ah ?_ ?_
 refine AD 5 nd10 rfl (by walk_at "loc") rfl rfl ?_
 exact Ak
 refine Ah ?_ ?_
 refine Fc 301 PassesOwn.never ?_ ?_
 refine HE ?_
 refine UU ?_ ?_
 refine BL JL FA (Bd _) ?_ ?_
 walk_at "v5"
 refine AJ Cr Bb B.len Boot.«len» dK dK rfl rfl rfl ?_
 refine Ac rfl ?_ ?_
 walk_at "v4"
 exact Aj
 refine R0 ?_
 refine BL JL FA (Bd _) ?_ ?_
 refine AJ Cr Bb B.len Boot.«len» dK dK rfl rfl rfl ?_
 refine Ac rfl ?_ ?_
 walk_at "v4"
 exact Aj
 walk_at "v2"
 refine Ah ?_ ?_
 refine AD 6 nd10 rfl (by walk_at "loc") rfl rfl ?_
 refine AR AS AF (fun _ _=>rfl) ?_ ?_
 walk_at "v4"
 walk_at "v5"
 refine Ah ?_ ?_
 refine GX PassesOwn.never rfl ?_ ?_ ?_ (fun _=>rfl)
 refine Dg rfl B.range rfl ?_
 refine Av Fj Fm ?_ ?_
 refine AJ Cr Bb B.len Boot.«len» dK dK rfl rfl rfl ?_
 refine Ac rfl ?_ ?_
 walk_at "v6"
 exact Aj
 exact Ak
 exact ID 7 nd10 rfl (by walk_at "loc") rfl
 refine Al ?_
 refine Ca ?_ ?_ ?_
 refine C9 (fun _=>rfl) ?_
 refine An Dr Am rfl rfl rfl rfl rfl hr (by decide) Ay dK rfl rfl rfl ?_
 refine Ac rfl ?_ ?_
 walk_at "v0"
 refine Ac rfl ?_ ?_
 refine AR AS AF (fun _ _=>rfl) ?_ ?_
 walk_at "v6"
 walk_at "v7"
 refine Ac rfl ?_ ?_
 refine AR AS AF (fun _ _=>rfl) ?_ ?_
 walk_at "v6"
 refine Av A3 AM ?_ ?_
 walk_at "v7"
 exact Ak
 exact Aj
 refine Ah ?_ ?_
 refine AD 8 nd10 rfl (by walk_at "loc") rfl rfl ?_
 refine HB ?_ ?_ ?_
 walk_at "v6"
 walk_at "v7"
 refine Av A3 AM ?_ ?_
 walk_at "v7"
 exact Ak
 refine Ah ?_ ?_
 refine AD 9 nd10 rfl (by walk_at "loc") rfl rfl ?_
 refine Av A3 AM ?_ ?_
 refine Av A3 AM ?_ ?_
 refine Gu ?_ ?_
 walk_at "v6"
 walk_at "v7"
 refine UP ?_ ?_
 walk_at "v8"
 refine PR MF Nh ?_
 exact Ak
 refine Gv ?_ ?_
 walk_at "v6"
 refine Av A3 AM ?_ ?_
 walk_at "v7"
 exact Ak
 refine Al ?_
 refine Ca ?_ ?_ ?_
 refine RZ hr (by with_unfolding_all rfl) ?_ ?_
 walk_at "v9"
 walk_at "v3"
 refine Ah ?_ ?_
 refine RY 3 hr rfl (by walk_at "vis") dK dK rfl ?_ ?_
 walk_at "v9"
 refine Av A3 AM ?_ ?_
 refine Kd hr (fun _ _=>rfl) ?_ ?_
 walk_at "v3"
 walk_at "v6"
 exact Ak
 refine Al ?_
 refine Ii 4 rfl (by walk_at "vis") dK dK rfl rfl rfl rfl ?_
 walk_at "v9"
 exact A7
 exact A7
 refine Al ?_
 refine AD 5 nd10 rfl (by walk_at "loc") rfl rfl ?_
 refine Av A3 AM ?_ ?_
 walk_at "v5"
 exact Ak
 refine Al ?_
 refine Ax ?_
 walk_at "v3"
theorem FV {f:Addr} {fd:FuncData} (F:Fun K "_law_short_heap" "_law_short_heap" (top 48) f fd) (B:Blt mg K) (B2:Blt2 mg) (B6:Def P w K mg base CX0 2 "_law_heap" ["_law_house_here","_law_row","_law_most"] (spJ K AL 3)) :
  FnOk P w K mg base CX0 3 f fd ["_law_house_here","_law_row"] (spJ K Bi 2):=by
 refine Bc (N:=["_law_house_here","_law_row","_law_heap_here"]) F ⟨rfl,rfl,rfl,by decide +kernel,rfl,by decide +kernel,by decide +kernel⟩ fun cdv A outer s H E hr=>?_
 have nd3:List.Nodup (["_law_house_here","_law_row","_law_heap_here"]:List Str):=by decide +kernel
 refine Ah ?_ ?_
 refine AD 2 nd3 rfl (by walk_at "loc") rfl rfl ?_
 refine An B6 Am rfl rfl rfl rfl rfl hr (by decide) Ay dK rfl rfl rfl ?_
 refine Ac rfl ?_ ?_
 walk_at "v0"
 refine Ac rfl ?_ ?_
 walk_at "v1"
 refine Ac rfl ?_ ?_
 exact Ak
 exact Aj
 refine Ah ?_ ?_
 refine Fc 41 PassesOwn.never ?_ ?_
 refine BL TZ T1 (Bd _) ?_ ?_
 refine AJ Sf Of B.len Boot.«len» dK dK rfl rfl rfl ?_
 refine Ac rfl ?_ ?_
 walk_at "v2"
 exact Aj
 exact Ak
 refine Ah ?_ ?_
 refine AD 1 nd3 rfl (by walk_at "loc") rfl rfl ?_
 refine Gu ?_ ?_
 walk_at "v1"
 refine PR MF Nh ?_
 exact Ak
 refine Al ?_
 refine AD 2 nd3 rfl (by walk_at "loc") rfl rfl ?_
 refine An B6 Am rfl rfl rfl rfl rfl hr (by decide) Ay dK rfl rfl rfl ?_
 refine Ac rfl ?_ ?_
 walk_at "v0"
 refine Ac rfl ?_ ?_
 walk_at "v1"
 refine Ac rfl ?_ ?_
 exact Ak
 exact Aj
 refine Al ?_
 refine Ax ?_
 refine HC ?_
 refine Ac rfl ?_ ?_
 refine B0 ?_
 walk_at "v1"
 refine Ac rfl ?_ ?_
 walk_at "v2"
 exact Aj
theorem Km {f:Addr} {fd:FuncData} (F:Fun K "_law_cell" "_law_cell" (top 42) f fd) (B:Blt mg K) (B2:Blt2 mg) :
  FnOk P w K mg base CX0 1 f fd ["_law_script","_law_k"] (spJ K AZ 2):=by
 refine Bc (N:=["_law_script","_law_k"]) F ⟨rfl,rfl,rfl,by decide +kernel,rfl,by decide +kernel,by decide +kernel⟩ fun cdv A outer s H E hr=>?_
 refine Ah ?_ ?_
 refine Ca ?_ ?_ ?_
 refine BL JL FA (Bd _) ?_ ?_
 walk_at "v1"
 refine AJ Cr Bb B.len Boot.«len» dK dK rfl rfl rfl ?_
 refine Ac rfl ?_ ?_
 walk_at "v0"
 exact Aj
 refine Al ?_
 refine Ax ?_
 refine AR AS AF (fun _ _=>rfl) ?_ ?_
 walk_at "v0"
 walk_at "v1"
 exact A7
 refine Al ?_
 refine Ax ?_
 exact Ak
theorem Jh {f:Addr} {fd:FuncData} (F:Fun K "_law_truth" "_law_truth" (top 41) f fd) (B:Blt mg K) (B2:Blt2 mg) :
  FnOk P w K mg base CX0 1 f fd ["_law_found","_law_due"] (spJ K B3 2):=by
 refine Bc (N:=["_law_found","_law_due"]) F ⟨rfl,rfl,rfl,by decide +kernel,rfl,by decide +kernel,by decide +kernel⟩ fun cdv A outer s H E hr=>?_
 refine Al ?_
 refine Ax ?_
 refine Ee ?_ ?_
 refine PL rfl rfl B rfl rfl ?_
 walk_at "v0"
 refine EL ?_
 refine C0 DU (CK hr) (Bd _) ?_ ?_
 walk_at "v0"
 walk_at "v1"
theorem MD {f:Addr} {fd:FuncData} (F:Fun K "is_pair" "is_pair" (top 3) f fd) (B:Blt mg K) (B2:Blt2 mg) :
  FnOk P w K mg base CX0 1 f fd ["thing"] (spJ K CI 1):=by
 refine Bc (N:=["thing"]) F ⟨rfl,rfl,rfl,by decide +kernel,rfl,by decide +kernel,by decide +kernel⟩ fun cdv A outer s H E hr=>?_
 refine Al ?_
 refine Ax ?_
 refine Ee ?_ ?_
 refine UM rfl rfl B rfl rfl ?_
 walk_at "v0"
 refine EL ?_
 refine C0 DU (CK hr) (Bd _) ?_ ?_
 refine AJ Cr Bb B.len Boot.«len» dK dK rfl rfl rfl ?_
 refine Ac rfl ?_ ?_
 walk_at "v0"
 exact Aj
 exact Ak
theorem LH {f:Addr} {fd:FuncData} (F:Fun K "is_whole" "is_whole" (top 1) f fd) (B:Blt mg K) (B2:Blt2 mg) :
  FnOk P w K mg base CX0 1 f fd ["thing"] (spJ K B9 1):=by
 refine Bc (N:=["thing"]) F ⟨rfl,rfl,rfl,by decide +kernel,rfl,by decide +kernel,by decide +kernel⟩ fun cdv A outer s H E hr=>?_
 refine Al ?_
 refine Ax ?_
 refine Ee ?_ ?_
 refine UL rfl rfl B rfl rfl ?_
 walk_at "v0"
 refine EL ?_
 refine UO ?_
 refine PL rfl rfl B rfl rfl ?_
 walk_at "v0"
theorem Fi {f:Addr} {fd:FuncData} (F:Fun K "is_count_of_hands" "is_count_of_hands" (top 16) f fd) (B:Blt mg K) (B2:Blt2 mg) (C4:Def P w K mg base CX0 1 "is_whole" ["thing"] (spJ K B9 1)) (DS:GInt mg "FEWEST_HANDS" 2) (EK:GInt mg "MOST_HANDS" 4) :
  FnOk P w K mg base CX0 2 f fd ["thing"] (spJ K Bq 1):=by
 refine Bc (N:=["thing"]) F ⟨rfl,rfl,rfl,by decide +kernel,rfl,by decide +kernel,by decide +kernel⟩ fun cdv A outer s H E hr=>?_
 refine Al ?_
 refine Ax ?_
 refine Ee ?_ ?_
 refine An C4 Am rfl rfl rfl rfl rfl hr (by decide) Ay dK rfl rfl rfl ?_
 refine Ac rfl ?_ ?_
 walk_at "v0"
 exact Aj
 refine EL ?_
 refine Mv Iu Iu ES ES (by with_unfolding_all rfl) ?_ ?_ ?_
 exact Ke DS rfl dK
 walk_at "v0"
 exact Ke EK rfl dK
theorem FX {f:Addr} {fd:FuncData} (F:Fun K "is_number_below" "is_number_below" (top 2) f fd) (B:Blt mg K) (B2:Blt2 mg) (C4:Def P w K mg base CX0 1 "is_whole" ["thing"] (spJ K B9 1)) :
  FnOk P w K mg base CX0 2 f fd ["thing","bound"] (spJ K Bj 2):=by
 refine Bc (N:=["thing","bound"]) F ⟨rfl,rfl,rfl,by decide +kernel,rfl,by decide +kernel,by decide +kernel⟩ fun cdv A outer s H E hr=>?_
 refine Al ?_
 refine Ax ?_
 refine Ee ?_ ?_
 refine An C4 Am rfl rfl rfl rfl rfl hr (by decide) Ay dK rfl rfl rfl ?_
 refine Ac rfl ?_ ?_
 walk_at "v0"
 exact Aj
 refine EL ?_
 refine Mv Iu JL ES FA (by with_unfolding_all rfl) ?_ ?_ ?_
 exact Ak
 walk_at "v0"
 walk_at "v1"
theorem Fh {f:Addr} {fd:FuncData} (F:Fun K "are_numbers_below" "are_numbers_below" (top 5) f fd) (B:Blt mg K) (B2:Blt2 mg) (CT:Def P w K mg base CX0 2 "is_number_below" ["thing","bound"] (spJ K Bj 2)) :
  FnOk P w K mg base CX0 3 f fd ["things","bound"] (spJ K BC 2):=by
 refine Bc (N:=["things","bound"]) F ⟨rfl,rfl,rfl,by decide +kernel,rfl,by decide +kernel,by decide +kernel⟩ fun cdv A outer s H E hr=>?_
 have nd2:List.Nodup (["things","bound"]:List Str):=by decide +kernel
 refine Al ?_
 refine Ax ?_
 refine AJ Iq (E4 rfl) B.all Boot.«all» dK dK rfl rfl rfl ?_
 refine Ac rfl ?_ ?_
 refine Dv (by rfl) rfl nd2 (by rfl) (fun _=>rfl) ?_ ?_ ?_
 refine FR ?_
 walk_at "v0"
 exact Dh
 intro _ _ _ _ _
 refine An CT Am rfl rfl rfl rfl rfl hr (by decide) Ay dK rfl rfl rfl ?_
 refine Ac rfl ?_ ?_
 walk_at "v0"
 refine Ac rfl ?_ ?_
 walk_at "v2"
 exact Aj
 exact Aj
theorem DD {f:Addr} {fd:FuncData} (F:Fun K "is_list_of_numbers_below" "is_list_of_numbers_below" (top 4) f fd) (B:Blt mg K) (B2:Blt2 mg) (Cn:Def P w K mg base CX0 3 "are_numbers_below" ["things","bound"] (spJ K BC 2)) :
  FnOk P w K mg base CX0 4 f fd ["thing","bound"] (spJ K AO 2):=by
 refine Bc (N:=["thing","bound"]) F ⟨rfl,rfl,rfl,by decide +kernel,rfl,by decide +kernel,by decide +kernel⟩ fun cdv A outer s H E hr=>?_
 refine Al ?_
 refine Ax ?_
 refine Ee ?_ ?_
 refine PM rfl rfl B rfl rfl ?_
 walk_at "v0"
 refine EL ?_
 refine An Cn Am rfl rfl rfl rfl rfl hr (by decide) Ay dK rfl rfl rfl ?_
 refine Ac rfl ?_ ?_
 walk_at "v0"
 refine Ac rfl ?_ ?_
 walk_at "v1"
 exact Aj
theorem Es {f:Addr} {fd:FuncData} (F:Fun K "is_rising_list_below" "is_rising_list_below" (top 6) f fd) (B:Blt mg K) (B2:Blt2 mg) (Bx:Def P w K mg base CX0 4 "is_list_of_numbers_below" ["thing","bound"] (spJ K AO 2)) :
  FnOk P w K mg base CX0 5 f fd ["thing","bound"] (spJ K A5 2):=by
 refine Bc (N:=["thing","bound"]) F ⟨rfl,rfl,rfl,by decide +kernel,rfl,by decide +kernel,by decide +kernel⟩ fun cdv A outer s H E hr=>?_
 have nd2:List.Nodup (["thing","bound"]:List Str):=by decide +kernel
 refine Ah ?_ ?_
 refine Ca ?_ ?_ ?_
 refine C8 ?_
 refine C9 (fun _=>rfl) ?_
 refine An Bx Am rfl rfl rfl rfl rfl hr (by decide) Ay dK rfl rfl rfl ?_
 refine Ac rfl ?_ ?_
 walk_at "v0"
 refine Ac rfl ?_ ?_
 walk_at "v1"
 exact Aj
 refine Al ?_
 refine Ax ?_
 exact EV
 exact A7
 refine Al ?_
 refine Ax ?_
 refine AJ Iq (E4 rfl) B.all Boot.«all» dK dK rfl rfl rfl ?_
 refine Ac rfl ?_ ?_
 refine Dv (by rfl) rfl nd2 (by rfl) (fun _=>rfl) ?_ ?_ ?_
 refine Dg rfl B.range rfl ?_
 refine Av Fj Fm ?_ ?_
 refine AJ Cr Bb B.len Boot.«len» dK dK rfl rfl rfl ?_
 refine Ac rfl ?_ ?_
 walk_at "v0"
 exact Aj
 exact Ak
 exact Dh
 intro _ _ _ _ _
 refine C0 JL FA (Bd _) ?_ ?_
 refine AR AS AF (fun _ _=>rfl) ?_ ?_
 walk_at "v1"
 walk_at "v0"
 refine AR AS AF (fun _ _=>rfl) ?_ ?_
 walk_at "v1"
 refine Av A3 AM ?_ ?_
 walk_at "v0"
 exact Ak
 exact Aj
theorem FY {f:Addr} {fd:FuncData} (F:Fun K "is_small_letter" "is_small_letter" (top 19) f fd) (B:Blt mg K) (B2:Blt2 mg) :
  FnOk P w K mg base CX0 1 f fd ["thing"] (spJ K By 1):=by
 refine Bc (N:=["thing"]) F ⟨rfl,rfl,rfl,by decide +kernel,rfl,by decide +kernel,by decide +kernel⟩ fun cdv A outer s H E hr=>?_
 refine Al ?_
 refine Ax ?_
 refine Ee ?_ ?_
 refine PN rfl rfl B rfl rfl ?_
 walk_at "v0"
 refine Ee ?_ ?_
 refine C0 DU (CK hr) (Bd _) ?_ ?_
 refine AJ Cr Bb B.len Boot.«len» dK dK rfl rfl rfl ?_
 refine Ac rfl ?_ ?_
 walk_at "v0"
 exact Aj
 exact Ak
 refine EL ?_
 refine Mv Iu Iu ES ES (by with_unfolding_all rfl) ?_ ?_ ?_
 exact EM dK
 walk_at "v0"
 exact EM dK
theorem LF {f:Addr} {fd:FuncData} (F:Fun K "is_entry" "is_entry" (top 18) f fd) (B:Blt mg K) (B2:Blt2 mg) (BQ:Def P w K mg base CX0 5 "is_rising_list_below" ["thing","bound"] (spJ K A5 2)) (DH:Def P w K mg base CX0 1 "is_pair" ["thing"] (spJ K CI 1)) (CU:Def P w K mg base CX0 1 "is_small_letter" ["thing"] (spJ K By 1)) :
  FnOk P w K mg base CX0 6 f fd ["hands","thing"] (spJ K CP 2):=by
 refine Bc (N:=["hands","thing"]) F ⟨rfl,rfl,rfl,by decide +kernel,rfl,by decide +kernel,by decide +kernel⟩ fun cdv A outer s H E hr=>?_
 refine Ah ?_ ?_
 refine Ca ?_ ?_ ?_
 refine HE ?_
 refine PX ?_ ?_
 refine C8 ?_
 refine C9 (fun _=>rfl) ?_
 refine An DH Am rfl rfl rfl rfl rfl hr (by decide) Ay dK rfl rfl rfl ?_
 refine Ac rfl ?_ ?_
 walk_at "v1"
 exact Aj
 refine My ?_
 refine C8 ?_
 refine C9 (fun _=>rfl) ?_
 refine An CU Am rfl rfl rfl rfl rfl hr (by decide) Ay dK rfl rfl rfl ?_
 refine Ac rfl ?_ ?_
 refine AR AS AF (fun _ _=>rfl) ?_ ?_
 walk_at "v1"
 exact Ak
 exact Aj
 refine Al ?_
 refine Ax ?_
 exact EV
 exact A7
 refine Al ?_
 refine Ax ?_
 refine Ee ?_ ?_
 refine An BQ Am rfl rfl rfl rfl rfl hr (by decide) Ay dK rfl rfl rfl ?_
 refine Ac rfl ?_ ?_
 refine AR AS AF (fun _ _=>rfl) ?_ ?_
 walk_at "v1"
 exact Ak
 refine Ac rfl ?_ ?_
 walk_at "v0"
 exact Aj
 refine EL ?_
 refine C0 TZ T1 (Bd _) ?_ ?_
 refine AJ Cr Bb B.len Boot.«len» dK dK rfl rfl rfl ?_
 refine Ac rfl ?_ ?_
 refine AR AS AF (fun _ _=>rfl) ?_ ?_
 walk_at "v1"
 exact Ak
 exact Aj
 exact Ak
theorem Ir {f:Addr} {fd:FuncData} (F:Fun K "are_entries" "are_entries" (top 17) f fd) (B:Blt mg K) (B2:Blt2 mg) (FK:Def P w K mg base CX0 6 "is_entry" ["hands","thing"] (spJ K CP 2)) (DT:GInt mg "MOST_LETTERS" 6) :
  FnOk P w K mg base CX0 7 f fd ["hands","thing"] (spJ K CZ 2):=by
 refine Bc (N:=["hands","thing"]) F ⟨rfl,rfl,rfl,by decide +kernel,rfl,by decide +kernel,by decide +kernel⟩ fun cdv A outer s H E hr=>?_
 have nd2:List.Nodup (["hands","thing"]:List Str):=by decide +kernel
 refine Ah ?_ ?_
 refine Ca ?_ ?_ ?_
 refine HE ?_
 refine PX ?_ ?_
 refine C8 ?_
 refine C9 (fun _=>rfl) ?_
 refine PM rfl rfl B rfl rfl ?_
 walk_at "v1"
 refine My ?_
 refine C8 ?_
 refine UT Iu Iu ES ES (by with_unfolding_all rfl) ?_ ?_ ?_
 exact Ak
 refine AJ Cr Bb B.len Boot.«len» dK dK rfl rfl rfl ?_
 refine Ac rfl ?_ ?_
 walk_at "v1"
 exact Aj
 exact Ke DT rfl dK
 refine Al ?_
 refine Ax ?_
 exact EV
 exact A7
 refine Ah ?_ ?_
 refine Ca ?_ ?_ ?_
 refine C8 ?_
 refine C9 (fun _=>rfl) ?_
 refine AJ Iq (E4 rfl) B.all Boot.«all» dK dK rfl rfl rfl ?_
 refine Ac rfl ?_ ?_
 refine Dv (by rfl) rfl nd2 (by rfl) (fun _=>rfl) ?_ ?_ ?_
 refine FR ?_
 walk_at "v1"
 exact Dh
 intro _ _ _ _ _
 refine An FK Am rfl rfl rfl rfl rfl hr (by decide) Ay dK rfl rfl rfl ?_
 refine Ac rfl ?_ ?_
 walk_at "v1"
 refine Ac rfl ?_ ?_
 walk_at "v0"
 exact Aj
 exact Aj
 refine Al ?_
 refine Ax ?_
 exact EV
 exact A7
 refine Al ?_
 refine Ax ?_
 refine AJ Iq (E4 rfl) B.all Boot.«all» dK dK rfl rfl rfl ?_
 refine Ac rfl ?_ ?_
 refine Dv (by rfl) rfl nd2 (by rfl) (fun _=>rfl) ?_ ?_ ?_
 refine Dg rfl B.range rfl ?_
 refine Av Fj Fm ?_ ?_
 refine AJ Cr Bb B.len Boot.«len» dK dK rfl rfl rfl ?_
 refine Ac rfl ?_ ?_
 walk_at "v1"
 exact Aj
 exact Ak
 exact Dh
 intro _ _ _ _ _
 refine C0 JL FA (Bd _) ?_ ?_
 refine AR AS AF (fun _ _=>rfl) ?_ ?_
 refine AR AS AF (fun _ _=>rfl) ?_ ?_
 walk_at "v2"
 walk_at "v0"
 exact Ak
 refine AR AS AF (fun _ _=>rfl) ?_ ?_
 refine AR AS AF (fun _ _=>rfl) ?_ ?_
 walk_at "v2"
 refine Av A3 AM ?_ ?_
 walk_at "v0"
 exact Ak
 exact Ak
 exact Aj
theorem LG {f:Addr} {fd:FuncData} (F:Fun K "is_house" "is_house" (top 15) f fd) (B:Blt mg K) (B2:Blt2 mg) (DH:Def P w K mg base CX0 1 "is_pair" ["thing"] (spJ K CI 1)) (Co:Def P w K mg base CX0 2 "is_count_of_hands" ["thing"] (spJ K Bq 1)) (D8:Def P w K mg base CX0 7 "are_entries" ["hands","thing"] (spJ K CZ 2)) :
  FnOk P w K mg base CX0 8 f fd ["thing"] (spJ K Dk 1):=by
 refine Bc (N:=["thing"]) F ⟨rfl,rfl,rfl,by decide +kernel,rfl,by decide +kernel,by decide +kernel⟩ fun cdv A outer s H E hr=>?_
 refine Ah ?_ ?_
 refine Ca ?_ ?_ ?_
 refine C8 ?_
 refine C9 (fun _=>rfl) ?_
 refine An DH Am rfl rfl rfl rfl rfl hr (by decide) Ay dK rfl rfl rfl ?_
 refine Ac rfl ?_ ?_
 walk_at "v0"
 exact Aj
 refine Al ?_
 refine Ax ?_
 exact EV
 exact A7
 refine Al ?_
 refine Ax ?_
 refine Ee ?_ ?_
 refine An Co Am rfl rfl rfl rfl rfl hr (by decide) Ay dK rfl rfl rfl ?_
 refine Ac rfl ?_ ?_
 refine AR AS AF (fun _ _=>rfl) ?_ ?_
 walk_at "v0"
 exact Ak
 exact Aj
 refine EL ?_
 refine An D8 Am rfl rfl rfl rfl rfl hr (by decide) Ay dK rfl rfl rfl ?_
 refine Ac rfl ?_ ?_
 refine AR AS AF (fun _ _=>rfl) ?_ ?_
 walk_at "v0"
 exact Ak
 refine Ac rfl ?_ ?_
 refine AR AS AF (fun _ _=>rfl) ?_ ?_
 walk_at "v0"
 exact Ak
 exact Aj
theorem Jj {f:Addr} {fd:FuncData} (F:Fun K "need_house" "need_house" (top 20) f fd) (B:Blt mg K) (B2:Blt2 mg) (FL:Def P w K mg base CX0 8 "is_house" ["thing"] (spJ K Dk 1)) :
  FnOk P w K mg base CX0 9 f fd ["house"] (spJ K Cz 1):=by
 refine Bc (N:=["house"]) F ⟨rfl,rfl,rfl,by decide +kernel,rfl,by decide +kernel,by decide +kernel⟩ fun cdv A outer s H E hr=>?_
 refine Al ?_
 refine Ca ?_ ?_ ?_
 refine C8 ?_
 refine C9 (fun _=>rfl) ?_
 refine An FL Am rfl rfl rfl rfl rfl hr (by decide) Ay dK rfl rfl rfl ?_
 refine Ac rfl ?_ ?_
 walk_at "v0"
 exact Aj
 refine Al ?_
 exact Lu
 exact A7
theorem Ji {f:Addr} {fd:FuncData} (F:Fun K "letters_of" "letters_of" (top 21) f fd) (B:Blt mg K) (B2:Blt2 mg) :
  FnOk P w K mg base CX0 1 f fd ["house"] (spJ K B4 1):=by
 refine Bc (N:=["house"]) F ⟨rfl,rfl,rfl,by decide +kernel,rfl,by decide +kernel,by decide +kernel⟩ fun cdv A outer s H E hr=>?_
 have nd1:List.Nodup (["house"]:List Str):=by decide +kernel
 refine Al ?_
 refine Ax ?_
 refine Fz rfl rfl B rfl ?_ ?_
 exact EM dK
 refine Dv (by rfl) rfl nd1 (by rfl) (fun _=>rfl) ?_ ?_ ?_
 refine FR ?_
 refine AR AS AF (fun _ _=>rfl) ?_ ?_
 walk_at "v0"
 exact Ak
 exact Dh
 intro _ _ _ _ _
 refine AR AS AF (fun _ _=>rfl) ?_ ?_
 walk_at "v0"
 exact Ak
theorem OI {f:Addr} {fd:FuncData} (F:Fun K "is_row" "is_row" (top 24) f fd) (B:Blt mg K) (B2:Blt2 mg) (EE:Def P w K mg base CX0 9 "need_house" ["house"] (spJ K Cz 1)) (Cd:Def P w K mg base CX0 1 "letters_of" ["house"] (spJ K B4 1)) :
  FnOk P w K mg base CX0 10 f fd ["house","thing"] (spJ K Fv 2):=by
 refine Bc (N:=["house","thing","letters"]) F ⟨rfl,rfl,rfl,by decide +kernel,rfl,by decide +kernel,by decide +kernel⟩ fun cdv A outer s H E hr=>?_
 have nd3:List.Nodup (["house","thing","letters"]:List Str):=by decide +kernel
 refine Ah ?_ ?_
 refine Fb rfl ?_
 refine An EE Am rfl rfl rfl rfl rfl hr (by decide) Ay dK rfl rfl rfl ?_
 refine Ac rfl ?_ ?_
 walk_at "v0"
 exact Aj
 refine Ah ?_ ?_
 refine Ca ?_ ?_ ?_
 refine C8 ?_
 refine C9 (fun _=>rfl) ?_
 refine PN rfl rfl B rfl rfl ?_
 walk_at "v1"
 refine Al ?_
 refine Ax ?_
 exact EV
 exact A7
 refine Ah ?_ ?_
 refine AD 2 nd3 rfl (by walk_at "loc") rfl rfl ?_
 refine An Cd Am rfl rfl rfl rfl rfl hr (by decide) Ay dK rfl rfl rfl ?_
 refine Ac rfl ?_ ?_
 walk_at "v0"
 exact Aj
 refine Al ?_
 refine Ax ?_
 refine AJ Iq (E4 rfl) B.all Boot.«all» dK dK rfl rfl rfl ?_
 refine Ac rfl ?_ ?_
 refine Dv (by rfl) rfl nd3 (by rfl) (fun _=>rfl) ?_ ?_ ?_
 refine PU ?_
 walk_at "v1"
 exact Dh
 intro _ _ _ _ _
 refine C0 (JK false) Iy (by with_unfolding_all rfl) ?_ ?_
 walk_at "v0"
 walk_at "v3"
 exact Aj
theorem LJ {f:Addr} {fd:FuncData} (F:Fun K "need_row" "need_row" (top 25) f fd) (B:Blt mg K) (B2:Blt2 mg) (HL:Def P w K mg base CX0 10 "is_row" ["house","thing"] (spJ K Fv 2)) :
  FnOk P w K mg base CX0 11 f fd ["house","row"] (spJ K AE 2):=by
 refine Bc (N:=["house","row"]) F ⟨rfl,rfl,rfl,by decide +kernel,rfl,by decide +kernel,by decide +kernel⟩ fun cdv A outer s H E hr=>?_
 refine Al ?_
 refine Ca ?_ ?_ ?_
 refine C8 ?_
 refine C9 (fun _=>rfl) ?_
 refine An HL Am rfl rfl rfl rfl rfl hr (by decide) Ay dK rfl rfl rfl ?_
 refine Ac rfl ?_ ?_
 walk_at "v0"
 refine Ac rfl ?_ ?_
 walk_at "v1"
 exact Aj
 refine Al ?_
 exact Lu
 exact A7
theorem LC {f:Addr} {fd:FuncData} (F:Fun K "hands_of" "hands_of" (top 22) f fd) (B:Blt mg K) (B2:Blt2 mg) (Cd:Def P w K mg base CX0 1 "letters_of" ["house"] (spJ K B4 1)) :
  FnOk P w K mg base CX0 2 f fd ["house","letter"] (spJ K B8 2):=by
 refine Bc (N:=["house","letter"]) F ⟨rfl,rfl,rfl,by decide +kernel,rfl,by decide +kernel,by decide +kernel⟩ fun cdv A outer s H E hr=>?_
 refine Al ?_
 refine Ax ?_
 refine AR AS AF (fun _ _=>rfl) ?_ ?_
 refine AR AS AF (fun _ _=>rfl) ?_ ?_
 refine AR AS AF (fun _ _=>rfl) ?_ ?_
 walk_at "v0"
 exact Ak
 refine PK rfl rfl B rfl rfl ?_ ?_
 refine An Cd Am rfl rfl rfl rfl rfl hr (by decide) Ay dK rfl rfl rfl ?_
 refine Ac rfl ?_ ?_
 walk_at "v0"
 exact Aj
 walk_at "v1"
 exact Ak
theorem FW {f:Addr} {fd:FuncData} (F:Fun K "is_hand_in_both" "is_hand_in_both" (top 23) f fd) (B:Blt mg K) (B2:Blt2 mg) :
  FnOk P w K mg base CX0 1 f fd ["hands","others"] (spJ K A2 2):=by
 refine Bc (N:=["hands","others"]) F ⟨rfl,rfl,rfl,by decide +kernel,rfl,by decide +kernel,by decide +kernel⟩ fun cdv A outer s H E hr=>?_
 have nd2:List.Nodup (["hands","others"]:List Str):=by decide +kernel
 refine Al ?_
 refine Ax ?_
 refine AJ U8 (Pc rfl) B.any Boot.«any» dK dK rfl rfl rfl ?_
 refine Ac rfl ?_ ?_
 refine Dv (by rfl) rfl nd2 (by rfl) (fun _=>rfl) ?_ ?_ ?_
 refine FR ?_
 walk_at "v0"
 exact Dh
 intro _ _ _ _ _
 refine C0 (JK false) Iy (by with_unfolding_all rfl) ?_ ?_
 walk_at "v0"
 walk_at "v2"
 exact Aj
theorem Ho {f:Addr} {fd:FuncData} (F:Fun K "front_places" "front_places" (top 37) f fd) (B:Blt mg K) (B2:Blt2 mg) (FJ:Def P w K mg base CX0 2 "hands_of" ["house","letter"] (spJ K B8 2)) (CS:Def P w K mg base CX0 1 "is_hand_in_both" ["hands","others"] (spJ K A2 2)) :
  FnOk P w K mg base CX0 3 f fd ["house","row"] (spJ K AI 2):=by
 refine Bc (N:=["house","row","places","busy","place","letter","hands"]) F ⟨rfl,rfl,rfl,by decide +kernel,rfl,by decide +kernel,by decide +kernel⟩ fun cdv A outer s H E hr=>?_
 have nd7:List.Nodup (["house","row","places","busy","place","letter","hands"]:List Str):=by decide +kernel
 refine Ah ?_ ?_
 refine AD 2 nd7 rfl (by walk_at "loc") rfl rfl ?_
 refine Ef ?_
 exact Aj
 refine Ah ?_ ?_
 refine AD 3 nd7 rfl (by walk_at "loc") rfl rfl ?_
 refine Ef ?_
 exact Aj
 refine Ah ?_ ?_
 refine GX PassesOwn.never rfl ?_ ?_ ?_ (fun _=>rfl)
 refine NA rfl B2.enumerate rfl ?_
 walk_at "v1"
 refine NO rfl ?_ rfl rfl
 refine GD 4 nd7 rfl (by walk_at "loc") rfl ?_ rfl
 refine GD 5 nd7 rfl (by walk_at "loc") rfl ?_ rfl
 exact NP
 refine Ah ?_ ?_
 refine AD 6 nd7 rfl (by walk_at "loc") rfl rfl ?_
 refine An FJ Am rfl rfl rfl rfl rfl hr (by decide) Ay dK rfl rfl rfl ?_
 refine Ac rfl ?_ ?_
 walk_at "v0"
 refine Ac rfl ?_ ?_
 walk_at "v5"
 exact Aj
 refine Ah ?_ ?_
 refine Ca ?_ ?_ ?_
 refine C8 ?_
 refine C9 (fun _=>rfl) ?_
 refine An CS Am rfl rfl rfl rfl rfl hr (by decide) Ay dK rfl rfl rfl ?_
 refine Ac rfl ?_ ?_
 walk_at "v6"
 refine Ac rfl ?_ ?_
 walk_at "v3"
 exact Aj
 refine Al ?_
 refine Ii 2 rfl (by walk_at "vis") dK dK rfl rfl rfl rfl ?_
 walk_at "v4"
 exact A7
 refine Al ?_
 refine PV 3 rfl (by walk_at "vis") dK dK rfl rfl rfl rfl ?_
 walk_at "v6"
 refine Al ?_
 refine Ax ?_
 walk_at "v2"
theorem GA {f c b:Addr} {fd:FuncData} (F:Fun K "place_of_first" "place_of_first" (top 36) f fd) (hn:PySem.W.nsIn K mainGlobals A8 = some (some (.ref f))) (ht:PySem.W.tabIn K A8 = some (c,b)) (hh:PySem.W.codeHdIn K c b = true) (B:Blt mg K) (B2:Blt2 mg) (BI:Def P w K mg base CX0 3 "front_places" ["house","row"] (spJ K AI 2)) :
  FnOk P w K mg base CX0 4 f fd ["house","row"] (spJ K Au 2):=by
 refine Ux (N:=["house","row"]) F hn ht ⟨rfl,rfl,rfl,by decide +kernel,rfl,by decide +kernel,by decide +kernel⟩ fun A outer s H E hr=>?_
 refine Al ?_
 refine Ax ?_
 refine RX 1 rfl hr ht hh B.min rfl rfl rfl rfl rfl rfl rfl rfl (fun _ _ _ _=>rfl) rfl rfl rfl (by decide) rfl rfl dK dK dK rfl ?_
 refine An BI Am rfl rfl rfl rfl rfl hr (by decide) Ay dK rfl rfl rfl ?_
 refine Ac rfl ?_ ?_
 walk_at "v0"
 refine Ac rfl ?_ ?_
 walk_at "v1"
 exact Aj
theorem Hq {f:Addr} {fd:FuncData} (F:Fun K "least_row_of" "least_row_of" (top 35) f fd) (B:Blt mg K) (B2:Blt2 mg) (Bw:Def P w K mg base CX0 4 "place_of_first" ["house","row"] (spJ K Au 2)) :
  FnOk P w K mg base CX0 5 f fd ["house","row"] (spJ K CF 2):=by
 refine Bc (N:=["house","row","letters","place"]) F ⟨rfl,rfl,rfl,by decide +kernel,rfl,by decide +kernel,by decide +kernel⟩ fun cdv A outer s H E hr=>?_
 have nd4:List.Nodup (["house","row","letters","place"]:List Str):=by decide +kernel
 refine Ah ?_ ?_
 refine AD 2 nd4 rfl (by walk_at "loc") rfl rfl ?_
 refine Ef ?_
 exact Aj
 refine Ah ?_ ?_
 refine Fc 41 PassesOwn.never ?_ ?_
 refine NB (fun _=>rfl) ?_
 walk_at "v1"
 refine Ah ?_ ?_
 refine AD 3 nd4 rfl (by walk_at "loc") rfl rfl ?_
 refine An Bw Am rfl rfl rfl rfl rfl hr (by decide) Ay dK rfl rfl rfl ?_
 refine Ac rfl ?_ ?_
 walk_at "v0"
 refine Ac rfl ?_ ?_
 walk_at "v1"
 exact Aj
 refine Ah ?_ ?_
 refine Ii 2 rfl (by walk_at "vis") dK dK rfl rfl rfl rfl ?_
 refine AR AS AF (fun _ _=>rfl) ?_ ?_
 walk_at "v1"
 walk_at "v3"
 refine Al ?_
 refine AD 1 nd4 rfl (by walk_at "loc") rfl rfl ?_
 refine Av A3 AM ?_ ?_
 refine Gu ?_ ?_
 walk_at "v1"
 walk_at "v3"
 refine Gv ?_ ?_
 walk_at "v1"
 refine Av A3 AM ?_ ?_
 walk_at "v3"
 exact Ak
 refine Al ?_
 refine Ax ?_
 refine Fz rfl rfl B rfl ?_ ?_
 exact EM dK
 walk_at "v2"
theorem Ks {f:Addr} {fd:FuncData} (F:Fun K "least_row" "least_row" (top 34) f fd) (B:Blt mg K) (B2:Blt2 mg) (AQ:Def P w K mg base CX0 11 "need_row" ["house","row"] (spJ K AE 2)) (DJ:Def P w K mg base CX0 5 "least_row_of" ["house","row"] (spJ K CF 2)) :
  FnOk P w K mg base CX0 12 f fd ["house","row"] (spJ K BD 2):=by
 refine Bc (N:=["house","row"]) F ⟨rfl,rfl,rfl,by decide +kernel,rfl,by decide +kernel,by decide +kernel⟩ fun cdv A outer s H E hr=>?_
 refine Ah ?_ ?_
 refine Fb rfl ?_
 refine An AQ Am rfl rfl rfl rfl rfl hr (by decide) Ay dK rfl rfl rfl ?_
 refine Ac rfl ?_ ?_
 walk_at "v0"
 refine Ac rfl ?_ ?_
 walk_at "v1"
 exact Aj
 refine Al ?_
 refine Ax ?_
 refine An DJ Am rfl rfl rfl rfl rfl hr (by decide) Ay dK rfl rfl rfl ?_
 refine Ac rfl ?_ ?_
 walk_at "v0"
 refine Ac rfl ?_ ?_
 walk_at "v1"
 exact Aj
theorem Qj {f:Addr} {fd:FuncData} (F:Fun K "steps" "steps" (top 38) f fd) (B:Blt mg K) (B2:Blt2 mg) (AQ:Def P w K mg base CX0 11 "need_row" ["house","row"] (spJ K AE 2)) (BI:Def P w K mg base CX0 3 "front_places" ["house","row"] (spJ K AI 2)) :
  FnOk P w K mg base CX0 12 f fd ["house","row"] (spJ K BJ 2):=by
 refine Bc (N:=["house","row","told","places"]) F ⟨rfl,rfl,rfl,by decide +kernel,rfl,by decide +kernel,by decide +kernel⟩ fun cdv A outer s H E hr=>?_
 have nd4:List.Nodup (["house","row","told","places"]:List Str):=by decide +kernel
 refine Ah ?_ ?_
 refine Fb rfl ?_
 refine An AQ Am rfl rfl rfl rfl rfl hr (by decide) Ay dK rfl rfl rfl ?_
 refine Ac rfl ?_ ?_
 walk_at "v0"
 refine Ac rfl ?_ ?_
 walk_at "v1"
 exact Aj
 refine Ah ?_ ?_
 refine AD 2 nd4 rfl (by walk_at "loc") rfl rfl ?_
 refine Ef ?_
 exact Aj
 refine Ah ?_ ?_
 refine Fc 41 PassesOwn.never ?_ ?_
 refine NB (fun _=>rfl) ?_
 walk_at "v1"
 refine Ah ?_ ?_
 refine AD 3 nd4 rfl (by walk_at "loc") rfl rfl ?_
 refine An BI Am rfl rfl rfl rfl rfl hr (by decide) Ay dK rfl rfl rfl ?_
 refine Ac rfl ?_ ?_
 walk_at "v0"
 refine Ac rfl ?_ ?_
 walk_at "v1"
 exact Aj
 refine Ah ?_ ?_
 refine Ii 2 rfl (by walk_at "vis") dK dK rfl rfl rfl rfl ?_
 refine Fz rfl rfl B rfl ?_ ?_
 exact EM dK
 refine AJ MJ J5 B2.sorted Boot.«sorted» dK dK rfl rfl rfl ?_
 refine Ac rfl ?_ ?_
 refine Dv (by rfl) rfl nd4 (by rfl) (fun _=>rfl) ?_ ?_ ?_
 refine FR ?_
 walk_at "v3"
 exact Dh
 intro _ _ _ _ _
 refine AR AS AF (fun _ _=>rfl) ?_ ?_
 walk_at "v2"
 walk_at "v0"
 exact Aj
 refine Al ?_
 refine AD 1 nd4 rfl (by walk_at "loc") rfl rfl ?_
 refine Fz rfl rfl B rfl ?_ ?_
 exact EM dK
 refine PQ (by rfl) rfl nd4 dK (by rfl) (by rfl) (fun _=>rfl) ?_ ?_ ?_
 refine NA rfl B2.enumerate rfl ?_
 walk_at "v1"
 refine Gw fun _ _ _ _ _=>?_
 refine BL (JK true) ON (by with_unfolding_all rfl) ?_ ?_
 walk_at "v0"
 walk_at "v5"
 intro _ _ _ _ _
 walk_at "v1"
 refine Al ?_
 refine Ax ?_
 walk_at "v2"
theorem MG {f:Addr} {fd:FuncData} (F:Fun K "seen_by" "seen_by" (top 27) f fd) (B:Blt mg K) (B2:Blt2 mg) :
  FnOk P w K mg base CX0 1 f fd ["house","row","hand"] (spJ K AB 3):=by
 refine Bc (N:=["house","row","hand","letters"]) F ⟨rfl,rfl,rfl,by decide +kernel,rfl,by decide +kernel,by decide +kernel⟩ fun cdv A outer s H E hr=>?_
 have nd4:List.Nodup (["house","row","hand","letters"]:List Str):=by decide +kernel
 refine Ah ?_ ?_
 refine AD 3 nd4 rfl (by walk_at "loc") rfl rfl ?_
 refine PQ (by rfl) rfl nd4 dK (by rfl) (by rfl) (fun _=>rfl) ?_ ?_ ?_
 refine FR ?_
 refine AR AS AF (fun _ _=>rfl) ?_ ?_
 walk_at "v0"
 exact Ak
 refine Gw fun _ _ _ _ _=>?_
 refine BL (JK false) Iy (by with_unfolding_all rfl) ?_ ?_
 walk_at "v4"
 walk_at "v1"
 intro _ _ _ _ _
 walk_at "v0"
 refine Al ?_
 refine Ax ?_
 refine Fz rfl rfl B rfl ?_ ?_
 exact EM dK
 refine Dv (by rfl) rfl nd4 (by rfl) (fun _=>rfl) ?_ ?_ ?_
 refine PU ?_
 walk_at "v1"
 refine Gw fun _ _ _ _ _=>?_
 refine BL (JK false) Iy (by with_unfolding_all rfl) ?_ ?_
 walk_at "v0"
 walk_at "v4"
 intro _ _ _ _ _
 walk_at "v0"
theorem Iw {f:Addr} {fd:FuncData} (F:Fun K "seen_by_all" "seen_by_all" (top 28) f fd) (B:Blt mg K) (B2:Blt2 mg) (C5:Def P w K mg base CX0 1 "seen_by" ["house","row","hand"] (spJ K AB 3)) :
  FnOk P w K mg base CX0 2 f fd ["house","row"] (spJ K Bz 2):=by
 refine Bc (N:=["house","row"]) F ⟨rfl,rfl,rfl,by decide +kernel,rfl,by decide +kernel,by decide +kernel⟩ fun cdv A outer s H E hr=>?_
 have nd2:List.Nodup (["house","row"]:List Str):=by decide +kernel
 refine Al ?_
 refine Ax ?_
 refine Dv (by rfl) rfl nd2 (by rfl) (fun _=>rfl) ?_ ?_ ?_
 refine Dg rfl B.range rfl ?_
 refine AR AS AF (fun _ _=>rfl) ?_ ?_
 walk_at "v0"
 exact Ak
 exact Dh
 intro _ _ _ _ _
 refine An C5 Am rfl rfl rfl rfl rfl hr (by decide) Ay dK rfl rfl rfl ?_
 refine Ac rfl ?_ ?_
 walk_at "v1"
 refine Ac rfl ?_ ?_
 walk_at "v2"
 refine Ac rfl ?_ ?_
 walk_at "v0"
 exact Aj
theorem Kq {f:Addr} {fd:FuncData} (F:Fun K "are_alike" "are_alike" (top 33) f fd) (B:Blt mg K) (B2:Blt2 mg) (Df:Def P w K mg base CX0 2 "seen_by_all" ["house","row"] (spJ K Bz 2)) :
  FnOk P w K mg base CX0 3 f fd ["house","one","other"] (spJ K DC 3):=by
 refine Bc (N:=["house","one","other"]) F ⟨rfl,rfl,rfl,by decide +kernel,rfl,by decide +kernel,by decide +kernel⟩ fun cdv A outer s H E hr=>?_
 refine Al ?_
 refine Ax ?_
 refine C0 DU (CK hr) (Bd _) ?_ ?_
 refine An Df Am rfl rfl rfl rfl rfl hr (by decide) Ay dK rfl rfl rfl ?_
 refine Ac rfl ?_ ?_
 walk_at "v0"
 refine Ac rfl ?_ ?_
 walk_at "v1"
 exact Aj
 refine An Df Am rfl rfl rfl rfl rfl hr (by decide) Ay dK rfl rfl rfl ?_
 refine Ac rfl ?_ ?_
 walk_at "v0"
 refine Ac rfl ?_ ?_
 walk_at "v2"
 exact Aj
theorem Qf {f:Addr} {fd:FuncData} (F:Fun K "alike" "alike" (top 32) f fd) (B:Blt mg K) (B2:Blt2 mg) (AQ:Def P w K mg base CX0 11 "need_row" ["house","row"] (spJ K AE 2)) (EY:Def P w K mg base CX0 3 "are_alike" ["house","one","other"] (spJ K DC 3)) :
  FnOk P w K mg base CX0 12 f fd ["house","one","other"] (spJ K Em 3):=by
 refine Bc (N:=["house","one","other"]) F ⟨rfl,rfl,rfl,by decide +kernel,rfl,by decide +kernel,by decide +kernel⟩ fun cdv A outer s H E hr=>?_
 refine Ah ?_ ?_
 refine Fb rfl ?_
 refine An AQ Am rfl rfl rfl rfl rfl hr (by decide) Ay dK rfl rfl rfl ?_
 refine Ac rfl ?_ ?_
 walk_at "v0"
 refine Ac rfl ?_ ?_
 walk_at "v1"
 exact Aj
 refine Ah ?_ ?_
 refine Fb rfl ?_
 refine An AQ Am rfl rfl rfl rfl rfl hr (by decide) Ay dK rfl rfl rfl ?_
 refine Ac rfl ?_ ?_
 walk_at "v0"
 refine Ac rfl ?_ ?_
 walk_at "v2"
 exact Aj
 refine Al ?_
 refine Ax ?_
 refine An EY Am rfl rfl rfl rfl rfl hr (by decide) Ay dK rfl rfl rfl ?_
 refine Ac rfl ?_ ?_
 walk_at "v0"
 refine Ac rfl ?_ ?_
 walk_at "v1"
 refine Ac rfl ?_ ?_
 walk_at "v2"
 exact Aj
theorem Iv {f:Addr} {fd:FuncData} (F:Fun K "place_apart" "place_apart" (top 30) f fd) (B:Blt mg K) (B2:Blt2 mg) :
  FnOk P w K mg base CX0 1 f fd ["one","other"] (spJ K AV 2):=by
 refine Bc (N:=["one","other","place"]) F ⟨rfl,rfl,rfl,by decide +kernel,rfl,by decide +kernel,by decide +kernel⟩ fun cdv A outer s H E hr=>?_
 have nd3:List.Nodup (["one","other","place"]:List Str):=by decide +kernel
 refine Ah ?_ ?_
 refine Ca ?_ ?_ ?_
 refine BL DU (CK hr) (Bd _) ?_ ?_
 walk_at "v0"
 walk_at "v1"
 refine Al ?_
 refine Ax ?_
 exact Kg
 exact A7
 refine Ah ?_ ?_
 refine AD 2 nd3 rfl (by walk_at "loc") rfl rfl ?_
 exact Ak
 refine Ah ?_ ?_
 refine Fc 41 PassesOwn.never ?_ ?_
 refine BL DU (CK hr) (Bd _) ?_ ?_
 refine HB ?_ ?_ ?_
 walk_at "v0"
 walk_at "v2"
 refine Av A3 AM ?_ ?_
 walk_at "v2"
 exact Ak
 refine HB ?_ ?_ ?_
 walk_at "v1"
 walk_at "v2"
 refine Av A3 AM ?_ ?_
 walk_at "v2"
 exact Ak
 refine Al ?_
 refine UR 2 nd3 rfl (by walk_at "loc") rfl ?_
 exact Ak
 refine Al ?_
 refine Ax ?_
 walk_at "v2"
theorem Jk {f:Addr} {fd:FuncData} (F:Fun K "seen_apart" "seen_apart" (top 29) f fd) (B:Blt mg K) (B2:Blt2 mg) (AQ:Def P w K mg base CX0 11 "need_row" ["house","row"] (spJ K AE 2)) (D9:Def P w K mg base CX0 1 "place_apart" ["one","other"] (spJ K AV 2)) (C5:Def P w K mg base CX0 1 "seen_by" ["house","row","hand"] (spJ K AB 3)) :
  FnOk P w K mg base CX0 12 f fd ["house","one","other"] (spJ K Bv 3):=by
 refine Bc (N:=["house","one","other","hand","place"]) F ⟨rfl,rfl,rfl,by decide +kernel,rfl,by decide +kernel,by decide +kernel⟩ fun cdv A outer s H E hr=>?_
 have nd5:List.Nodup (["house","one","other","hand","place"]:List Str):=by decide +kernel
 refine Ah ?_ ?_
 refine Fb rfl ?_
 refine An AQ Am rfl rfl rfl rfl rfl hr (by decide) Ay dK rfl rfl rfl ?_
 refine Ac rfl ?_ ?_
 walk_at "v0"
 refine Ac rfl ?_ ?_
 walk_at "v1"
 exact Aj
 refine Ah ?_ ?_
 refine Fb rfl ?_
 refine An AQ Am rfl rfl rfl rfl rfl hr (by decide) Ay dK rfl rfl rfl ?_
 refine Ac rfl ?_ ?_
 walk_at "v0"
 refine Ac rfl ?_ ?_
 walk_at "v2"
 exact Aj
 refine Ah ?_ ?_
 refine GX PassesOwn.never rfl ?_ ?_ ?_ (fun _=>rfl)
 refine Dg rfl B.range rfl ?_
 refine AR AS AF (fun _ _=>rfl) ?_ ?_
 walk_at "v0"
 exact Ak
 exact ID 3 nd5 rfl (by walk_at "loc") rfl
 refine Ah ?_ ?_
 refine AD 4 nd5 rfl (by walk_at "loc") rfl rfl ?_
 refine An D9 Am rfl rfl rfl rfl rfl hr (by decide) Ay dK rfl rfl rfl ?_
 refine Ac rfl ?_ ?_
 refine An C5 Am rfl rfl rfl rfl rfl hr (by decide) Ay dK rfl rfl rfl ?_
 refine Ac rfl ?_ ?_
 walk_at "v0"
 refine Ac rfl ?_ ?_
 walk_at "v1"
 refine Ac rfl ?_ ?_
 walk_at "v3"
 exact Aj
 refine Ac rfl ?_ ?_
 refine An C5 Am rfl rfl rfl rfl rfl hr (by decide) Ay dK rfl rfl rfl ?_
 refine Ac rfl ?_ ?_
 walk_at "v0"
 refine Ac rfl ?_ ?_
 walk_at "v2"
 refine Ac rfl ?_ ?_
 walk_at "v3"
 exact Aj
 exact Aj
 refine Al ?_
 refine Ca ?_ ?_ ?_
 refine BL W8 Sn (Bd _) ?_ ?_
 walk_at "v4"
 exact Kg
 refine Al ?_
 refine Ax ?_
 refine HC ?_
 refine Ac rfl ?_ ?_
 refine B0 ?_
 walk_at "v3"
 refine Ac rfl ?_ ?_
 refine B0 ?_
 walk_at "v4"
 exact Aj
 exact A7
 refine Al ?_
 refine Ax ?_
 exact Kg
theorem Jg {f:Addr} {fd:FuncData} (F:Fun K "_law_right" "_law_right" (top 49) f fd) (B:Blt mg K) (B2:Blt2 mg) (ED:Def P w K mg base CX0 1 "_law_truth" ["_law_found","_law_due"] (spJ K B3 2)) (E1:Def P w K mg base CX0 12 "least_row" ["house","row"] (spJ K BD 2)) (Hv:Def P w K mg base CX0 12 "steps" ["house","row"] (spJ K BJ 2)) (JU:Def P w K mg base CX0 12 "alike" ["house","one","other"] (spJ K Em 3)) (EF:Def P w K mg base CX0 12 "seen_apart" ["house","one","other"] (spJ K Bv 3)) :
  FnOk P w K mg base CX0 13 f fd ["_law_house_here","_law_row","_law_heap_here","_law_other"] (spJ K BG 4):=by
 refine Bc (N:=["_law_house_here","_law_row","_law_heap_here","_law_other","_law_is_in"]) F ⟨rfl,rfl,rfl,by decide +kernel,rfl,by decide +kernel,by decide +kernel⟩ fun cdv A outer s H E hr=>?_
 have nd5:List.Nodup (["_law_house_here","_law_row","_law_heap_here","_law_other","_law_is_in"]:List Str):=by decide +kernel
 refine Ah ?_ ?_
 refine AD 4 nd5 rfl (by walk_at "loc") rfl rfl ?_
 refine UK hr (by with_unfolding_all rfl) ?_ ?_
 walk_at "v3"
 walk_at "v2"
 refine Ah ?_ ?_
 refine Ca ?_ ?_ ?_
 refine HE ?_
 refine PX ?_ ?_
 refine C8 ?_
 refine C9 (fun _=>rfl) ?_
 refine An ED Am rfl rfl rfl rfl rfl hr (by decide) Ay dK rfl rfl rfl ?_
 refine Ac rfl ?_ ?_
 refine An JU Am rfl rfl rfl rfl rfl hr (by decide) Ay dK rfl rfl rfl ?_
 refine Ac rfl ?_ ?_
 walk_at "v0"
 refine Ac rfl ?_ ?_
 walk_at "v1"
 refine Ac rfl ?_ ?_
 walk_at "v3"
 exact Aj
 refine Ac rfl ?_ ?_
 walk_at "v4"
 exact Aj
 refine My ?_
 refine BL Qi (MM hr) (Bd _) ?_ ?_
 refine C0 Vb Vj (Bd _) ?_ ?_
 refine An EF Am rfl rfl rfl rfl rfl hr (by decide) Ay dK rfl rfl rfl ?_
 refine Ac rfl ?_ ?_
 walk_at "v0"
 refine Ac rfl ?_ ?_
 walk_at "v1"
 refine Ac rfl ?_ ?_
 walk_at "v3"
 exact Aj
 exact Kg
 walk_at "v4"
 refine Al ?_
 refine Ax ?_
 exact EV
 exact A7
 refine Ah ?_ ?_
 refine Ca ?_ ?_ ?_
 refine BL Qi (MM hr) (Bd _) ?_ ?_
 refine C0 DU (CK hr) (Bd _) ?_ ?_
 refine An E1 Am rfl rfl rfl rfl rfl hr (by decide) Ay dK rfl rfl rfl ?_
 refine Ac rfl ?_ ?_
 walk_at "v0"
 refine Ac rfl ?_ ?_
 walk_at "v3"
 exact Aj
 refine AJ NJ (Jw rfl) B.min Boot.«min» dK dK rfl rfl rfl ?_
 refine Ac rfl ?_ ?_
 refine Ih LI (HV rfl) B.list Boot.«list» dK dK rfl rfl rfl ?_
 refine Ac rfl ?_ ?_
 walk_at "v2"
 exact Aj
 exact Aj
 walk_at "v4"
 refine Al ?_
 refine Ax ?_
 exact EV
 exact A7
 refine Al ?_
 refine Ax ?_
 refine C0 DU (CK hr) (Bd _) ?_ ?_
 refine C0 DU (CK hr) (Bd _) ?_ ?_
 refine An Hv Am rfl rfl rfl rfl rfl hr (by decide) Ay dK rfl rfl rfl ?_
 refine Ac rfl ?_ ?_
 walk_at "v0"
 refine Ac rfl ?_ ?_
 walk_at "v3"
 exact Aj
 refine An Hv Am rfl rfl rfl rfl rfl hr (by decide) Ay dK rfl rfl rfl ?_
 refine Ac rfl ?_ ?_
 walk_at "v0"
 refine Ac rfl ?_ ?_
 walk_at "v1"
 exact Aj
 walk_at "v4"
theorem Kr {f:Addr} {fd:FuncData} (F:Fun K "exchanges" "exchanges" (top 39) f fd) (B:Blt mg K) (B2:Blt2 mg) (AQ:Def P w K mg base CX0 11 "need_row" ["house","row"] (spJ K AE 2)) (Bw:Def P w K mg base CX0 4 "place_of_first" ["house","row"] (spJ K Au 2)) :
  FnOk P w K mg base CX0 12 f fd ["house","row"] (spJ K BR 2):=by
 refine Bc (N:=["house","row","told","done","place"]) F ⟨rfl,rfl,rfl,by decide +kernel,rfl,by decide +kernel,by decide +kernel⟩ fun cdv A outer s H E hr=>?_
 have nd5:List.Nodup (["house","row","told","done","place"]:List Str):=by decide +kernel
 refine Ah ?_ ?_
 refine Fb rfl ?_
 refine An AQ Am rfl rfl rfl rfl rfl hr (by decide) Ay dK rfl rfl rfl ?_
 refine Ac rfl ?_ ?_
 walk_at "v0"
 refine Ac rfl ?_ ?_
 walk_at "v1"
 exact Aj
 refine Ah ?_ ?_
 refine AD 2 nd5 rfl (by walk_at "loc") rfl rfl ?_
 refine Ef ?_
 exact Aj
 refine Ah ?_ ?_
 refine GX PassesOwn.never rfl ?_ ?_ ?_ (fun _=>rfl)
 refine Dg rfl B.range rfl ?_
 refine AJ Cr Bb B.len Boot.«len» dK dK rfl rfl rfl ?_
 refine Ac rfl ?_ ?_
 walk_at "v1"
 exact Aj
 exact ID 3 nd5 rfl (by walk_at "loc") rfl
 refine Ah ?_ ?_
 refine AD 4 nd5 rfl (by walk_at "loc") rfl rfl ?_
 refine Av A3 AM ?_ ?_
 walk_at "v3"
 refine An Bw Am rfl rfl rfl rfl rfl hr (by decide) Ay dK rfl rfl rfl ?_
 refine Ac rfl ?_ ?_
 walk_at "v0"
 refine Ac rfl ?_ ?_
 refine Gv ?_ ?_
 walk_at "v1"
 walk_at "v3"
 exact Aj
 refine Ah ?_ ?_
 refine PV 2 rfl (by walk_at "vis") dK dK rfl rfl rfl rfl ?_
 refine RW rfl B.list B.range rfl rfl rfl rfl rfl rfl rfl rfl ?_ ?_ ?_
 refine Av Fj Fm ?_ ?_
 walk_at "v4"
 exact Ak
 refine Av Fj Fm ?_ ?_
 walk_at "v3"
 exact Ak
 refine PR MF Nh ?_
 exact Ak
 refine Al ?_
 refine AD 1 nd5 rfl (by walk_at "loc") rfl rfl ?_
 refine Av A3 AM ?_ ?_
 refine Av A3 AM ?_ ?_
 refine Av A3 AM ?_ ?_
 refine Gu ?_ ?_
 walk_at "v1"
 walk_at "v3"
 refine AR AS AF (fun _ _=>rfl) ?_ ?_
 walk_at "v1"
 walk_at "v4"
 refine HB ?_ ?_ ?_
 walk_at "v1"
 walk_at "v3"
 walk_at "v4"
 refine Gv ?_ ?_
 walk_at "v1"
 refine Av A3 AM ?_ ?_
 walk_at "v4"
 exact Ak
 refine Al ?_
 refine Ax ?_
 walk_at "v2"
theorem Vd {f:Addr} {fd:FuncData} (F:Fun K "law" "law" (top 50) f fd) (B:Blt mg K) (B2:Blt2 mg) (EB:Def P w K mg base CX0 2 "_law_house" ["_law_bag_here"] (spJ K B1 1)) (EA:Def P w K mg base CX0 1 "_law_bag" ["_law_cell_here"] (spJ K Bu 1)) (CQ:Def P w K mg base CX0 3 "_law_short_heap" ["_law_house_here","_law_row"] (spJ K Bi 2)) (B6:Def P w K mg base CX0 2 "_law_heap" ["_law_house_here","_law_row","_law_most"] (spJ K AL 3)) (D1:Def P w K mg base CX0 1 "_law_cell" ["_law_script","_law_k"] (spJ K AZ 2)) (AN:Def P w K mg base CX0 1 "_law_take" ["_law_bag_here","_law_many"] (spJ K Ag 2)) (EC:Def P w K mg base CX0 13 "_law_right" ["_law_house_here","_law_row","_law_heap_here","_law_other"] (spJ K BG 4)) (EZ:Def P w K mg base CX0 12 "exchanges" ["house","row"] (spJ K BR 2)) :
  FnOk P w K mg base CX0 14 f fd ["_law_script"] (spJ K H0 1):=by
 refine Bc (N:=["_law_script","_law_house_here","_law_bag_here","_law_row","_law_heap_here","_law_some","_law_first","_law_back","_law_k","_law_other","_law_at"]) F ⟨rfl,rfl,rfl,by decide +kernel,rfl,by decide +kernel,by decide +kernel⟩ fun cdv A outer s H E hr=>?_
 have nd11:List.Nodup (["_law_script","_law_house_here","_law_bag_here","_law_row","_law_heap_here","_law_some","_law_first","_law_back","_law_k","_law_other","_law_at"]:List Str):=by decide +kernel
 refine Ah ?_ ?_
 refine AD 1 nd11 rfl (by walk_at "loc") rfl rfl ?_
 refine An EB Am rfl rfl rfl rfl rfl hr (by decide) Ay dK rfl rfl rfl ?_
 refine Ac rfl ?_ ?_
 refine An EA Am rfl rfl rfl rfl rfl hr (by decide) Ay dK rfl rfl rfl ?_
 refine Ac rfl ?_ ?_
 refine An D1 Am rfl rfl rfl rfl rfl hr (by decide) Ay dK rfl rfl rfl ?_
 refine Ac rfl ?_ ?_
 walk_at "v0"
 refine Ac rfl ?_ ?_
 exact Ak
 exact Aj
 exact Aj
 exact Aj
 refine Ah ?_ ?_
 refine AD 2 nd11 rfl (by walk_at "loc") rfl rfl ?_
 refine An EA Am rfl rfl rfl rfl rfl hr (by decide) Ay dK rfl rfl rfl ?_
 refine Ac rfl ?_ ?_
 refine An D1 Am rfl rfl rfl rfl rfl hr (by decide) Ay dK rfl rfl rfl ?_
 refine Ac rfl ?_ ?_
 walk_at "v0"
 refine Ac rfl ?_ ?_
 exact Ak
 exact Aj
 exact Aj
 refine Ah ?_ ?_
 refine AD 3 nd11 rfl (by walk_at "loc") rfl rfl ?_
 refine Fz rfl rfl B rfl ?_ ?_
 exact EM dK
 refine UN ["_law_script","_law_house_here","_law_bag_here","_law_row","_law_heap_here","_law_some","_law_first","_law_back","?","_law_other","_law_at"] rfl rfl rfl dK rfl (fun _=>rfl) ?_ ?_ ?_
 refine Dg rfl B.range rfl ?_
 refine An AN Am rfl rfl rfl rfl rfl hr (by decide) Ay dK rfl rfl rfl ?_
 refine Ac rfl ?_ ?_
 walk_at "v2"
 refine Ac rfl ?_ ?_
 exact Ak
 exact Aj
 exact Dh
 intro _ _ _ _ _
 refine AR AS AF (fun _ _=>rfl) ?_ ?_
 refine AR AS AF (fun _ _=>rfl) ?_ ?_
 refine AR AS AF (fun _ _=>rfl) ?_ ?_
 walk_at "v2"
 exact Ak
 refine An AN Am rfl rfl rfl rfl rfl hr (by decide) Ay dK rfl rfl rfl ?_
 refine Ac rfl ?_ ?_
 walk_at "v3"
 refine Ac rfl ?_ ?_
 refine AJ Cr Bb B.len Boot.«len» dK dK rfl rfl rfl ?_
 refine Ac rfl ?_ ?_
 refine AR AS AF (fun _ _=>rfl) ?_ ?_
 walk_at "v2"
 exact Ak
 exact Aj
 exact Aj
 exact Ak
 refine Ah ?_ ?_
 refine US ?_ rfl rfl rfl ?_
 refine NO rfl ?_ rfl rfl
 refine GD 3 nd11 rfl (by walk_at "loc") rfl ?_ rfl
 refine GD 4 nd11 rfl (by walk_at "loc") rfl ?_ rfl
 exact NP
 refine An CQ Am rfl rfl rfl rfl rfl hr (by decide) Ay dK rfl rfl rfl ?_
 refine Ac rfl ?_ ?_
 walk_at "v1"
 refine Ac rfl ?_ ?_
 walk_at "v3"
 exact Aj
 refine Ah ?_ ?_
 refine AD 5 nd11 rfl (by walk_at "loc") rfl rfl ?_
 refine Ih LI (HV rfl) B.list Boot.«list» dK dK rfl rfl rfl ?_
 refine Ac rfl ?_ ?_
 walk_at "v4"
 exact Aj
 refine Ah ?_ ?_
 refine AD 6 nd11 rfl (by walk_at "loc") rfl rfl ?_
 refine AJ NJ (Jw rfl) B.min Boot.«min» dK dK rfl rfl rfl ?_
 refine Ac rfl ?_ ?_
 walk_at "v5"
 exact Aj
 refine Ah ?_ ?_
 refine AD 7 nd11 rfl (by walk_at "loc") rfl rfl ?_
 refine An B6 Am rfl rfl rfl rfl rfl hr (by decide) Ay dK rfl rfl rfl ?_
 refine Ac rfl ?_ ?_
 walk_at "v1"
 refine Ac rfl ?_ ?_
 walk_at "v6"
 refine Ac rfl ?_ ?_
 exact Ak
 exact Aj
 refine Ah ?_ ?_
 refine GX PassesOwn.never rfl ?_ ?_ ?_ (fun _=>rfl)
 refine Dg rfl B.range rfl ?_
 exact Ak
 exact ID 8 nd11 rfl (by walk_at "loc") rfl
 refine Ah ?_ ?_
 refine AD 9 nd11 rfl (by walk_at "loc") rfl rfl ?_
 refine AR AS AF (fun _ _=>rfl) ?_ ?_
 walk_at "v5"
 refine An AN Am rfl rfl rfl rfl rfl hr (by decide) Ay dK rfl rfl rfl ?_
 refine Ac rfl ?_ ?_
 walk_at "v2"
 refine Ac rfl ?_ ?_
 refine AJ Cr Bb B.len Boot.«len» dK dK rfl rfl rfl ?_
 refine Ac rfl ?_ ?_
 walk_at "v5"
 exact Aj
 exact Aj
 refine Ah ?_ ?_
 refine Ca ?_ ?_ ?_
 refine BL Qi (MM hr) (Bd _) ?_ ?_
 refine AJ Cr Bb B.len Boot.«len» dK dK rfl rfl rfl ?_
 refine Ac rfl ?_ ?_
 refine An EZ Am rfl rfl rfl rfl rfl hr (by decide) Ay dK rfl rfl rfl ?_
 refine Ac rfl ?_ ?_
 walk_at "v1"
 refine Ac rfl ?_ ?_
 walk_at "v9"
 exact Aj
 exact Aj
 refine Kd hr (fun _ _=>rfl) ?_ ?_
 walk_at "v7"
 walk_at "v9"
 refine Al ?_
 refine Ax ?_
 exact EV
 exact A7
 refine Ah ?_ ?_
 refine Ca ?_ ?_ ?_
 refine BL DU (CK hr) (Bd _) ?_ ?_
 refine Av G4 G5 ?_ ?_
 walk_at "v8"
 exact Ak
 exact Ak
 refine Ah ?_ ?_
 refine AD 10 nd11 rfl (by walk_at "loc") rfl rfl ?_
 refine An AN Am rfl rfl rfl rfl rfl hr (by decide) Ay dK rfl rfl rfl ?_
 refine Ac rfl ?_ ?_
 walk_at "v2"
 refine Ac rfl ?_ ?_
 refine Av A3 AM ?_ ?_
 refine AJ Cr Bb B.len Boot.«len» dK dK rfl rfl rfl ?_
 refine Ac rfl ?_ ?_
 walk_at "v9"
 exact Aj
 exact Ak
 exact Aj
 refine Al ?_
 refine AD 9 nd11 rfl (by walk_at "loc") rfl rfl ?_
 refine Av A3 AM ?_ ?_
 refine Av A3 AM ?_ ?_
 refine Gu ?_ ?_
 walk_at "v9"
 walk_at "v10"
 refine AR AS AF (fun _ _=>rfl) ?_ ?_
 refine AR AS AF (fun _ _=>rfl) ?_ ?_
 refine AR AS AF (fun _ _=>rfl) ?_ ?_
 walk_at "v1"
 exact Ak
 refine An AN Am rfl rfl rfl rfl rfl hr (by decide) Ay dK rfl rfl rfl ?_
 refine Ac rfl ?_ ?_
 walk_at "v2"
 refine Ac rfl ?_ ?_
 refine AJ Cr Bb B.len Boot.«len» dK dK rfl rfl rfl ?_
 refine Ac rfl ?_ ?_
 refine AR AS AF (fun _ _=>rfl) ?_ ?_
 walk_at "v1"
 exact Ak
 exact Aj
 exact Aj
 exact Ak
 refine Gv ?_ ?_
 walk_at "v9"
 refine Av A3 AM ?_ ?_
 walk_at "v10"
 exact Ak
 exact A7
 refine Al ?_
 refine Ca ?_ ?_ ?_
 refine C8 ?_
 refine C9 (fun _=>rfl) ?_
 refine An EC Am rfl rfl rfl rfl rfl hr (by decide) Ay dK rfl rfl rfl ?_
 refine Ac rfl ?_ ?_
 walk_at "v1"
 refine Ac rfl ?_ ?_
 walk_at "v3"
 refine Ac rfl ?_ ?_
 walk_at "v4"
 refine Ac rfl ?_ ?_
 walk_at "v9"
 exact Aj
 refine Al ?_
 refine Ax ?_
 exact EV
 exact A7
 refine Al ?_
 refine Ax ?_
 exact EV
end
end Gk15
end
section
namespace Gk15
open PySem L2 J St
local macro_rules | `(tactic| walk_at "ev")=>do
 let l ← ("on1 on2 on3 Ce CD Bk BF fzU CA CN Ap ifS AG opM m1L m2L Aa Ad Ab Ae peeks peek er ers FE J.andM J.notM J0 orT Dm Jc AW share move moves keep Fs mkT lstM vals fzs BS D3 Ar K1 CM ET EJ retS AY IS free LS DB GS E8 Af EH Gb refs back OX Jl E9 isInt isBool Hh isTup isStr Az BN FP MB Ip Lf SG Ew Hr Ge Mm ER O8 Bs ixA Bk BF fzU CA CN Option.some_or Option.none_or Option.bind_none Br C2 atI ixN eqA neA ltA leA gtA geA Lp Dy nameOf lock unlock shB F4 HQ Pa DF CB Ic DE Dn slF own eqDi eqDs eqDb eqDl eqDt Fu Ie Fy GW inA CO".splitOn " ").mapM fun s=>`(Lean.Parser.Tactic.simpLemma| $(Lean.mkIdent s.toName):ident)
 let l:=l.toArray
 `(tactic| simp [-map_map,$l,*, *])
structure Hs where
 n:Int
 ls:List (Nat × List Int)
noncomputable def chD (c:Nat):D:=.str ⟨#[c]⟩
noncomputable def ld (p:Nat × List Int):D:=.tup [chD p.1,.lst (iL p.2)]
noncomputable def Hs.d (h:Hs):D:=.tup [.int h.n,.lst (h.ls.map ld)]
structure Hs.Ok (h:Hs):Prop where
 n1:2≤h.n
 n2:h.n≤4
 l1:1≤h.ls.length
 l2:h.ls.length≤6
 ch:∀ p∈h.ls,97≤p.1∧p.1≤122
 ri:(h.ls.map (·.1)).Pairwise (· < ·)
 hs:∀ p∈h.ls,p.2≠[]∧p.2.Pairwise (· < ·)∧∀ x∈p.2,0≤x∧x < h.n
@[simp] theorem M0 (st:Own) (d:D):B9 [(st,.fz d)] = some (.fz (.bl (isInt d && !isBool d)),[.fz d]):=by
 simp only [B9,fnM,Gi]
 cases d <;> walk_at "ev"
@[simp] theorem NY (s1 s2:Own) (i b:Int):Bj [(s1,.fz (.int i)),(s2,.fz (.int b))] = some (.fz (.bl (decide (0≤i) && decide (i < b))),[.fz (.int i),.fz (.int b)]):=by
 simp only [Bj,fnM,Dz]
 by_cases h0:0≤i <;> walk_at "ev" <;> simp [h0]
@[simp] theorem JO (st:Own) (x y:D):CI [(st,.fz (.tup [x,y]))] = some (.fz (.bl true),[.fz (.tup [x,y])]):=by
 simp only [CI,fnM,Hd]
 walk_at "ev"
theorem Mi {α:Type} (xs:List α) (f:α → Bool):(xs.map f).all id = xs.all f:=by simp [List.all_map]
theorem Jn (s1 s2:Own) (xs:List Int) (b:Int) (hl:xs.length≤LIM):BC [(s1,.fz (.lst (iL xs))),(s2,.fz (.int b))] = some (.fz (.bl (xs.all fun i=>decide (0≤i) && decide (i < b))),[.fz (.lst (iL xs)),.fz (.int b)]):=by
 have hc:=DI (it:=Dy (Ab 0)) (e:=Af Bj (Aa (Ab 0) (Aa (Ab 2) Ad))) (ρ:=[some (s1,.fz (.lst (iL xs))),some (s2,.fz (.int b))]) (ρ1:=[some (s1,.fz (.lst (iL xs))),some (s2,.fz (.int b))]) (ds:=iL xs) (n:=none) (f:=fun d=>.bl (decide (0≤nD d) && decide (nD d < b))) (by walk_at "ev") (by simpa using hl) (fun d hd=>by
  obtain ⟨i,_,rfl⟩:=Kl.mp hd
  refine ⟨.val (.fz (.bl (decide (0≤i) && decide (i < b)))),?_,?_⟩ <;> walk_at "ev" <;> rfl)
 rw [P7 (fun i=>D.bl (decide (0≤i) && decide (i < b)))] at hc
 refine AU (ρ:=[some (s1,.fz (.lst (iL xs))),some (s2,.fz (.int b))]) rfl ?_
 show B5 [some (s1,.fz (.lst (iL xs))),some (s2,.fz (.int b))] = _
 unfold B5
 refine BV ?_
 simp only [on1,on2,on3,Ce,CD,Bk,BF,fzU,CA,CN,opM,Aa,Ad,hc,bind_some,map_some,peeks,peek,HQ,C2,BS,Fu,Mi]
@[simp] theorem KC (s1 s2:Own) (xs:List Int) (b:Int) (hl:xs.length≤LIM):AO [(s1,.fz (.lst (iL xs))),(s2,.fz (.int b))] = some (.fz (.bl (xs.all fun i=>decide (0≤i) && decide (i < b))),[.fz (.lst (iL xs)),.fz (.int b)]):=by
 have e1:=Jn .own .own xs b hl
 simp only [AO,fnM,BY]
 clear hl
 walk_at "ev"
theorem BH {α:Type} {xs:List α} {k:Nat} {i:Int} (hi:i = k) (h:k < xs.length):atI xs i = some xs[k]:=by
 subst hi
 simp [atI,ixN,h]
theorem QK {xs:List Int} (h:xs.Pairwise (· < ·)) {k:Nat} (hk:k + 1 < xs.length):xs[k]'(by lia) < xs[k + 1]:=pairwise_iff_getElem.mp h k (k + 1) (by lia) hk (by lia)
theorem XW {ds:List D} (h:∀ d∈ds,d = .bl true):∃ bs:List Bool,Ds ds = some bs∧bs.all id = true:=by
 induction ds with
 | nil=>exact ⟨[],rfl,rfl⟩
 | cons d ds ih =>
  obtain ⟨bs,h1,h2⟩:=ih fun x hx=>h x (mem_cons_of_mem _ hx)
  have:=h d mem_cons_self
  subst this
  exact ⟨true :: bs,by simp [Ds,h1],by simpa using h2⟩
theorem all_true {it:MI} {e:ME} {ρ ρ1:Ro} {ds:List D} {n:Option Nat} (hi:it ρ = some (ds,n,ρ1)) (hl:ds.length≤LIM) (he:∀ d∈ds,e (J.own d :: lock ρ1 n) = some (.val (.fz (.bl true)),J.own d :: lock ρ1 n)) :
  opM HQ (Aa (A4 it 0 D0 e) Ad) ρ = some (.val (.fz (.bl true)),ρ1):=by
 have hc:=DI (f:=fun _=>.bl true) hi hl fun d hd=>⟨_,he d hd,by simp [share,er]⟩
 obtain ⟨bs,h1,h2⟩:=XW (ds:=ds.map fun _=>D.bl true) (by simp)
 simp only [on1,on2,on3,Ce,CD,Bk,BF,fzU,CA,CN,opM,Aa,Ad,hc,bind_some,map_some,peeks,peek,HQ,C2,BS,h1,h2]
theorem QR (s1 s2:Own) (xs:List Int) (b:Int) (hl:xs.length≤1000) (hr:xs.Pairwise (· < ·)) (hb:∀ x∈xs,0≤x∧x < b):A5 [(s1,.fz (.lst (iL xs))),(s2,.fz (.int b))] = some (.fz (.bl true),[.fz (.lst (iL xs)),.fz (.int b)]):=by
 have hL:xs.length≤LIM:=le_trans hl (by decide)
 simp only [A5,fnM,Cy]
 have h1:(xs.all fun i=>decide (0≤i) && decide (i < b)) = true:=by simpa [all_eq_true] using hb
 have hc:=all_true (it:=Bt (opM BN (m2L (opM Bs (Aa (Ab 0) Ad)) (Ae (.int 1))))) (e:=opM ltA (m2L (opM ixA (m2L (Ab 1) (Ab 0))) (opM ixA (m2L (Ab 1) (opM Az (m2L (Ab 0) (Ae (.int 1)))))))) (ρ:=[some (s1,.fz (.lst (iL xs))),some (s2,.fz (.int b))]) (ds:=Cu 0 ((xs.length:Int) - 1).toNat) (n:=none) (ρ1:=[some (s1,.fz (.lst (iL xs))),some (s2,.fz (.int b))])
  (by
   have : -(2 ^ 62)≤(xs.length:Int) - 1∧(xs.length:Int) - 1 < 2 ^ 62:=by lia
   simp only [Bt]; walk_at "ev"; lia) (by rw [DZ]; lia) (fun d hd=>by
   obtain ⟨j,hj⟩:=List.mem_iff_getElem?.mp hd
   obtain ⟨rfl,hj⟩:=IY hj
   have hk:j + 1 < xs.length:=by lia
   have e1:=BH (xs:=iL xs) (i:=0 + (j:Int)) (k:=j) (by lia) (by simpa using (by lia:j < xs.length))
   have e2:=BH (xs:=iL xs) (i:=0 + (j:Int) + 1) (k:=j + 1) (by lia) (by simpa using hk)
   have e3:=QK hr hk
   simp only [iL,getElem_map] at e1 e2
   simp only [on1,on2,on3,Ce,CD,Bk,BF,fzU,CA,CN,G2,opM,m2L,Aa,Ad,Ab,Ae,J.own,peeks,peek,ixA,Bk,BF,fzU,CA,CN,some_or,none_or,bind_none,Br,Az,ltA,getElem?_cons_zero,getElem?_cons_succ,bind_some,map_some,iL,e1,e2,e3,decide_true])
 simp only [Ap,ifS,Dm,AG,retS,Af,Aa,Ad,Ab,map_cons,map_nil,getElem?_cons_zero,getElem?_cons_succ,bind_some,map_some,EH,Gb,refs,nodup_nil,if_true,KC _ _ xs b hL,h1,back,peek,FE,Bool.not_true,false_eq_true,if_false,AY,append_nil,length_cons,length_nil,Nat.sub_self,List.replicate_zero]
 simp [hc,move,Jl]
theorem call_of {Φ:Fn} {ms:MA} {ρ ρ1 ρ2:Ro} {rs:List R} {as:List (Own × A)} {a:A} {os:List A} (h1:ms ρ = some (rs,ρ1)) (h2:EH ρ1 rs = some as) (hn:decide (refs rs).Nodup = true) (h3 : Φ as = some (a,os)) (hb:back rs os ρ1 = ρ2):Af Φ ms ρ = some (.val a,ρ2):=by
 subst hb
 simp only [Af,h1,h2,h3,bind_some,map_some,if_pos (of_decide_eq_true hn)]
theorem BP {f:List A→Option A} {ms:MA} {ρ ρ1:Ro} {rs:List R} {as:List A} {c:A} (h1:ms ρ = some (rs,ρ1)) (h2:peeks ρ1 rs = some as) (h3:f as = some c):opM f ms ρ = some (.val c,ρ1):=by
 simp only [opM,h1,h2,h3,bind_some,map_some]
theorem ixL {T:List D} {i:Int} {d:D} (h:atI T i = some d):ixA [.lst (T.map A.fz),.fz (.int i)] = some (.fz d):=by
 simp only [on1,on2,on3,Ce,CD,ixA,Bk,fzU,CA,Br,BF,CN,BS,h,bind_some,map_some,some_or,none_or,bind_none]
theorem ixF {T:List D} {i:Int} {d:D} (h:atI T i = some d):ixA [.fz (.lst T),.fz (.int i)] = some (.fz d):=by
 simp only [on1,on2,on3,Ce,CD,ixA,Bk,fzU,CA,Br,BF,CN,h,bind_some,map_some,some_or,none_or,bind_none]
theorem ixS {z:Str} {i:Int} {c:Nat} (h:atI z.cps.toList i = some c):ixA [.fz (.str z),.fz (.int i)] = some (.fz (chD c)):=by
 simp only [on1,on2,on3,Ce,CD,ixA,Bk,fzU,CA,Br,BF,CN,h,chD,bind_some,map_some,some_or,none_or,bind_none,Option.map_none]
theorem M5 {i j:Int} (h:decide (0≤j∧j≤1000000∧i.natAbs < 2 ^ 64) = true):Ew [.fz (.int i),.fz (.int j)] = some (.fz (.int (i * 2 ^ j.toNat))):=by
 simp only [on1,on2,on3,Ce,CD,Ew,FP,Bk,fzU,CA,bind_some,h,if_true]
theorem V7 {i j:Int} (h:decide (0≤j) = true):Hr [.fz (.int i),.fz (.int j)] = some (.fz (.int (i / 2 ^ j.toNat))):=by
 simp only [on1,on2,on3,Ce,CD,Hr,FP,Bk,fzU,CA,bind_some,h,if_true]
theorem Dl {m1 m2:ME} {ρ ρ1 ρ2:Ro} {r1 r2:R} (h1:m1 ρ = some (r1,ρ1)) (h2:m2 ρ1 = some (r2,ρ2)):m2L m1 m2 ρ = some ([r1,r2],ρ2):=by
 simp only [m2L,Aa,Ad,h1,h2,bind_some,map_some]
theorem Eu {m:ME} {ρ ρ1:Ro} {n:Int} (h:m ρ = some (.val (.fz (.int n)),ρ1)) (h0 : -1000≤n) (h1:n≤1000000):Bt m ρ = some (Cu 0 n.toNat,none,ρ1):=by
 have e0:(-(2 ^ 62)≤n∧n < 2 ^ 62) = True:=by simp; lia
 simp only [Bt,h,bind_some,e0,if_true]
noncomputable abbrev oI (i:Int):Slot:=some (.own,.fz (.int i))
noncomputable abbrev pN (x:Slot):Prop:=x = none∨∃ d,x = some (Own.own,A.fz d)
local macro_rules | `(tactic| walk_at "eo")=>do
 let l ← ("Ap ifS AG opM m1L m2L Aa Ad Ab Ae peeks peek er ers FE J.andM J.notM J0 orT Dm Jc AW share move moves keep Fs mkT lstM vals fzs BS D3 Ar K1 CM ET EJ retS AY IS free LS DB GS E8 Af EH Gb refs back OX Jl E9 isInt isBool Hh isTup isStr Az BN FP MB Ip Lf SG Ew Hr Ge Mm ER O8 Bs ixA Bk BF fzU CA CN Option.some_or Option.none_or Option.bind_none Br C2 eqA neA ltA leA gtA geA Lp Dy nameOf lock unlock HK shB F4 HQ Pa DF CB Ic DE Dn slF J.own eqDi eqDs eqDb eqDl eqDt Fu Ie Fy GW Ot inA CO Bt L8 EX Nm GZ Ct MR El on1 on2 on3 Ce CD FI nnA BK Hu D7 PB J9 Ld P2 Ff Je Um List.getElem?_cons_zero List.getElem?_cons_succ List.getElem?_nil Option.bind_some Option.bind_none Option.map_some Option.map_none List.map_cons List.map_nil List.cons_append List.nil_append List.append_nil List.length_cons List.length_nil List.length_map List.replicate_zero List.replicate_succ List.nodup_nil List.set_cons_zero List.set_cons_succ List.take_succ_cons List.take_zero if_true if_false Bool.not_true Bool.not_false Bool.false_eq_true reduceIte reduceCtorEq Nat.reduceSub Nat.reduceAdd Nat.sub_self Bool.true_and Bool.and_true Bool.false_and Bool.and_false Bool.true_or Bool.or_true Bool.false_or Bool.or_false decide_true decide_false beq_self_eq_true and_self and_true true_and Nat.zero_add List.nodup_cons List.not_mem_nil not_false_eq_true".splitOn " ").mapM fun s=>`(Lean.Parser.Tactic.simpLemma| $(Lean.mkIdent s.toName):ident)
 let l:=l.toArray
 `(tactic| simp only [$l,*, *])
theorem WN:(Str.ofString "a").cps.toList = [97]:=by decide +kernel
theorem WO:(Str.ofString "z").cps.toList = [122]:=by decide +kernel
theorem Kj (a b:Nat):([a] < [b])↔a < b:=by
 rw [List.cons_lt_cons_iff]
 constructor
 ·rintro (h | ⟨_,h⟩)
  ·exact h
  ·exact absurd h (List.not_lt_nil _)
 ·intro h; exact .inl h
theorem at0 {α:Type} (a:α) (xs:List α):atI (a :: xs) 0 = some a:=by simp [atI,ixN]
theorem at1 {α:Type} (a b:α) (xs:List α):atI (a :: b :: xs) 1 = some b:=by
 have:(1:Int) < ((xs.length:Int) + 1 + 1):=by lia
 simp [atI,ixN,this]
theorem S7 (st:Own) (c:Nat) (h:97≤c∧c≤122):By [(st,.fz (chD c))] = some (.fz (.bl true),[.fz (chD c)]):=by
 have e1:decide ([c] < [97]) = false:=by rw [decide_eq_false_iff_not,Kj]; lia
 have e2:decide ([122] < [c]) = false:=by rw [decide_eq_false_iff_not,Kj]; lia
 have e3:((Str.length ⟨#[c]⟩:Nat):Int) = 1:=rfl
 have e4:=WN
 have e5:=WO
 simp only [By,fnM,DA,chD]
 walk_at "eo"
theorem SX (s1 s2:Own) (n:Int) (p:Nat × List Int) (h:97≤p.1∧p.1≤122) (hl:p.2.length≤1000) (h0:p.2≠[]) (hr:p.2.Pairwise (· < ·)) (hb:∀ x∈p.2,0≤x∧x < n):CP [(s1,.fz (.int n)),(s2,.fz (ld p))] = some (.fz (.bl true),[.fz (.int n),.fz (ld p)]):=by
 have hp:decide ((0:Int) < (p.2.length:Int)) = true:=by
  have:=length_pos_iff.mpr h0
  simpa using this
 have e1:=at0 (chD p.1) [.lst (iL p.2)]
 have e2:=at1 (chD p.1) (.lst (iL p.2)) []
 have e3:=S7 .own p.1 h
 have e4:=QR .own .own p.2 n hl hr hb
 have e5:=JO .own (chD p.1) (.lst (iL p.2))
 clear hb hr h0 h hl
 simp only [CP,fnM,Gg,ld]
 walk_at "eo"
theorem SW (st:Own) (n:Int) (h1:2≤n) (h2:n≤4):Bq [(st,.fz (.int n))] = some (.fz (.bl true),[.fz (.int n)]):=by
 have e1:=M0 .own (.int n)
 simp only [Bq,fnM,C3]
 walk_at "eo"
theorem QL {n lo:Int}:∀ {xs:List Int},xs.Pairwise (· < ·)→(∀ x∈xs,lo≤x∧x < n)→(xs.length:Int)≤max 0 (n - lo):=by
 intro xs
 induction xs generalizing lo with
 | nil=>intro _ _; simp; lia
 | cons x xs ih =>
  intro hp hb
  have:=ih (lo:=x + 1) (pairwise_cons.mp hp).2 fun y hy=>⟨by have:=(pairwise_cons.mp hp).1 y hy; lia,(hb y (mem_cons_of_mem _ hy)).2⟩
  have:=hb x mem_cons_self
  simp only [length_cons]
  lia
theorem Hs.Ok.hl {h:Hs} (ok:h.Ok):∀ p∈h.ls,p.2.length≤4:=fun p hp=>by
 obtain ⟨_,r,b⟩:=ok.hs p hp
 have n2:=ok.n2
 have:=QL r b
 lia
theorem OU (s1 s2:Own) (h:Hs) (ok:h.Ok):CZ [(s1,.fz (.int h.n)),(s2,.fz (.lst (h.ls.map ld)))] = some (.fz (.bl true),[.fz (.int h.n),.fz (.lst (h.ls.map ld))]):=by
 have l1:=ok.l1
 have l2:=ok.l2
 have hlim:1000≤LIM:=by decide
 have hc1:=all_true (it:=Dy (Ab 1)) (e:=Af CP (Aa (Ab 1) (Aa (Ab 0) Ad))) (ρ:=[some (s1,.fz (.int h.n)),some (s2,.fz (.lst (h.ls.map ld)))]) (ds:=h.ls.map ld) (n:=none) (ρ1:=[some (s1,.fz (.int h.n)),some (s2,.fz (.lst (h.ls.map ld)))])
  (by walk_at "eo") (by simp; lia) (fun d hd=>by
   obtain ⟨p,hp,rfl⟩:=mem_map.mp hd
   obtain ⟨h0,hr,hb⟩:=ok.hs p hp
   have e1:=SX .own .own h.n p (ok.ch p hp) (by have:=ok.hl p hp; lia) h0 hr hb
   clear hb hr h0 hd hp
   walk_at "eo")
 have hc2:=all_true (it:=Bt (opM BN (m2L (opM Bs (Aa (Ab 1) Ad)) (Ae (.int 1))))) (e:=opM ltA (m2L (opM ixA (m2L (opM ixA (m2L (Ab 2) (Ab 0))) (Ae (.int 0)))) (opM ixA (m2L (opM ixA (m2L (Ab 2) (opM Az (m2L (Ab 0) (Ae (.int 1)))))) (Ae (.int 0)))))) (ρ:=[some (s1,.fz (.int h.n)),some (s2,.fz (.lst (h.ls.map ld)))]) (ds:=Cu 0 ((h.ls.length:Int) - 1).toNat) (n:=none) (ρ1:=[some (s1,.fz (.int h.n)),some (s2,.fz (.lst (h.ls.map ld)))])
  (by
   have e0:(-(2 ^ 62)≤(h.ls.length:Int) - 1∧(h.ls.length:Int) - 1 < 2 ^ 62) = True:=by simp; lia
   clear hc1
   walk_at "eo") (by rw [DZ]; lia) (fun d hd=>by
   obtain ⟨j,hj⟩:=List.mem_iff_getElem?.mp hd
   obtain ⟨rfl,hj⟩:=IY hj
   have hk:j + 1 < h.ls.length:=by lia
   have e1:=BH (xs:=h.ls.map ld) (i:=0 + (j:Int)) (k:=j) (by lia) (by simpa using (by lia:j < h.ls.length))
   have e2:=BH (xs:=h.ls.map ld) (i:=0 + (j:Int) + 1) (k:=j + 1) (by lia) (by simpa using hk)
   have e3:(h.ls[j]'(by lia)).1 < (h.ls[j + 1]).1:=by
    have:=pairwise_iff_getElem.mp ok.ri j (j + 1) (by simp; lia) (by simpa using hk) (by lia)
    simpa using this
   simp only [getElem_map,ld,chD] at e1 e2
   have e4:decide ([(h.ls[j]'(by lia)).1] < [(h.ls[j + 1]).1]) = true:=by rw [decide_eq_true_iff]; exact (Kj _ _).mpr e3
   have e5:=at0 (D.str ⟨#[(h.ls[j]'(by lia)).1]⟩) [.lst (iL (h.ls[j]'(by lia)).2)]
   have e6:=at0 (D.str ⟨#[(h.ls[j + 1]).1]⟩) [.lst (iL (h.ls[j + 1]).2)]
   clear hc1 hd e3 hj l1 l2 hlim
   walk_at "eo")
 have e5:decide ((1:Int)≤(h.ls.length:Int)) = true:=by simp; lia
 have e6:decide ((h.ls.length:Int)≤6) = true:=by simp; lia
 clear l1 l2 hlim
 refine AU (ρ:=[some (s1,.fz (.int h.n)),some (s2,.fz (.lst (h.ls.map ld)))]) rfl ?_
 show Dt [some (s1,.fz (.int h.n)),some (s2,.fz (.lst (h.ls.map ld)))] = _
 unfold Dt
 rw [Ai (ρ1:=[some (s1,.fz (.int h.n)),some (s2,.fz (.lst (h.ls.map ld)))]) (by clear hc1 hc2; walk_at "eo"),Ai (GV (not_of (DY hc1)))]
 exact BV hc2
theorem MZ (st:Own) (h:Hs) (ok:h.Ok):Dk [(st,.fz h.d)] = some (.fz (.bl true),[.fz h.d]):=by
 have e1:=OU .own .own h ok
 have e2:=SW .own h.n ok.n1 ok.n2
 have e3:=JO .own (.int h.n) (.lst (h.ls.map ld))
 have e4:=at0 (D.int h.n) [.lst (h.ls.map ld)]
 have e5:=at1 (D.int h.n) (.lst (h.ls.map ld)) []
 simp only [Dk,fnM,Gh,Hs.d]
 walk_at "eo"
theorem KD (st:Own) (h:Hs) (ok:h.Ok):Cz [(st,.fz h.d)] = some (.fz .non,[.fz h.d]):=by
 have e1:=MZ .own h ok
 simp only [Cz,fnM,E5]
 walk_at "eo"
noncomputable def Hs.text (h:Hs):Str:=⟨(h.ls.map (·.1)).toArray⟩
theorem Ha:∀ (xs:List (Nat × List Int)),Dp (xs.map fun p=>chD p.1) = some (xs.map fun p=>(⟨#[p.1]⟩:Str))
 | []=>rfl
 | x :: xs=>by
  have ih:=Ha xs
  simp only [chD] at ih
  simp [Dp,chD,ih]
theorem Lj (xs:List (Nat × List Int)):glue (xs.map fun p=>(⟨#[p.1]⟩:Str)) = ⟨(xs.map (·.1)).toArray⟩:=by
 unfold glue
 congr 1
 congr 1
 induction xs with
 | nil=>rfl
 | cons x xs ih=>simp at ih ⊢; exact ih
theorem Ma (xs:List (Nat × List Int)):((xs.map fun p=>(⟨#[p.1]⟩:Str)).map (·.length)).sum = xs.length:=by
 induction xs with
 | nil=>rfl
 | cons x xs ih =>
  have:Str.length ⟨#[x.1]⟩ = 1:=rfl
  simp only [map_cons,List.sum_cons,ih,this,length_cons]
  lia
theorem GG (st:Own) (h:Hs) (ok:h.Ok):B4 [(st,.fz h.d)] = some (.fz (.str h.text),[.fz h.d]):=by
 have e5:=at1 (D.int h.n) (.lst (h.ls.map ld)) []
 have l2:=ok.l2
 have hlim:1000≤LIM:=by decide
 have hc:=DI (it:=Dy (opM ixA (m2L (Ab 0) (Ae (.int 1))))) (e:=opM ixA (m2L (Ab 0) (Ae (.int 0)))) (ρ:=[some (st,.fz h.d)]) (ρ1:=[some (st,.fz h.d)]) (ds:=h.ls.map ld) (n:=none) (f:=fun d=>match d with | .tup (x :: _)=>x | d=>d)
  (by simp only [Hs.d]; walk_at "eo") (by simp; lia) (fun d hd=>by
   obtain ⟨p,hp,rfl⟩:=mem_map.mp hd
   have e6:=at0 (chD p.1) [.lst (iL p.2)]
   simp only [ld]
   refine ⟨.val (.fz (chD p.1)),?_,?_⟩ <;> clear hd hp e5 <;> walk_at "eo")
 have e1:(h.ls.map ld).map (fun d=>match d with | .tup (x :: _)=>x | d=>d) = h.ls.map fun p=>chD p.1:=by simp [ld]
 rw [e1] at hc
 have e2:=Ha h.ls
 have e3:=Lj h.ls
 have e4:(((h.ls.map fun p=>(⟨#[p.1]⟩:Str)).map (·.length)).sum≤16777216) = True:=by rw [Ma]; simp; lia
 have e7:((Str.ofString "").length = 0) = True:=by
  have:(Str.ofString "").length = 0:=by decide +kernel
  simp [this]
 refine AU (ρ:=[some (st,.fz h.d)]) rfl ?_
 show DP [some (st,.fz h.d)] = _
 unfold DP
 refine BV ?_
 simp only [on1,on2,on3,Ce,CD,Bk,BF,fzU,CA,CN,DF,Ae,bind_some,m1L,Aa,Ad,hc,map_some,peeks,peek,CB,e7,if_true,C2,BS,e2,e4,e3,Hs.text]
noncomputable def Row (h:Hs) (z:Str):Prop:=z.length≤1000∧∀ c∈z.cps.toList,c∈h.ls.map (·.1)
theorem in_text (h:Hs) (c:Nat) (hc:c∈h.ls.map (·.1)):(!(Builtin.Str.occurrences h.text ⟨#[c]⟩ 0 h.text.length 1).isEmpty) = true:=by
 rw [StrLaws.found_one,decide_eq_true_iff]
 exact hc
theorem QP (s1 s2:Own) (h:Hs) (ok:h.Ok) (z:Str) (hz:Row h z):Fv [(s1,.fz h.d),(s2,.fz (.str z))] = some (.fz (.bl true),[.fz h.d,.fz (.str z)]):=by
 have e1:=KD .own h ok
 have e2:=GG .own h ok
 have hlim:1000≤LIM:=by decide
 have e3:(z.length≤LIM) = True:=by have:=hz.1; simp; lia
 have hc:=all_true (it:=L8 (Ab 1)) (e:=opM (inA false) (m2L (Ab 0) (Ab 3))) (ρ:=[some (s1,.fz h.d),some (s2,.fz (.str z)),some (.own,.fz (.str h.text))]) (ρ1:=[some (s1,.fz h.d),some (s2,.fz (.str z)),some (.own,.fz (.str h.text))]) (ds:=EU z) (n:=none)
  (by walk_at "eo") (by
   have:(EU z).length = z.length:=by simp [EU]; rfl
   rw [this]; have:=hz.1; lia) (fun d hd=>by
   simp only [EU,mem_map] at hd
   obtain ⟨c,hc,rfl⟩:=hd
   have e4:=in_text h c (hz.2 c hc)
   clear e1 e2 e3
   walk_at "eo")
 refine AU (ρ:=[some (s1,.fz h.d),some (s2,.fz (.str z)),some (.own,.fz (.str h.text))]) rfl ?_
 show FN [some (s1,.fz h.d),some (s2,.fz (.str z)),none] = _
 unfold FN
 clear hz
 rw [Ai (ρ1:=[some (s1,.fz h.d),some (s2,.fz (.str z)),none]) (by clear hc; walk_at "eo"),Ai (ρ1:=[some (s1,.fz h.d),some (s2,.fz (.str z)),none]) (by clear hc; walk_at "eo"),Ai (ρ1:=[some (s1,.fz h.d),some (s2,.fz (.str z)),some (.own,.fz (.str h.text))]) (by clear hc; walk_at "eo")]
 exact BV hc
theorem CL (s1 s2:Own) (h:Hs) (ok:h.Ok) (z:Str) (hz:Row h z):AE [(s1,.fz h.d),(s2,.fz (.str z))] = some (.fz .non,[.fz h.d,.fz (.str z)]):=by
 have e1:=QP .own .own h ok z hz
 simp only [AE,fnM,Gj]
 clear hz
 walk_at "eo"
noncomputable def Hs.hands (h:Hs) (c:Nat):List Int:=((h.ls.find? fun p=>p.1 == c).map (·.2)).getD []
theorem HZ {h:Hs} (ok:h.Ok) {c:Nat} (hc:c∈h.ls.map (·.1)):∃ (j:Nat) (hj:j < h.ls.length),(h.ls[j]).1 = c∧Txt.find h.text ⟨#[c]⟩ = (j:Int)∧h.hands c = (h.ls[j]).2:=by
 obtain ⟨p,hp,rfl⟩:=mem_map.mp hc
 obtain ⟨j,hj,rfl⟩:=mem_iff_getElem.mp hp
 have nd:∀ k (hk:k < j),(h.ls[k]'(by lia)).1≠(h.ls[j]).1:=fun k hk=>by
  have:=pairwise_iff_getElem.mp ok.ri k j (by simp; lia) (by simpa using hj) hk
  simp at this
  lia
 refine ⟨j,hj,rfl,Pn (by simp [Hs.text,hj]) (fun k hk=>?_),?_⟩
 ·have hk':k < h.ls.length:=by lia
  simp only [Hs.text]
  rw [getElem?_eq_getElem (by simpa using hk')]
  simp
  exact nd k hk
 ·have:h.ls.find? (fun p=>p.1 == (h.ls[j]).1) = some h.ls[j]:=by
   rw [List.find?_eq_some_iff_getElem]
   refine ⟨by simp,j,hj,rfl,fun k hk=>?_⟩
   have:=nd k hk
   simpa using this
  simp [Hs.hands,this]
theorem MX (s1 s2:Own) (h:Hs) (ok:h.Ok) (c:Nat) (hc:c∈h.ls.map (·.1)):B8 [(s1,.fz h.d),(s2,.fz (chD c))] = some (.fz (.lst (iL (h.hands c))),[.fz h.d,.fz (chD c)]):=by
 have e1:=GG .own h ok
 have e5:=at1 (D.int h.n) (.lst (h.ls.map ld)) []
 obtain ⟨j,hj,e2,e3,e4⟩:=HZ ok hc
 have e6:(0≤Txt.find h.text ⟨#[c]⟩) = True:=by rw [e3]; simp
 have e7:=BH (xs:=h.ls.map ld) (i:=(j:Int)) (k:=j) rfl (by simpa using hj)
 have e8:ld (h.ls[j]) = .tup [chD c,.lst (iL (h.hands c))]:=by rw [ld,e2,e4]
 simp only [getElem_map] at e7
 rw [e8] at e7
 have e9:=at1 (chD c) (.lst (iL (h.hands c))) []
 rw [← e3] at e7
 clear e2 e3 e4 e8 hc
 refine AU (ρ:=[some (s1,.fz h.d),some (s2,.fz (chD c))]) rfl ?_
 show EI [some (s1,.fz h.d),some (s2,.fz (chD c))] = _
 simp only [EI,Hs.d,chD] at e1 ⊢
 simp only [chD] at e7 e9
 walk_at "eo"
noncomputable def hL (xs:List Int):A:=.lst ((iL xs).map A.fz)
theorem UG (xs:List Int):C2 (hL xs) = some (iL xs):=by simp [hL,C2,BS]
theorem anyB {xs:List Int} {f:Int→Bool}:Ds (xs.map fun x=>D.bl (f x)) = some (xs.map f):=Fu xs f
theorem Mk {α:Type} (xs:List α) (f:α → Bool):(xs.map f).any id = xs.any f:=by simp [List.any_map]
theorem IJ (s1 s2:Own) (xs ys:List Int) (hl:xs.length≤1000):A2 [(s1,.fz (.lst (iL xs))),(s2,hL ys)] = some (.fz (.bl (xs.any fun x=>decide (x∈ys))),[.fz (.lst (iL xs)),hL ys]):=by
 have hlim:1000≤LIM:=by decide
 have hc:=DI (it:=Dy (Ab 0)) (e:=opM (inA false) (m2L (Ab 0) (Ab 2))) (ρ:=[some (s1,.fz (.lst (iL xs))),some (s2,hL ys)]) (ρ1:=[some (s1,.fz (.lst (iL xs))),some (s2,hL ys)]) (ds:=iL xs) (n:=none) (f:=fun d=>.bl (decide (nD d∈ys)))
  (by walk_at "eo") (by simp; lia) (fun d hd=>by
   obtain ⟨i,_,rfl⟩:=Kl.mp hd
   refine ⟨.val (.fz (.bl (decide (i∈ys)))),?_,?_⟩
   ·have e1:=Fy ys
    have e2:=GW i ys
    simp only [hL] at *
    clear hlim hd
    walk_at "eo"
   ·rfl)
 rw [P7 (fun i=>D.bl (decide (i∈ys)))] at hc
 refine AU (ρ:=[some (s1,.fz (.lst (iL xs))),some (s2,hL ys)]) rfl ?_
 show Cq [some (s1,.fz (.lst (iL xs))),some (s2,hL ys)] = _
 unfold Cq
 refine BV ?_
 simp only [on1,on2,on3,Ce,CD,Bk,BF,fzU,CA,CN,opM,Aa,Ad,hc,bind_some,map_some,peeks,peek,Pa,C2,BS,anyB,Mk]
noncomputable def Hs.at (h:Hs) (z:Str) (i:Nat):List Int:=h.hands (z.cps.toList.getD i 0)
theorem Row.c {h:Hs} {z:Str} (hz:Row h z) {i:Nat} (hi:i < z.cps.toList.length):z.cps.toList.getD i 0∈h.ls.map (·.1):=by
 have:z.cps.toList.getD i 0 = z.cps.toList[i]:=by simp [List.getD,getElem?_eq_getElem hi]
 rw [this]
 exact hz.2 _ (getElem_mem hi)
theorem Hs.hands_len {h:Hs} (ok:h.Ok) (c:Nat):(h.hands c).length≤4:=by
 unfold Hs.hands
 cases e:h.ls.find? (fun p=>p.1 == c) with
 | none=>simp
 | some p=>simpa using ok.hl p (List.mem_of_find?_eq_some e)
theorem GI {z:Str} {i:Nat} {j:Int} (hj:j = i) (hi:i < z.cps.toList.length):atI z.cps.toList j = some (z.cps.toList.getD i 0):=by
 rw [BH hj hi]
 simp [List.getD,getElem?_eq_getElem hi]
noncomputable def Bag (n:Nat) (as:List A):Prop:=∃ x y:Int,as = [.fz (.int x),.fz (.int y)]∧0≤y∧y≤n
theorem Bag.mono {n m:Nat} {as:List A} (h:Bag n as) (hm:n≤m):Bag m as:=by
 obtain ⟨x,y,e,h1,h2⟩:=h
 exact ⟨x,y,e,h1,by lia⟩
theorem Uc (st:Own) (x:Int):∃ as a1,Bag 1 as∧Bu [(st,.fz (.int x))] = some (.lst as,[a1]):=by
 have p1:decide ((0:Int)≤18∧(18:Int)≤1000000∧Int.natAbs 10 < 2 ^ 64) = true:=by decide
 have l2:((2:Nat)≤LIM) = True:=by simp [LIM,sizeLine]
 have p2:decide ((0:Int) < 2147483647) = true:=by decide
 by_cases h:(10:Int) ^ (18:Int).toNat≤(if x < 0 then -x else x)
 ·refine ⟨_,_,⟨(if x < 0 then -x else x),0,rfl,by lia,by lia⟩,AU (ρ:=[some (st,.fz (.int x))]) rfl ?_⟩
  show CW [some (st,.fz (.int x))] = _
  unfold CW
  have h':=decide_eq_true h
  clear h
  walk_at "eo"
 ·refine ⟨_,_,⟨x % 2147483647,1,rfl,by lia,by lia⟩,AU (ρ:=[some (st,.fz (.int x))]) rfl ?_⟩
  show CW [some (st,.fz (.int x))] = _
  unfold CW
  have h':=decide_eq_false h
  clear h
  walk_at "eo"
theorem Dx {n:Nat} {as:List A} (hb:Bag n as) (hn:n≤1000000) (m:Int) (hm:0 < m) (hm2:m < 1073741824):∃ (d:Int) (as':List A),0≤d∧d < m∧Bag (n + 1) as'∧Ag [(.lent,.lst as),(.own,.fz (.int m))] = some (.fz (.int d),[.lst as',.fz (.int m)]):=by
 obtain ⟨x,y,rfl,h1,h2⟩:=hb
 have m1:decide (0 < m) = true:=decide_eq_true hm
 have m2:decide (0 < m∧m < 1073741824) = true:=decide_eq_true ⟨hm,hm2⟩
 have i0:ixN 2 0 = some 0:=by rfl
 have i1:ixN 2 1 = some 1:=by rfl
 by_cases hy:y = 0
 ·subst hy
  refine ⟨x % m,[.fz (.int (x / m)),.fz (.int 0)],Int.emod_nonneg _ (by lia),Int.emod_lt_of_pos _ hm,⟨_,_,rfl,by lia,by lia⟩,AU (ρ:=[some (.lent,.lst [.fz (.int (x / m)),.fz (.int 0)]),some (.own,.fz (.int m)),some (.own,.fz (.int (x % m)))]) rfl ?_⟩
  show Cw [some (.lent,.lst [.fz (.int x),.fz (.int 0)]),some (.own,.fz (.int m)),none] = _
  unfold Cw
  have a0:=at0 (D.int x) [D.int 0]
  have a1:=at1 (D.int x) (D.int 0) []
  clear hm hm2 h1 h2 hn
  walk_at "eo"
 ·let x':=(x * 48271 + 7919 * y * y + 17) % 2147483647
  have e1:eqD (.int y) (.int 0) = false:=by simp [eqDi,hy]
  have c1:(-(2 ^ 64) < x∧x < 2 ^ 64 ∨ -(2 ^ 64) < (48271:Int)∧(48271:Int) < 2 ^ 64) = True:=by simp
  have c2:(-(2 ^ 64) < (7919:Int)∧(7919:Int) < 2 ^ 64 ∨ -(2 ^ 64) < y∧y < 2 ^ 64) = True:=by simp
  have c3:(-(2 ^ 64) < 7919 * y∧7919 * y < 2 ^ 64 ∨ -(2 ^ 64) < y∧y < 2 ^ 64) = True:=by simp; lia
  have c4:(-(2 ^ 64) < x'∧x' < 2 ^ 64 ∨ -(2 ^ 64) < (69621:Int)∧(69621:Int) < 2 ^ 64) = True:=by simp
  have d1:decide ((0:Int) < 2147483647) = true:=by decide
  have d2:decide ((0:Int) < 2147483629) = true:=by decide
  have d3:decide ((0:Int) < 5∧(5:Int) < 1073741824) = true:=by decide
  have hx:(x * 48271 + 7919 * y * y + 17) % 2147483647 = x':=rfl
  refine ⟨x' * 69621 % 2147483629 / 5 % m,[.fz (.int x'),.fz (.int (y + 1))],Int.emod_nonneg _ (by lia),Int.emod_lt_of_pos _ hm,⟨_,_,rfl,by lia,by lia⟩,AU (ρ:=[some (.lent,.lst [.fz (.int x'),.fz (.int (y + 1))]),some (.own,.fz (.int m)),none]) rfl ?_⟩
  show Cw [some (.lent,.lst [.fz (.int x),.fz (.int y)]),some (.own,.fz (.int m)),none] = _
  unfold Cw
  have a0:=at0 (D.int x) [D.int y]
  have a1:=at1 (D.int x) (D.int y) []
  have a2:=at1 (D.int x') (D.int y) []
  have a3:=at0 (D.int x') [D.int (y + 1)]
  rw [Ai (ρ1:=[some (.lent,.lst [.fz (.int x),.fz (.int y)]),some (.own,.fz (.int m)),none]) (by
   simp only [eqDi] at e1
   clear hm hm2 h1 h2 hn c1 c2 c3 c4 hx hy
   walk_at "eo"),Ai (ρ1:=[some (.lent,.lst [.fz (.int x'),.fz (.int y)]),some (.own,.fz (.int m)),none]) (by
   clear hm hm2 h1 h2 hn c4 hy e1
   walk_at "eo"),Ai (ρ1:=[some (.lent,.lst [.fz (.int x'),.fz (.int (y + 1))]),some (.own,.fz (.int m)),none]) (by
   clear hm hm2 h1 h2 hn c4 hy e1 c1 c2 c3 hx
   walk_at "eo")]
  refine BV ?_
  clear hm hm2 h1 h2 hn hy e1 c1 c2 c3 hx
  walk_at "eo"
noncomputable def Jv (b:Int) (i:Nat):Bool:=eqD (.int (Builtin.bitAnd (b / 2 ^ i) 1)) (.int 1)
noncomputable def E3 (n:Nat) (b:Int):List Int:=((List.range n).filter (Jv b)).map fun (i:Nat)=>(i:Int)
theorem Oe (n:Nat) (b:Int):(E3 n b).Pairwise (· < ·):=by
 unfold E3
 rw [List.pairwise_map]
 have:((List.range n).filter (Jv b)).Pairwise (· < ·):=List.Pairwise.filter _ List.pairwise_lt_range
 exact this.imp fun h=>by lia
theorem Ry {n:Nat} {b:Int}:∀ x∈E3 n b,0≤x∧x < n:=by
 intro x hx
 simp only [E3,mem_map,mem_filter,mem_range] at hx
 obtain ⟨i,⟨hi,_⟩,rfl⟩:=hx
 lia
theorem K4:∀ n∈[2,3,4],∀ b∈List.range 16,1≤b→b < 2 ^ n→E3 n (b:Int)≠[]:=by decide +kernel
theorem Vm:∀ n∈[2,3,4],∀ a∈List.range n,∀ b∈List.range n,1≤Builtin.bitOr (1 * 2 ^ a) (1 * 2 ^ b)∧Builtin.bitOr (1 * 2 ^ a) (1 * 2 ^ b) < 2 ^ n:=by decide +kernel
theorem Rz {n:Nat} {b:Int} (hn:n = 2∨n = 3∨n = 4) (h1:1≤b) (h2:b < 2 ^ n):E3 n b≠[]:=by
 obtain ⟨k,rfl⟩:∃ k:Nat,b = k:=⟨b.toNat,by lia⟩
 have h16:(2:Int) ^ n≤16:=by rcases hn with rfl | rfl | rfl <;> decide
 refine K4 n (by rcases hn with rfl | rfl | rfl <;> simp) k (by simp; lia) (by lia) ?_
 have:((k:Nat):Int) < ((2 ^ n:Nat):Int):=by simpa using h2
 lia
theorem cons_of {m:ME} {ms:MA} {ρ ρ1 ρ2:Ro} {r:R} {rs:List R} (h1:m ρ = some (r,ρ1)) (h2:ms ρ1 = some (rs,ρ2)):Aa m ms ρ = some (r :: rs,ρ2):=by simp [Aa,h1,h2]
theorem GF {m:ME} {ρ ρ1 ρ2:Ro} {r:R} {d:D} (h1:m ρ = some (r,ρ1)) (h2:share ρ1 r = some (d,ρ2)):AW m ρ = some (.val (.fz d),ρ2):=by simp [AW,h1,h2]
theorem K0 {ms:MA} {ρ ρ1:Ro} {a b:D} (h:ms ρ = some ([.val (.fz a),.val (.fz b)],ρ1)):Fs ms ρ = some (.val (.fz (.tup [a,b])),ρ1):=by
 simp [Fs,h,moves,move,mkT,fzs,LIM,sizeLine]
theorem J1 {m:ME} {i:Nat} {ρ:Ro} {st:Own} {as:List A} {a:A} (h0:E8 ρ i = some (st,as)) (h:m ρ = some (.val a,ρ)) (hl:as.length < LIM):DB i m ρ = some (.next (ρ.set i (some (st,.lst (as ++ [a]))))):=by
 simp only [DB,h0,bind_some,h,keep,if_pos hl]
theorem OY (ρ:Ro) (ds:List D):share ρ (.val (.lst (ds.map A.fz))) = some (.lst ds,ρ):=by
 simp [share,er,D3]
theorem Rt:∀ k∈List.range 26,atI (Str.ofString "abcdefghijklmnopqrstuvwxyz").cps.toList (k:Int) = some (97 + k):=by decide +kernel
theorem RA (n:Nat) (b:Int):(((Cu 0 n).filter fun d=>Jv b (nD d).toNat).map fun d=>d) = iL (E3 n b):=by
 have e1:(fun d=>Jv b (nD d).toNat) ∘ (fun (k:Nat)=>D.int (0 + (k:Int))) = Jv b:=by
  funext k
  simp
 have e2:D.int ∘ (fun (i:Nat)=>(i:Int)) = fun (k:Nat)=>D.int (0 + (k:Int)):=by
  funext k
  simp
 rw [List.map_id',Cu,filter_map,e1,iL,E3,map_map,e2]
structure HI (n:Int) (M j:Nat) (ls:List (Nat × List Int)) (a:Int):Prop where
 len:ls.length = j
 a0:0≤a
 a1:a≤26 - M + j
 ch:∀ p∈ls,97≤p.1∧(p.1:Int) < 97 + a
 ri:(ls.map (·.1)).Pairwise (· < ·)
 hs:∀ p∈ls,p.2≠[]∧p.2.Pairwise (· < ·)∧∀ x∈p.2,0≤x∧x < n
theorem HI.step {n:Int} {M j:Nat} {ls:List (Nat × List Int)} {a d:Int} {hl:List Int} (h:HI n M j ls a) (d0:0≤d) (d1:d < 27 - M + (0 + (j:Int)) - a) (hl0:hl≠[]) (hl1:hl.Pairwise (· < ·)) (hl2:∀ x∈hl,0≤x∧x < n):HI n M (j + 1) (ls ++ [(97 + (a + d).toNat,hl)]) (a + d + 1):=by
 have a0:=h.a0
 refine ⟨by simp [h.len],by lia,by lia,?_,?_,?_⟩
 ·intro p hp
  rcases mem_append.mp hp with hp | hp
  ·have:=h.ch p hp; lia
  ·simp only [List.mem_singleton] at hp; subst hp; simp only; lia
 ·rw [map_append,List.pairwise_append]
  refine ⟨h.ri,by simp,?_⟩
  intro x hx y hy
  obtain ⟨p,hp,rfl⟩:=mem_map.mp hx
  simp only [map_cons,map_nil,List.mem_singleton] at hy
  subst hy
  have:=(h.ch p hp).2
  lia
 ·intro p hp
  rcases mem_append.mp hp with hp | hp
  ·exact h.hs p hp
  ·simp only [List.mem_singleton] at hp; subst hp; exact ⟨hl0,hl1,hl2⟩
noncomputable abbrev eK (as:List A) (n M S:Int) (ls:List (Nat × List Int)) (a:Int) (x6 x7:Slot):Ro:=[some (.own,.lst as),oI n,oI M,oI S,some (.own,.lst (ls.map fun p=>A.fz (ld p))),oI a,x6,x7]
noncomputable def cH:MS:=(Ap (Ar 5 (opM Az (m2L (Ab 5) (Af Ag (Aa (Ab 0) (Aa (opM BN (m2L (opM Az (m2L (opM BN (m2L (Ae (.int 27)) (Ab 2))) (Ab 6))) (Ab 5))) Ad)))))) (Ap (Ar 7 (opM Az (m2L (Ae (.int 1)) (Af Ag (Aa (Ab 0) (Aa (opM BN (m2L (opM Ew (m2L (Ae (.int 1)) (Ab 1))) (Ae (.int 1)))) Ad)))))) (Ap (ifS (AG (opM eqA (m2L (Ab 3) (Ae (.int 1))))) (Ar 7 (opM Mm (m2L (opM Ew (m2L (Ae (.int 1)) (Af Ag (Aa (Ab 0) (Aa (Ab 1) Ad))))) (opM Ew (m2L (Ae (.int 1)) (Af Ag (Aa (Ab 0) (Aa (Ab 1) Ad)))))))) AY) (Ap (DB 4 (Fs (Aa (AW (opM ixA (m2L (Ae (.str (Str.ofString "abcdefghijklmnopqrstuvwxyz"))) (Ab 5)))) (Aa (AW (A4 (Bt (Ab 1)) 0 (AG (opM eqA (m2L (opM Ge (m2L (opM Hr (m2L (Ab 8) (Ab 0))) (Ae (.int 1)))) (Ae (.int 1))))) (Ab 0))) Ad)))) (Ar 5 (opM Az (m2L (Ab 5) (Ae (.int 1)))))))))
theorem KA {n M S a:Int} {Mn j N:Nat} {as:List A} {ls:List (Nat × List Int)} {x7:Slot} (hM:M = Mn) (hM2:Mn≤6) (hj:j < Mn) (hn:n = 2∨n = 3∨n = 4) (hb:Bag N as) (hN:N≤100000) (hi:HI n Mn j ls a) (hx7:pN x7) :
  ∃ as' ls' a' b,cH (eK as n M S ls a (oI (0 + (j:Int))) x7) = some (.next (eK as' n M S ls' a' (oI (0 + (j:Int))) (oI b)))∧Bag (N + 4) as'∧HI n Mn (j + 1) ls' a':=by
 have a0:=hi.a0
 have a1:=hi.a1
 have hp:(1:Int) * 2 ^ n.toNat - 1≤15∧0 < (1:Int) * 2 ^ n.toNat - 1:=by rcases hn with rfl | rfl | rfl <;> decide
 have sh:decide (0≤n∧n≤1000000∧Int.natAbs 1 < 2 ^ 64) = true:=by rcases hn with rfl | rfl | rfl <;> decide
 obtain ⟨d1,as1,g1,g2,b1,t1⟩:=Dx hb (by lia) (27 - M + (0 + (j:Int)) - a) (by lia) (by lia)
 obtain ⟨d2,as2,g3,g4,b2,t2⟩:=Dx b1 (by lia) ((1:Int) * 2 ^ n.toNat - 1) (by lia) (by lia)
 have v1:(Af Ag (Aa (Ab 0) (Aa (opM BN (m2L (opM Az (m2L (opM BN (m2L (Ae (.int 27)) (Ab 2))) (Ab 6))) (Ab 5))) Ad))) (eK as n M S ls a (oI (0 + (j:Int))) x7) = some (.val (.fz (.int d1)),(eK as1 n M S ls a (oI (0 + (j:Int))) x7)):=call_of rfl rfl rfl t1 rfl
 have v1':(opM Az (m2L (Ab 5) (Af Ag (Aa (Ab 0) (Aa (opM BN (m2L (opM Az (m2L (opM BN (m2L (Ae (.int 27)) (Ab 2))) (Ab 6))) (Ab 5))) Ad))))) (eK as n M S ls a (oI (0 + (j:Int))) x7) = some (.val (.fz (.int (a + d1))),(eK as1 n M S ls a (oI (0 + (j:Int))) x7)):=BP (Dl (r1:=.val (.fz (.int a))) rfl v1) rfl rfl
 have st1:Ar 5 (opM Az (m2L (Ab 5) (Af Ag (Aa (Ab 0) (Aa (opM BN (m2L (opM Az (m2L (opM BN (m2L (Ae (.int 27)) (Ab 2))) (Ab 6))) (Ab 5))) Ad))))) (eK as n M S ls a (oI (0 + (j:Int))) x7) = some (.next (eK as1 n M S ls (a + d1) (oI (0 + (j:Int))) x7)):=Be v1' rfl
 have w2:(opM Ew (m2L (Ae (.int 1)) (Ab 1))) (eK as1 n M S ls (a + d1) (oI (0 + (j:Int))) x7) = some (.val (.fz (.int (1 * 2 ^ n.toNat))),(eK as1 n M S ls (a + d1) (oI (0 + (j:Int))) x7)):=BP rfl rfl (M5 sh)
 have w2':(opM BN (m2L (opM Ew (m2L (Ae (.int 1)) (Ab 1))) (Ae (.int 1)))) (eK as1 n M S ls (a + d1) (oI (0 + (j:Int))) x7) = some (.val (.fz (.int (1 * 2 ^ n.toNat - 1))),(eK as1 n M S ls (a + d1) (oI (0 + (j:Int))) x7)):=BP (Dl (r2:=.val (.fz (.int 1))) w2 rfl) rfl rfl
 have v2:(Af Ag (Aa (Ab 0) (Aa (opM BN (m2L (opM Ew (m2L (Ae (.int 1)) (Ab 1))) (Ae (.int 1)))) Ad))) (eK as1 n M S ls (a + d1) (oI (0 + (j:Int))) x7) = some (.val (.fz (.int d2)),(eK as2 n M S ls (a + d1) (oI (0 + (j:Int))) x7)):=call_of (cons_of (r:=.ref 0) rfl (cons_of w2' rfl)) rfl rfl t2 rfl
 have v2':(opM Az (m2L (Ae (.int 1)) (Af Ag (Aa (Ab 0) (Aa (opM BN (m2L (opM Ew (m2L (Ae (.int 1)) (Ab 1))) (Ae (.int 1)))) Ad))))) (eK as1 n M S ls (a + d1) (oI (0 + (j:Int))) x7) = some (.val (.fz (.int (1 + d2))),(eK as2 n M S ls (a + d1) (oI (0 + (j:Int))) x7)):=BP (Dl (r1:=.val (.fz (.int 1))) rfl v2) rfl rfl
 have st2:Ar 7 (opM Az (m2L (Ae (.int 1)) (Af Ag (Aa (Ab 0) (Aa (opM BN (m2L (opM Ew (m2L (Ae (.int 1)) (Ab 1))) (Ae (.int 1)))) Ad))))) (eK as1 n M S ls (a + d1) (oI (0 + (j:Int))) x7) = some (.next (eK as2 n M S ls (a + d1) (oI (0 + (j:Int))) (oI (1 + d2)))):=by
  rcases hx7 with rfl | ⟨d,rfl⟩ <;> exact Be v2' rfl
 have ct:(AG (opM eqA (m2L (Ab 3) (Ae (.int 1))))) (eK as2 n M S ls (a + d1) (oI (0 + (j:Int))) (oI (1 + d2))) = some (eqD (.int S) (.int 1),(eK as2 n M S ls (a + d1) (oI (0 + (j:Int))) (oI (1 + d2)))):=rfl
 have st3:∃ as3 b,Bag (N + 4) as3∧1≤b∧b < 2 ^ n.toNat∧(ifS (AG (opM eqA (m2L (Ab 3) (Ae (.int 1))))) (Ar 7 (opM Mm (m2L (opM Ew (m2L (Ae (.int 1)) (Af Ag (Aa (Ab 0) (Aa (Ab 1) Ad))))) (opM Ew (m2L (Ae (.int 1)) (Af Ag (Aa (Ab 0) (Aa (Ab 1) Ad)))))))) AY) (eK as2 n M S ls (a + d1) (oI (0 + (j:Int))) (oI (1 + d2))) = some (.next (eK as3 n M S ls (a + d1) (oI (0 + (j:Int))) (oI b))):=by
  by_cases hS:S = 1
  ·obtain ⟨d3,as3,g5,g6,b3,t3⟩:=Dx b2 (by lia) n (by lia) (by lia)
   obtain ⟨d4,as4,g7,g8,b4,t4⟩:=Dx b3 (by lia) n (by lia) (by lia)
   have ho:=Vm n.toNat (by rcases hn with rfl | rfl | rfl <;> simp) d3.toNat (by simp; lia) d4.toNat (by simp; lia)
   have sh3:decide (0≤d3∧d3≤1000000∧Int.natAbs 1 < 2 ^ 64) = true:=by simp; lia
   have sh4:decide (0≤d4∧d4≤1000000∧Int.natAbs 1 < 2 ^ 64) = true:=by simp; lia
   refine ⟨as4,_,b4.mono (by lia),ho.1,ho.2,?_⟩
   have e1:eqD (.int S) (.int 1) = true:=by rw [hS]; exact CY _
   rw [e1] at ct
   have u1:(Af Ag (Aa (Ab 0) (Aa (Ab 1) Ad))) (eK as2 n M S ls (a + d1) (oI (0 + (j:Int))) (oI (1 + d2))) = some (.val (.fz (.int d3)),(eK as3 n M S ls (a + d1) (oI (0 + (j:Int))) (oI (1 + d2)))):=call_of rfl rfl rfl t3 rfl
   have u2:(Af Ag (Aa (Ab 0) (Aa (Ab 1) Ad))) (eK as3 n M S ls (a + d1) (oI (0 + (j:Int))) (oI (1 + d2))) = some (.val (.fz (.int d4)),(eK as4 n M S ls (a + d1) (oI (0 + (j:Int))) (oI (1 + d2)))):=call_of rfl rfl rfl t4 rfl
   have u3:(opM Mm (m2L (opM Ew (m2L (Ae (.int 1)) (Af Ag (Aa (Ab 0) (Aa (Ab 1) Ad))))) (opM Ew (m2L (Ae (.int 1)) (Af Ag (Aa (Ab 0) (Aa (Ab 1) Ad))))))) (eK as2 n M S ls (a + d1) (oI (0 + (j:Int))) (oI (1 + d2))) = some (.val (.fz (.int (Builtin.bitOr (1 * 2 ^ d3.toNat) (1 * 2 ^ d4.toNat)))),(eK as4 n M S ls (a + d1) (oI (0 + (j:Int))) (oI (1 + d2)))):=BP (Dl (BP (Dl (r1:=.val (.fz (.int 1))) rfl u1) rfl (M5 sh3)) (BP (Dl (r1:=.val (.fz (.int 1))) rfl u2) rfl (M5 sh4))) rfl rfl
   exact (Lo ct).trans (Be u3 rfl)
  ·refine ⟨as2,_,b2.mono (by lia),(by lia:1≤1 + d2),by lia,?_⟩
   have e1:eqD (.int S) (.int 1) = false:=by simp [eqDi,hS]
   rw [e1] at ct
   exact (GV ct).trans rfl
 obtain ⟨as3,b,b3,c1,c2,st3⟩:=st3
 have hc:(A4 (Bt (Ab 1)) 0 (AG (opM eqA (m2L (opM Ge (m2L (opM Hr (m2L (Ab 8) (Ab 0))) (Ae (.int 1)))) (Ae (.int 1))))) (Ab 0)) (eK as3 n M S ls (a + d1) (oI (0 + (j:Int))) (oI b)) = some (.val (.lst ((iL (E3 n.toNat b)).map A.fz)),(eK as3 n M S ls (a + d1) (oI (0 + (j:Int))) (oI b))):=by
  have hlim:1000≤LIM:=by decide
  have rg:Bt (Ab 1) (eK as3 n M S ls (a + d1) (oI (0 + (j:Int))) (oI b)) = some (Cu 0 n.toNat,none,(eK as3 n M S ls (a + d1) (oI (0 + (j:Int))) (oI b))):=Eu rfl (by lia) (by lia)
  have:=Gf (g:=fun d=>Jv b (nD d).toNat) (f:=fun d=>d) (c:=(AG (opM eqA (m2L (opM Ge (m2L (opM Hr (m2L (Ab 8) (Ab 0))) (Ae (.int 1)))) (Ae (.int 1)))))) (e:=Ab 0) rg (by rw [DZ]; lia) (fun d hd=>by
   obtain ⟨i,hi⟩:=List.mem_iff_getElem?.mp hd
   obtain ⟨rfl,hi⟩:=IY hi
   have e0:decide (0≤(0:Int) + (i:Int)) = true:=by simp
   have r1:(opM Hr (m2L (Ab 8) (Ab 0))) (own (.int (0 + (i:Int))) :: (eK as3 n M S ls (a + d1) (oI (0 + (j:Int))) (oI b))) = some (.val (.fz (.int (b / 2 ^ (0 + (i:Int)).toNat))),own (.int (0 + (i:Int))) :: (eK as3 n M S ls (a + d1) (oI (0 + (j:Int))) (oI b))):=BP rfl rfl (V7 e0)
   have r2:(opM Ge (m2L (opM Hr (m2L (Ab 8) (Ab 0))) (Ae (.int 1)))) (own (.int (0 + (i:Int))) :: (eK as3 n M S ls (a + d1) (oI (0 + (j:Int))) (oI b))) = some (.val (.fz (.int (Builtin.bitAnd (b / 2 ^ (0 + (i:Int)).toNat) 1))),own (.int (0 + (i:Int))) :: (eK as3 n M S ls (a + d1) (oI (0 + (j:Int))) (oI b))):=BP (Dl (r2:=.val (.fz (.int 1))) r1 rfl) rfl rfl
   exact DY (BP (Dl (r2:=.val (.fz (.int 1))) r2 rfl) rfl rfl)) (fun d hd _=>⟨.val (.fz d),rfl,rfl⟩)
  rw [this,RA]
 have ha:=Rt (a + d1).toNat (by simp; lia)
 have hcx:atI (Str.ofString "abcdefghijklmnopqrstuvwxyz").cps.toList (a + d1) = some (97 + (a + d1).toNat):=by
  have:(((a + d1).toNat:Nat):Int) = a + d1:=by lia
  rw [this] at ha; exact ha
 have hix:(opM ixA (m2L (Ae (.str (Str.ofString "abcdefghijklmnopqrstuvwxyz"))) (Ab 5))) (eK as3 n M S ls (a + d1) (oI (0 + (j:Int))) (oI b)) = some (.val (.fz (chD (97 + (a + d1).toNat))),(eK as3 n M S ls (a + d1) (oI (0 + (j:Int))) (oI b))):=BP rfl rfl (ixS hcx)
 have hlsl:(ls.map fun p=>A.fz (ld p)).length < LIM:=by
  have hlim:1000≤LIM:=by decide
  have:=hi.len
  simp only [length_map]; lia
 have st4:(DB 4 (Fs (Aa (AW (opM ixA (m2L (Ae (.str (Str.ofString "abcdefghijklmnopqrstuvwxyz"))) (Ab 5)))) (Aa (AW (A4 (Bt (Ab 1)) 0 (AG (opM eqA (m2L (opM Ge (m2L (opM Hr (m2L (Ab 8) (Ab 0))) (Ae (.int 1)))) (Ae (.int 1))))) (Ab 0))) Ad)))) (eK as3 n M S ls (a + d1) (oI (0 + (j:Int))) (oI b)) = some (.next (eK as3 n M S (ls ++ [((97 + (a + d1).toNat),E3 n.toNat b)]) (a + d1) (oI (0 + (j:Int))) (oI b))):=by
  rw [J1 (st:=.own) (as:=ls.map fun p=>A.fz (ld p)) rfl (K0 (cons_of (GF hix rfl) (cons_of (GF hc (OY _ _)) rfl))) hlsl]
  simp [ld,eK]
 have hbits:=Rz (n:=n.toNat) (b:=b) (by lia) c1 c2
 refine ⟨as3,(ls ++ [((97 + (a + d1).toNat),E3 n.toNat b)]),a + d1 + 1,b,?_,b3,hi.step g1 (by lia) hbits (Oe _ _) (fun x hx=>by have:=Ry x hx; lia)⟩
 exact (Ai st1).trans ((Ai st2).trans ((Ai st3).trans ((Ai st4).trans rfl)))
theorem S0 {N:Nat} {as:List A} (hb:Bag N as) (hN:N≤1000):∃ h:Hs,∃ as',h.Ok∧Bag (N + 30) as'∧B1 [(.own,.lst as)] = some (.fz h.d,[.lst as']):=by
 obtain ⟨d1,as1,g1,g2,b1,t1⟩:=Dx hb (by lia) 3 (by lia) (by lia)
 obtain ⟨d2,as2,g3,g4,b2,t2⟩:=Dx b1 (by lia) 6 (by lia) (by lia)
 obtain ⟨d3,as3,g5,g6,b3,t3⟩:=Dx b2 (by lia) 2 (by lia) (by lia)
 have rg:Bt (Ab 2) (eK as3 (2 + d1) (1 + d2) d3 [] 0 none none) = some (Cu 0 (1 + d2).toNat,none,(eK as3 (2 + d1) (1 + d2) d3 [] 0 none none)):=Eu rfl (by lia) (by lia)
 obtain ⟨ρ',f1,f2⟩:=En (is:=[6]) (one:=true) (b:=cH)
  (fun j ρ=>∃ as' ls' a' x6 x7,pN x6∧pN x7∧Bag (N + 3 + 4 * j) as'∧HI (2 + d1) (1 + d2).toNat j ls' a' ∧ ρ = (eK as' (2 + d1) (1 + d2) d3 ls' a' x6 x7)) rg ⟨as3,[],0,none,none,.inl rfl,.inl rfl,b3,⟨rfl,by lia,by lia,by simp,by simp,by simp⟩,rfl⟩ (fun j d ρ hd hI=>by
   obtain ⟨as',ls',a',x6,x7,hx6,hx7,hb',hi,rfl⟩:=hI
   obtain ⟨rfl,hj⟩:=IY hd
   obtain ⟨as'',ls'',a'',b,s1,s2,s3⟩:=KA (n:=2 + d1) (M:=1 + d2) (S:=d3) (Mn:=(1 + d2).toNat) (j:=j) (by lia) (by lia) hj (by lia) hb' (by lia) hi hx7
   refine ⟨_,_,?_,.inl s1,as'',ls'',a'',_,_,.inr ⟨_,rfl⟩,.inr ⟨_,rfl⟩,s2.mono (by lia),s3,rfl⟩
   rcases hx6 with rfl | ⟨d,rfl⟩ <;> rfl)
 rw [DZ] at f2
 obtain ⟨as',ls',a',x6,x7,_,_,hb',hi,rfl⟩:=f2
 have hn2:2 + d1≤4:=by lia
 have ha1:=hi.a1
 have hlen:=hi.len
 have ok:Hs.Ok ⟨2 + d1,ls'⟩:=⟨by simp only; lia,hn2,by simp only; lia,by simp only; lia,fun p hp=>by have:=hi.ch p hp; lia,hi.ri,hi.hs⟩
 refine ⟨⟨2 + d1,ls'⟩,as',ok,hb'.mono (by lia),AU (ρ:=[some (.own,.lst as'),some (.own,.fz (.int (2 + d1))),some (.own,.fz (.int (1 + d2))),some (.own,.fz (.int d3)),some (.own,.fz (.lst (ls'.map ld))),some (.own,.fz (.int a')),x6,x7]) rfl ?_⟩
 show DM [some (.own,.lst as),none,none,none,none,none,none,none] = _
 unfold DM
 have y1:(Af Ag (Aa (Ab 0) (Aa (Ae (.int 3)) Ad))) [some (.own,.lst as),none,none,none,none,none,none,none] = some (.val (.fz (.int d1)),[some (.own,.lst as1),none,none,none,none,none,none,none]):=call_of rfl rfl rfl t1 rfl
 have y2:(opM Az (m2L (Ae (.int 2)) (Af Ag (Aa (Ab 0) (Aa (Ae (.int 3)) Ad))))) [some (.own,.lst as),none,none,none,none,none,none,none] = some (.val (.fz (.int (2 + d1))),[some (.own,.lst as1),none,none,none,none,none,none,none]):=BP (Dl (r1:=.val (.fz (.int 2))) rfl y1) rfl rfl
 have z1:Ar 1 (opM Az (m2L (Ae (.int 2)) (Af Ag (Aa (Ab 0) (Aa (Ae (.int 3)) Ad))))) [some (.own,.lst as),none,none,none,none,none,none,none] = some (.next [some (.own,.lst as1),oI (2 + d1),none,none,none,none,none,none]):=Be y2 rfl
 have y3:(Af Ag (Aa (Ab 0) (Aa (Ae (.int 6)) Ad))) [some (.own,.lst as1),oI (2 + d1),none,none,none,none,none,none] = some (.val (.fz (.int d2)),[some (.own,.lst as2),oI (2 + d1),none,none,none,none,none,none]):=call_of rfl rfl rfl t2 rfl
 have y4:(opM Az (m2L (Ae (.int 1)) (Af Ag (Aa (Ab 0) (Aa (Ae (.int 6)) Ad))))) [some (.own,.lst as1),oI (2 + d1),none,none,none,none,none,none] = some (.val (.fz (.int (1 + d2))),[some (.own,.lst as2),oI (2 + d1),none,none,none,none,none,none]):=BP (Dl (r1:=.val (.fz (.int 1))) rfl y3) rfl rfl
 have z2:Ar 2 (opM Az (m2L (Ae (.int 1)) (Af Ag (Aa (Ab 0) (Aa (Ae (.int 6)) Ad))))) [some (.own,.lst as1),oI (2 + d1),none,none,none,none,none,none] = some (.next [some (.own,.lst as2),oI (2 + d1),oI (1 + d2),none,none,none,none,none]):=Be y4 rfl
 have y5:(Af Ag (Aa (Ab 0) (Aa (Ae (.int 2)) Ad))) [some (.own,.lst as2),oI (2 + d1),oI (1 + d2),none,none,none,none,none] = some (.val (.fz (.int d3)),[some (.own,.lst as3),oI (2 + d1),oI (1 + d2),none,none,none,none,none]):=call_of rfl rfl rfl t3 rfl
 have z3:Ar 3 (Af Ag (Aa (Ab 0) (Aa (Ae (.int 2)) Ad))) [some (.own,.lst as2),oI (2 + d1),oI (1 + d2),none,none,none,none,none] = some (.next [some (.own,.lst as3),oI (2 + d1),oI (1 + d2),oI d3,none,none,none,none]):=Be y5 rfl
 refine (Ai z1).trans ((Ai z2).trans ((Ai z3).trans ((Ai (ρ1:=[some (.own,.lst as3),oI (2 + d1),oI (1 + d2),oI d3,some (.own,.lst []),none,none,none]) rfl).trans ((Ai (ρ1:=(eK as3 (2 + d1) (1 + d2) d3 [] 0 none none)) rfl).trans ((Ai f1).trans ?_)))))
 refine BV ?_
 refine K0 (cons_of (GF rfl rfl) (cons_of (GF (r:=.ref 4) rfl ?_) rfl))
 have:=D3 (ls'.map ld)
 rw [map_map] at this
 simp only [unlock,share,getElem?_cons_zero,getElem?_cons_succ,er]
 rw [show (ls'.map fun p=>A.fz (ld p)) = ls'.map (A.fz ∘ ld) from rfl,this]
 rfl
theorem GK {n j:Nat} {d:D} (h:(Cu 0 n)[j]? = some d):d = .int j∧j < n:=by
 obtain ⟨h1,h2⟩:=IY h
 rw [Int.zero_add] at h1
 exact ⟨h1,h2⟩
theorem LL:∀ (ls:List (Nat × List Int)),FZ (ls.map ld) = some (ls.map fun p=>((Sum.inr (⟨#[p.1]⟩:Str):Key),D.lst (iL p.2)))
 | []=>rfl
 | p :: ls=>by
  have ih:=LL ls
  simp only [map_cons,ld,chD,FZ,GZ,bind_some]
  rw [ih]
  rfl
theorem Rm {h:Hs} {c:Nat} (hc:c∈h.ls.map (·.1)):Ez (h.ls.map fun p=>((Sum.inr (⟨#[p.1]⟩:Str):Key),D.lst (iL p.2))) (Sum.inr (⟨#[c]⟩:Str)) = some (.lst (iL (h.hands c))):=by
 unfold Ez Hs.hands
 rw [List.find?_map]
 have e1:((fun (kv:Key × D)=>decide (kv.1 = Sum.inr (⟨#[c]⟩:Str))) ∘ fun (p:Nat × List Int)=>((Sum.inr (⟨#[p.1]⟩:Str):Key),D.lst (iL p.2))) = fun p=>p.1 == c:=by
  funext p
  rw [Bool.eq_iff_iff]
  simp
 rw [e1]
 cases hf:h.ls.find? (fun p=>p.1 == c) with
 | none =>
  obtain ⟨p,hp,rfl⟩:=mem_map.mp hc
  have:=List.find?_eq_none.mp hf p hp
  simp at this
 | some p=>rfl
theorem keys_nodup {h:Hs} (ok:h.Ok):((h.ls.map fun p=>((Sum.inr (⟨#[p.1]⟩:Str):Key),D.lst (iL p.2))).map (·.1)).Nodup:=by
 rw [map_map]
 have:=ok.ri
 rw [List.pairwise_map] at this
 unfold List.Nodup
 rw [List.pairwise_map]
 refine this.imp fun {a b} hab e=>?_
 simp at e
 lia
theorem Str.list_len (z:Str):z.cps.toList.length = z.length:=by simp; rfl
theorem SU {m:ME} {ρ ρ1:Ro} {n:Int} (h:m ρ = some (.val (.fz (.int n)),ρ1)) (h0:0≤n) (h1:n≤1000000):Bt m ρ = some (Cu 0 n.toNat,none,ρ1):=by
 have e0:(-(2 ^ 62)≤n∧n < 2 ^ 62) = True:=by simp; lia
 simp only [Bt,h,bind_some,e0,if_true]
theorem Li (z:Str) (j:Nat):z.cps.getD j 0 = z.cps.toList.getD j 0:=by rw [Array.getD_eq_getD_getElem?]; simp [List.getD]
theorem R8 {z:Str} {j:Nat} {d:D} (h:(EW z)[j]? = some d):d = .tup [.int j,.str ⟨#[z.cps.getD j 0]⟩]∧j < z.length:=by
 have hj:j < z.cps.size:=by have:=Aw h; simpa [EW] using this
 simp only [EW,getElem?_map,List.getElem?_range hj,map_some,Option.some.injEq] at h
 exact ⟨h.symm,hj⟩
theorem nil_of (ρ:Ro):Ad ρ = some ([],ρ):=rfl
theorem Ud:∀ (n:Nat) (xs:List Int),F4 n (iL xs) = true
 | n,[]=>rfl
 | n,x :: xs=>by
  have ih:=Ud n xs
  simp only [iL,map_cons,F4,shB,Bool.true_and] at ih ⊢
  exact ih
theorem QO (ns:List Int) (k:Nat):∃ c a2,AZ [(.ro,.scr ns),(.own,.fz (.int k))] = some (.fz (.int c),[.scr ns,a2]):=by
 by_cases h:k < ns.length
 ·obtain ⟨c,e2⟩:∃ c,atI (ns.map D.int) (k:Int) = some (.int c):=⟨ns[k],by
   have e2:=BH (xs:=ns.map D.int) (i:=(k:Int)) (k:=k) rfl (by simpa using h)
   simpa using e2⟩
  refine ⟨c,_,AU (ρ:=[some (.ro,.scr ns),some (.own,.fz (.int k))]) rfl ?_⟩
  show Cv [some (.ro,.scr ns),some (.own,.fz (.int k))] = _
  unfold Cv
  have e1:decide ((k:Int) < (ns.length:Int)) = true:=by simpa using h
  clear h
  walk_at "eo"
 ·refine ⟨0,_,AU (ρ:=[some (.ro,.scr ns),some (.own,.fz (.int k))]) rfl ?_⟩
  show Cv [some (.ro,.scr ns),some (.own,.fz (.int k))] = _
  unfold Cv
  have e1:decide ((k:Int) < (ns.length:Int)) = false:=by simpa using h
  clear h
  walk_at "eo"
theorem KP (cs:List Nat):Dp (cs.map chD) = some (cs.map fun c=>(⟨#[c]⟩:Str)):=by
 have:=Ha (cs.map fun c=>(c,[]))
 simpa [map_map,Function.comp_def] using this
theorem Nu (cs:List Nat):glue (cs.map fun c=>(⟨#[c]⟩:Str)) = ⟨cs.toArray⟩:=by
 have:=Lj (cs.map fun c=>(c,[]))
 simpa [map_map,Function.comp_def] using this
theorem Q3 (cs:List Nat):((cs.map fun c=>(⟨#[c]⟩:Str)).map (·.length)).sum = cs.length:=by
 have:=Ma (cs.map fun c=>(c,[]))
 simpa [map_map,Function.comp_def] using this
theorem HD {m:ME} {ρ ρ1:Ro} {cs:List Nat} (hm:m ρ = some (.val (.lst ((cs.map chD).map A.fz)),ρ1)) (hl:cs.length≤1000):DF CB (Ae (.str (Str.ofString ""))) (m1L m) ρ = some (.val (.fz (.str ⟨cs.toArray⟩)),ρ1):=by
 have e7:((Str.ofString "").length = 0) = True:=by
  have:(Str.ofString "").length = 0:=by decide +kernel
  simp [this]
 have e4:(((cs.map fun c=>(⟨#[c]⟩:Str)).map (·.length)).sum≤16777216) = True:=by rw [Q3]; simp; lia
 simp only [on1,on2,on3,Ce,CD,Bk,BF,fzU,CA,CN,DF,Ae,bind_some,m1L,Aa,Ad,hm,map_some,peeks,peek,CB,e7,if_true,C2,BS,KP,e4,Nu]
theorem Jz {it:MI} {c:MT} {e:ME} {f:D→D→D} {g:D→D→Bool} {ρ ρ1:Ro} {ds:List (D × D)} {n:Option Nat} (hi:it ρ = some (ds.map (fun d=>.tup [d.1,d.2]),n,ρ1)) (hl:ds.length≤LIM)
  (hc:∀ d∈ds,c (J.own d.1 :: J.own d.2 :: lock ρ1 n) = some (g d.1 d.2,J.own d.1 :: J.own d.2 :: lock ρ1 n))
  (he:∀ d∈ds,g d.1 d.2 = true→∃ r,e (J.own d.1 :: J.own d.2 :: lock ρ1 n) = some (r,J.own d.1 :: J.own d.2 :: lock ρ1 n)∧share (J.own d.1 :: J.own d.2 :: lock ρ1 n) r = some (f d.1 d.2,J.own d.1 :: J.own d.2 :: lock ρ1 n)) :
  A4 it 2 c e ρ = some (.val (.lst (((ds.filter fun d=>g d.1 d.2).map fun d=>f d.1 d.2).map A.fz)),ρ1):=by
 simp only [A4,hi,bind_some,length_map,hl,if_true,Jy hc he,map_some,Hi]
theorem MC (z:Str):EW z = ((List.range z.length).map fun (i:Nat)=>(D.int i,chD (z.cps.toList.getD i 0))).map fun d=>.tup [d.1,d.2]:=by
 simp only [EW,map_map,Function.comp_def,Li,chD]
 rfl
noncomputable def gW (ps:List Int) (d:D):Bool:=decide (nD d∈ps)
noncomputable def sees (h:Hs) (cs:List Nat) (x:Int):List Nat:=cs.filter fun c=>decide (x∈h.hands c)
noncomputable def les (h:Hs) (x:Int):List Nat:=(h.ls.filter fun p=>decide (x∈p.2)).map (·.1)
theorem Gn {h:Hs} (ok:h.Ok) {p:Nat × List Int} (hp:p∈h.ls):h.hands p.1 = p.2:=by
 obtain ⟨j,hj,e1,_,e3⟩:=HZ ok (mem_map.mpr ⟨p,hp,rfl⟩)
 obtain ⟨k,hk,rfl⟩:=mem_iff_getElem.mp hp
 have:j = k:=by
  rcases Nat.lt_trichotomy j k with q | q | q
  ·have:=pairwise_iff_getElem.mp ok.ri j k (by simpa using hj) (by simpa using hk) q
   simp at this
   lia
  ·exact q
  ·have:=pairwise_iff_getElem.mp ok.ri k j (by simpa using hk) (by simpa using hj) q
   simp at this
   lia
 subst this
 exact e3
theorem R4 {h:Hs} (ok:h.Ok) {c:Nat} (hc:c∈h.ls.map (·.1)) (x:Int):c∈les h x↔x∈h.hands c:=by
 obtain ⟨p,hp,rfl⟩:=mem_map.mp hc
 simp only [les,mem_map,mem_filter,decide_eq_true_eq]
 constructor
 ·rintro ⟨q,⟨hq,hx⟩,e⟩
  rw [← e,Gn ok hq]
  exact hx
 ·intro hx
  rw [Gn ok hp] at hx
  exact ⟨p,⟨hp,hx⟩,rfl⟩
theorem W0 (c:Nat) (cs:List Nat):inD (chD c) (cs.map chD) = decide (c∈cs):=by
 induction cs with
 | nil=>rfl
 | cons y ys ih =>
  have:inD (chD c) ((y :: ys).map chD) = (eqD (chD y) (chD c) || inD (chD c) (ys.map chD)):=rfl
  rw [this,ih]
  by_cases h:y = c
  ·subst h; simp [CY]
  ·have h':¬ c = y:=fun z=>h z.symm
   simp [h,h',chD,eqDs]
theorem RK (cs:List Nat):(cs.map chD).all CO = true:=by simp [chD,CO,all_eq_true]
noncomputable def gP (x:Int):D→Bool
 | .lst ds=>inD (.int x) ds
 | _=>false
noncomputable def gC (cs:List Nat):D→Bool
 | .str z=>decide (z.cps.getD 0 0∈cs)
 | _=>false
noncomputable def JZ (h:Hs) (cs:List Nat):List D:=(Cu 0 h.n.toNat).map fun d=>.str ⟨(sees h cs (nD d)).toArray⟩
theorem Rk {h:Hs} (ok:h.Ok):(Cu 0 h.n.toNat).length≤LIM:=by
 have hlim:1000≤LIM:=by decide
 have n2:=ok.n2
 rw [DZ]
 lia
theorem Te (h:Hs) (cs:List Nat):shB 16 (.lst (JZ h cs)) = true:=by
 simp only [shB,JZ]
 generalize Cu 0 h.n.toNat = l
 induction l with
 | nil=>rfl
 | cons a l ih=>simp only [map_cons,F4,shB,Bool.true_and,ih]
noncomputable def tx (cs:List Nat):Str:=⟨cs.toArray⟩
theorem Bo (cs:List Nat):(tx cs).cps.toList = cs:=rfl
theorem Ba (cs:List Nat):(tx cs).length = cs.length:=by simp [tx,Str.length]
theorem IX {h:Hs} {cs:List Nat} (hl:cs.length≤1000) (hc:∀ c∈cs,c∈h.ls.map (·.1)):Row h (tx cs):=⟨by rw [Ba]; exact hl,hc⟩
theorem Kz {s1 s2:Own} {h:Hs} (ok:h.Ok) {c:Nat} (hc:c∈h.ls.map (·.1)) {zd:D} {ps bs:List Int} {j:Nat} (l1:ps.length≤100) (l2:bs.length≤500) {x6:Slot} (hx6:(pN x6)) :
  (Ap (Ar 6 (Af B8 (Aa (Ab 0) (Aa (Ab 5) Ad)))) (Ap (ifS (Dm (AG (Af A2 (Aa (Ab 6) (Aa (Ab 3) Ad))))) (DB 2 (Ab 4)) AY) (GS 3 (Ab 6)))) [some (s1,.fz h.d),some (s2,.fz zd),some (.own,hL (ps)),some (.own,hL (bs)),some (.own,.fz (.int (j:Int))),some (.own,.fz (.str ⟨#[c]⟩)),x6] = some (.next [some (s1,.fz h.d),some (s2,.fz zd),some (.own,hL (ps ++ if hit h.hands bs c then [] else [(j:Int)])),some (.own,hL (bs ++ h.hands c)),some (.own,.fz (.int (j:Int))),some (.own,.fz (.str ⟨#[c]⟩)),some (.own,.fz (.lst (iL (h.hands c))))]):=by
 have hlim:1000≤LIM:=by decide
 have fl:(h.hands c).length≤4:=h.hands_len ok _
 have e1:=MX .own .own h ok c hc
 simp only [chD] at e1
 have e2:=IJ .own .lent (h.hands c) bs (by lia)
 have e3:((h.hands c).any fun x=>decide (x∈bs)) = hit h.hands bs c:=rfl
 rw [e3] at e2
 have st1:Ar 6 (Af B8 (Aa (Ab 0) (Aa (Ab 5) Ad))) [some (s1,.fz h.d),some (s2,.fz zd),some (.own,hL (ps)),some (.own,hL (bs)),some (.own,.fz (.int (j:Int))),some (.own,.fz (.str ⟨#[c]⟩)),x6] = some (.next [some (s1,.fz h.d),some (s2,.fz zd),some (.own,hL (ps)),some (.own,hL (bs)),some (.own,.fz (.int (j:Int))),some (.own,.fz (.str ⟨#[c]⟩)),some (.own,.fz (.lst (iL (h.hands c))))]):=by
  clear e2 fl hc hlim ok l1 l2 e3
  rcases hx6 with rfl | ⟨d,rfl⟩ <;> walk_at "eo"
 have t1:AG (Af A2 (Aa (Ab 6) (Aa (Ab 3) Ad))) [some (s1,.fz h.d),some (s2,.fz zd),some (.own,hL (ps)),some (.own,hL (bs)),some (.own,.fz (.int (j:Int))),some (.own,.fz (.str ⟨#[c]⟩)),some (.own,.fz (.lst (iL (h.hands c))))] = some (hit h.hands bs c,[some (s1,.fz h.d),some (s2,.fz zd),some (.own,hL (ps)),some (.own,hL (bs)),some (.own,.fz (.int (j:Int))),some (.own,.fz (.str ⟨#[c]⟩)),some (.own,.fz (.lst (iL (h.hands c))))]):=by
  refine DY ?_
  generalize hit h.hands bs c = b at e2 ⊢
  simp only [hL] at e2 ⊢
  clear e1 fl hc hlim ok l1 l2 e3 st1 hx6
  walk_at "eo"
 have st3:∀ qs:List Int,GS 3 (Ab 6) [some (s1,.fz h.d),some (s2,.fz zd),some (.own,hL (qs)),some (.own,hL (bs)),some (.own,.fz (.int (j:Int))),some (.own,.fz (.str ⟨#[c]⟩)),some (.own,.fz (.lst (iL (h.hands c))))] = some (.next [some (s1,.fz h.d),some (s2,.fz zd),some (.own,hL (qs)),some (.own,hL (bs ++ h.hands c)),some (.own,.fz (.int (j:Int))),some (.own,.fz (.str ⟨#[c]⟩)),some (.own,.fz (.lst (iL (h.hands c))))]):=fun qs=>by
  have a2:(bs.length + (h.hands c).length≤LIM) = True:=by simp only [eq_iff_iff,iff_true]; lia
  have a4:(iL bs).map A.fz ++ (iL (h.hands c)).map A.fz = (iL (bs ++ h.hands c)).map A.fz:=by simp [iL]
  clear e1 e2 fl hc hlim ok l1 l2 e3 st1 hx6 t1
  simp only [hL]
  walk_at "eo"
 rw [Ai st1]
 cases hh:hit h.hands bs c with
 | true =>
  rw [hh] at t1
  have st2:=(GV (a:=DB 2 (Ab 4)) (b:=AY) (not_of t1))
  rw [Ai (st2.trans rfl),st3,if_pos rfl,append_nil]
 | false =>
  rw [hh] at t1
  have st2:=(Lo (a:=DB 2 (Ab 4)) (b:=AY) (not_of t1))
  have st4:DB 2 (Ab 4) [some (s1,.fz h.d),some (s2,.fz zd),some (.own,hL (ps)),some (.own,hL (bs)),some (.own,.fz (.int (j:Int))),some (.own,.fz (.str ⟨#[c]⟩)),some (.own,.fz (.lst (iL (h.hands c))))] = some (.next [some (s1,.fz h.d),some (s2,.fz zd),some (.own,hL (ps ++ [(j:Int)])),some (.own,hL (bs)),some (.own,.fz (.int (j:Int))),some (.own,.fz (.str ⟨#[c]⟩)),some (.own,.fz (.lst (iL (h.hands c))))]):=by
   have a2:(ps.length < LIM) = True:=by simp only [eq_iff_iff,iff_true]; lia
   have a4:(iL ps).map A.fz ++ [A.fz (.int (j:Int))] = (iL (ps ++ [(j:Int)])).map A.fz:=by simp [iL]
   clear e1 e2 fl hc hlim ok l1 l2 e3 st1 hx6 t1 st2 st3 hh
   simp only [hL]
   walk_at "eo"
  rw [Ai (st2.trans st4),st3]
  rfl
theorem SF {f:Nat→List Int} (c:Nat):∀ (u:List Nat) (bs:List Int) (k:Nat),pl f bs k (u ++ [c]) = pl f bs k u ++ if hit f (bs ++ u.flatMap f) c then [] else [k + u.length]:=by
 intro u
 induction u with
 | nil=>intro bs k; simp [pl]
 | cons d u ih =>
  intro bs k
  have:=ih (bs ++ f d) (k + 1)
  simp only [cons_append,pl,this,List.flatMap_cons,append_assoc,length_cons,show k + 1 + u.length = k + (u.length + 1) by lia]
  split <;> rfl
theorem VJ {f:Nat→List Int}:∀ (u:List Nat) (bs:List Int) (k:Nat),(pl f bs k u).length≤u.length:=by
 intro u
 induction u with
 | nil=>intro bs k; simp [pl]
 | cons d u ih =>
  intro bs k
  have:=ih (bs ++ f d) (k + 1)
  simp only [pl]
  split <;> simp <;> lia
theorem Po {h:Hs} (ok:h.Ok):∀ u:List Nat,(u.flatMap h.hands).length≤4 * u.length:=by
 intro u
 induction u with
 | nil=>simp
 | cons d u ih =>
  have:=h.hands_len ok d
  simp only [List.flatMap_cons,length_append,length_cons]
  lia
noncomputable def plI (h:Hs) (cs:List Nat):List Int:=(pl h.hands [] 0 cs).map fun (i:Nat)=>(i:Int)
theorem Qs (h:Hs) (u:List Nat) (c:Nat):plI h (u ++ [c]) = plI h u ++ if hit h.hands (u.flatMap h.hands) c then [] else [(u.length:Int)]:=by
 simp only [plI,SF,map_append,nil_append,Nat.zero_add]
 split <;> rfl
theorem NR (h:Hs) (u:List Nat):(plI h u).length≤u.length:=by
 simp only [plI,length_map]; exact VJ u [] 0
theorem NX (s1 s2:Own) (h:Hs) (ok:h.Ok) (cs:List Nat) (hz:∀ c∈cs,c∈h.ls.map (·.1)) (hl:cs.length≤40):∃ a1 a2,AI [(s1,.fz h.d),(s2,.fz (.str (tx cs)))] = some (hL (plI h cs),[a1,a2]):=by
 have hit:El (Ab 1) [some (s1,.fz h.d),some (s2,.fz (.str (tx cs))),some (.own,hL (plI h (cs.take 0))),some (.own,hL ((cs.take 0).flatMap h.hands)),none,none,none] = some (EW (tx cs),none,[some (s1,.fz h.d),some (s2,.fz (.str (tx cs))),some (.own,hL (plI h (cs.take 0))),some (.own,hL ((cs.take 0).flatMap h.hands)),none,none,none]):=by
  have hlim:1000≤LIM:=by decide
  have e3:((tx cs).length≤LIM) = True:=by rw [Ba]; simp; lia
  simp only [El,Ab,getElem?_cons_zero,getElem?_cons_succ,bind_some,e3,if_true]
 obtain ⟨ρ',f1,f2⟩:=En (is:=[4,5]) (one:=false) (b:=(Ap (Ar 6 (Af B8 (Aa (Ab 0) (Aa (Ab 5) Ad)))) (Ap (ifS (Dm (AG (Af A2 (Aa (Ab 6) (Aa (Ab 3) Ad))))) (DB 2 (Ab 4)) AY) (GS 3 (Ab 6)))))
  (fun j ρ=>∃ x4 x5 x6,(pN x4)∧(pN x5)∧(pN x6) ∧ ρ = [some (s1,.fz h.d),some (s2,.fz (.str (tx cs))),some (.own,hL (plI h (cs.take j))),some (.own,hL ((cs.take j).flatMap h.hands)),x4,x5,x6]) hit ⟨none,none,none,.inl rfl,.inl rfl,.inl rfl,rfl⟩ (fun j d ρ hd hI=>by
   obtain ⟨x4,x5,x6,h4,h5,h6,rfl⟩:=hI
   obtain ⟨rfl,hj⟩:=R8 hd
   rw [Ba] at hj
   have hc:cs.getD j 0∈h.ls.map (·.1):=hz _ (by rw [getD_eq_getElem?_getD,getElem?_eq_getElem hj]; exact getElem_mem hj)
   have ec:(tx cs).cps.getD j 0 = cs.getD j 0:=by rw [Li]; rfl
   have et:cs.take (j + 1) = cs.take j ++ [cs.getD j 0]:=by
    rw [List.take_add_one,getD_eq_getElem?_getD,getElem?_eq_getElem hj]; rfl
   have tl:(cs.take j).length = j:=by rw [length_take]; lia
   have p1:=NR h (cs.take j)
   have p2:=Po ok (cs.take j)
   have st:=Kz (s1:=s1) (s2:=s2) ok hc (zd:=.str (tx cs)) (ps:=plI h (cs.take j)) (bs:=(cs.take j).flatMap h.hands) (j:=j) (by lia) (by lia) h6
   rw [ec]
   refine ⟨[some (s1,.fz h.d),some (s2,.fz (.str (tx cs))),some (.own,hL (plI h (cs.take j))),some (.own,hL ((cs.take j).flatMap h.hands)),some (.own,.fz (.int (j:Int))),some (.own,.fz (.str ⟨#[cs.getD j 0]⟩)),x6],_,?_,.inl st,some (.own,.fz (.int (j:Int))),some (.own,.fz (.str ⟨#[cs.getD j 0]⟩)),some (.own,.fz (.lst (iL (h.hands (cs.getD j 0))))),.inr ⟨_,rfl⟩,.inr ⟨_,rfl⟩,.inr ⟨_,rfl⟩,?_⟩
   ·rcases h4 with rfl | ⟨d4,rfl⟩ <;> rcases h5 with rfl | ⟨d5,rfl⟩ <;> rfl
   ·rw [et,Qs,List.flatMap_append,tl]
    simp only [List.flatMap_cons,List.flatMap_nil,append_nil])
 obtain ⟨x4,x5,x6,_,_,_,rfl⟩:=f2
 have nl:(EW (tx cs)).length = cs.length:=by simp [EW,tx]
 rw [nl,List.take_length] at f1
 refine ⟨_,_,AU (ρ:=[some (s1,.fz h.d),some (s2,.fz (.str (tx cs))),none,some (.own,hL (cs.flatMap h.hands)),x4,x5,x6]) rfl ?_⟩
 show C6 [some (s1,.fz h.d),some (s2,.fz (.str (tx cs))),none,none,none,none,none] = _
 unfold C6
 have st1:Ar 2 (lstM Ad) [some (s1,.fz h.d),some (s2,.fz (.str (tx cs))),none,none,none,none,none] = some (.next [some (s1,.fz h.d),some (s2,.fz (.str (tx cs))),some (.own,hL []),none,none,none,none]):=by
  have l0:((0:Nat)≤LIM) = True:=by simp
  clear f1 hit hz hl ok
  simp only [hL,iL]
  walk_at "eo"
 have st2:Ar 3 (lstM Ad) [some (s1,.fz h.d),some (s2,.fz (.str (tx cs))),some (.own,hL []),none,none,none,none] = some (.next [some (s1,.fz h.d),some (s2,.fz (.str (tx cs))),some (.own,hL []),some (.own,hL []),none,none,none]):=by
  have l0:((0:Nat)≤LIM) = True:=by simp
  clear f1 hit hz hl ok st1
  simp only [hL,iL]
  walk_at "eo"
 rw [Ai st1,Ai st2]
 refine (Ai f1).trans ?_
 rfl
noncomputable def frB (h:Hs) (a b:Nat):Bool:=!(h.hands a).any fun x=>decide (x∈h.hands b)
theorem RL {h:Hs} {a b:Nat}:frB h a b = true↔¬ Cm h.hands a b:=by
 simp [frB,Cm]
theorem Gp {h:Hs} (ok:h.Ok) {c:Nat} (hc:c∈h.ls.map (·.1)):h.hands c≠[]:=by
 obtain ⟨p,hp,rfl⟩:=mem_map.mp hc
 rw [Gn ok hp]
 exact (ok.hs p hp).1
theorem Pq {h:Hs} (ok:h.Ok) {c:Nat} (hc:c∈h.ls.map (·.1)):frB h c c = false:=by
 obtain ⟨x,r,e⟩:=exists_cons_of_ne_nil (Gp ok hc)
 simp [frB,e]
theorem WS (a b:Nat):eqD (.str ⟨#[a]⟩) (.str ⟨#[b]⟩) = decide (a = b):=by
 by_cases h:a = b
 ·subst h; simp [CY]
 ·simp [h,eqDs]
theorem eq_nil (ds:List D):eqD (.lst ds) (.lst []) = ds.isEmpty:=by cases ds <;> rfl
theorem Uz {h:Hs} {a b:Nat}:((iL ((h.hands a).filter fun x=>decide (x∈h.hands b))).isEmpty) = frB h a b:=by
 rw [Bool.eq_iff_iff,RL]
 simp only [iL,List.isEmpty_iff,List.map_eq_nil_iff,List.filter_eq_nil_iff,decide_eq_true_eq,Cm,not_exists,not_and]
theorem MW (s1 s2 s3:Own) (h:Hs) (ok:h.Ok) (a b:Nat) (ha:a∈h.ls.map (·.1)) (hb:b∈h.ls.map (·.1)):∃ a1 a2 a3,Bh [(s1,.fz h.d),(s2,.fz (.str ⟨#[a]⟩)),(s3,.fz (.str ⟨#[b]⟩))] = some (.fz (.bl (frB h a b)),[a1,a2,a3]):=by
 have e1:=LL h.ls
 have e2:=Rm ha
 have e3:=Rm hb
 have e4:((h.ls.map fun p=>((Sum.inr (⟨#[p.1]⟩:Str):Key),D.lst (iL p.2))).map (·.1)).Nodup = True:=eq_true (keys_nodup ok)
 have e5:=at1 (D.int h.n) (.lst (h.ls.map ld)) []
 have hl:=h.hands_len ok a
 have hlim:1000≤LIM:=by decide
 generalize (h.ls.map fun p=>((Sum.inr (⟨#[p.1]⟩:Str):Key),D.lst (iL p.2))) = kvs at e1 e2 e3 e4
 have t1:AG (opM eqA (m2L (Ab 1) (Ab 2))) [some (s1,.fz h.d),some (s2,.fz (.str ⟨#[a]⟩)),some (s3,.fz (.str ⟨#[b]⟩)),some (.own,.dic kvs)] = some (decide (a = b),[some (s1,.fz h.d),some (s2,.fz (.str ⟨#[a]⟩)),some (s3,.fz (.str ⟨#[b]⟩)),some (.own,.dic kvs)]):=by
  have g:=WS a b
  refine DY ?_
  simp only [on1,on2,on3,Ce,CD,Bk,BF,fzU,CA,CN,opM,m2L,Aa,Ad,Ab,getElem?_cons_zero,getElem?_cons_succ,bind_some,map_some,peeks,peek,eqA,er,shB,g,if_true]
 have st1:Ar 3 (opM Nm (Aa (opM ixA (m2L (Ab 0) (Ae (.int 1)))) Ad)) [some (s1,.fz h.d),some (s2,.fz (.str ⟨#[a]⟩)),some (s3,.fz (.str ⟨#[b]⟩)),none] = some (.next [some (s1,.fz h.d),some (s2,.fz (.str ⟨#[a]⟩)),some (s3,.fz (.str ⟨#[b]⟩)),some (.own,.dic kvs)]):=by
  clear e2 e3 hl hlim ha hb ok t1
  simp only [Hs.d]
  walk_at "eo"
 by_cases hab:a = b
 ·refine ⟨_,_,_,AU (ρ:=[some (s1,.fz h.d),some (s2,.fz (.str ⟨#[a]⟩)),some (s3,.fz (.str ⟨#[b]⟩)),some (.own,.dic kvs)]) rfl ?_⟩
  show BB [some (s1,.fz h.d),some (s2,.fz (.str ⟨#[a]⟩)),some (s3,.fz (.str ⟨#[b]⟩)),none] = _
  unfold BB
  rw [Ai st1]
  rw [show decide (a = b) = true from decide_eq_true hab] at t1
  have hf:frB h a b = false:=by rw [← hab]; exact Pq ok ha
  rw [hf]
  exact KH ((Lo t1).trans rfl)
 ·have hit:Dy (opM EX (m2L (Ab 3) (Ab 1))) [some (s1,.fz h.d),some (s2,.fz (.str ⟨#[a]⟩)),some (s3,.fz (.str ⟨#[b]⟩)),some (.own,.dic kvs)] = some (iL (h.hands a),none,[some (s1,.fz h.d),some (s2,.fz (.str ⟨#[a]⟩)),some (s3,.fz (.str ⟨#[b]⟩)),some (.own,.dic kvs)]):=by
   clear e1 e4 e5 hl hlim ha hb ok t1 st1 hab
   walk_at "eo"
  have hc:=Gf (g:=fun d=>decide (nD d∈h.hands b)) (f:=fun d=>d) (c:=(AG (opM (inA false) (m2L (Ab 0) (opM EX (m2L (Ab 4) (Ab 3))))))) (e:=Ab 0) hit (by simp; lia) (fun d hd=>by
   obtain ⟨i,_,rfl⟩:=Kl.mp hd
   have i1:=Fy (h.hands b)
   have i2:=GW i (h.hands b)
   have i3:nD (.int i) = i:=rfl
   rw [i3]
   generalize decide (i∈h.hands b) = k at i2 ⊢
   generalize iL (h.hands b) = ds at i1 i2 e3
   clear e1 e4 e5 hl hlim ha hb ok hd e2 t1 st1 hit hab
   walk_at "eo"
   try (cases k <;> rfl)) (fun d hd _=>⟨.val (.fz d),rfl,rfl⟩)
  have em:((iL (h.hands a)).filter fun d=>decide (nD d∈h.hands b)).map (fun d=>d) = iL ((h.hands a).filter fun x=>decide (x∈h.hands b)):=by
   rw [List.map_id',iL,iL,filter_map]
   rfl
  rw [em] at hc
  refine ⟨_,_,_,AU (ρ:=[some (s1,.fz h.d),some (s2,.fz (.str ⟨#[a]⟩)),some (s3,.fz (.str ⟨#[b]⟩)),some (.own,.dic kvs)]) rfl ?_⟩
  show BB [some (s1,.fz h.d),some (s2,.fz (.str ⟨#[a]⟩)),some (s3,.fz (.str ⟨#[b]⟩)),none] = _
  unfold BB
  rw [Ai st1]
  rw [show decide (a = b) = false from decide_eq_false hab] at t1
  rw [Ai ((GV t1).trans rfl)]
  refine BV ?_
  have g1:F4 15 (iL ((h.hands a).filter fun x=>decide (x∈h.hands b))) = true:=Ud 15 _
  have g2:=eq_nil (iL ((h.hands a).filter fun x=>decide (x∈h.hands b)))
  rw [Uz] at g2
  have l0:((0:Nat)≤LIM) = True:=by simp
  generalize (A4 (Dy (opM EX (m2L (Ab 3) (Ab 1)))) 0 (AG (opM (inA false) (m2L (Ab 0) (opM EX (m2L (Ab 4) (Ab 3)))))) (Ab 0)) = Zc at hc ⊢
  simp only [on1,on2,on3,Ce,CD,Bk,BF,fzU,CA,CN,opM,m2L,Aa,Ad,hc,lstM,vals,length_nil,l0,if_true,bind_some,map_some,peeks,peek,eqA,er,ers,D3,shB,g1,g2]
theorem Ww (x y:List Nat):tx x ++ tx y = tx (x ++ y):=by
 show (⟨x.toArray ++ y.toArray⟩:Str) = _
 simp [tx]
theorem E2 {m1 m2:ME} {ρ ρ1 ρ2:Ro} {x y:List Nat} (h1:m1 ρ = some (.val (.fz (.str (tx x))),ρ1)) (h2:m2 ρ1 = some (.val (.fz (.str (tx y))),ρ2)) (hl:x.length + y.length≤1000):opM Az (m2L m1 m2) ρ = some (.val (.fz (.str (tx (x ++ y)))),ρ2):=by
 have hlim:1000≤LIM:=by decide
 have l1:((tx x).length + (tx y).length≤LIM) = True:=by rw [Ba,Ba]; simp only [eq_iff_iff,iff_true]; lia
 have e:=Ww x y
 clear hl hlim
 simp only [opM,m2L,Aa,Ad,h1,h2,bind_some,map_some,peeks,peek]
 walk_at "eo"
theorem N3 {cs:List Nat} {k:Nat} (hk:k≤cs.length):Txt.slice (tx cs) none (some (k:Int)) = tx (cs.take k):=by
 have:=eq_of_beq (PyProof.Rows.slice_closes_toL (x:=tx cs) (j:=(k:Int)) (by lia) (by rw [Ba]; lia))
 rw [this]
 simp [tx]
theorem Xv {cs:List Nat} {k:Nat} (hk:k + 2≤cs.length):Txt.slice (tx cs) (some (k:Int)) (some ((k:Int) + 2)) = tx ((cs.drop k).take 2):=by
 have:=eq_of_beq (PyProof.Rows.slice_closesL (x:=tx cs) (i:=(k:Int)) (j:=(k:Int) + 2) (by lia) (by lia) (by rw [Ba]; lia))
 rw [this]
 have e:((k:Int) + 2 - (k:Int)).toNat = 2:=by lia
 rw [e]
 simp [tx]
theorem Xw {cs:List Nat} {k:Nat} (hk:k + 2≤cs.length):Txt.slice (tx cs) (some ((k:Int) + 2)) none = tx (cs.drop (k + 2)):=by
 have:=eq_of_beq (PyProof.Rows.slice_closes_fromL (x:=tx cs) (i:=(k:Int) + 2) (b:=(cs.length:Int)) (by lia) (by rw [Ba]; lia) (by rw [Ba]))
 rw [this]
 have e:((cs.length:Int) - ((k:Int) + 2)).toNat = cs.length - (k + 2):=by lia
 have e2:((k:Int) + 2).toNat = k + 2:=by lia
 rw [e,e2,Bo,List.take_of_length_le (by rw [length_drop]; exact le_refl _)]
 rfl
theorem V0 (x:List Nat):Jm (tx x) = tx x.reverse:=rfl
theorem Pf (z:Str):∀ (ns:List Int) (b:Int),Hm z b ns∈b :: ns∧∀ n∈b :: ns,cAt z (Hm z b ns)≤cAt z n:=by
 intro ns
 induction ns with
 | nil=>intro b; simp [Hm]
 | cons m ns ih =>
  intro b
  simp only [Hm]
  split
  ·rename_i hlt
   obtain ⟨h1,h2⟩:=ih m
   refine ⟨mem_cons_of_mem _ h1,fun n hn=>?_⟩
   rcases mem_cons.mp hn with rfl | hn
   ·have:=h2 m mem_cons_self; lia
   ·exact h2 n hn
  ·rename_i hlt
   obtain ⟨h1,h2⟩:=ih b
   refine ⟨?_,fun n hn=>?_⟩
   ·rcases mem_cons.mp h1 with e | h1
    ·rw [e]; exact mem_cons_self
    ·exact mem_cons_of_mem _ (mem_cons_of_mem _ h1)
   ·rcases mem_cons.mp hn with rfl | hn
    ·exact h2 _ mem_cons_self
    ·rcases mem_cons.mp hn with rfl | hn
     ·have:=h2 b mem_cons_self; lia
     ·exact h2 n (mem_cons_of_mem _ hn)
theorem Qu {f:Nat→List Int} {cs:List Nat} {k:Nat} (hk:k∈pl f [] 0 cs):k < cs.length:=by
 have:=(IG (f:=f) cs [] 0).1
 have hk2:k∈(List.range' 0 cs.length).filter fun i=>decide (i∈pl f [] 0 cs):=by rw [this]; exact hk
 have:=(mem_filter.mp hk2).1
 rw [List.mem_range'] at this
 obtain ⟨j,hj,e⟩:=this
 lia
theorem Pb {cs:List Nat} {k:Nat} (hk:k < cs.length):cAt (tx cs) (k:Int) = cs.getD k 0:=by
 have:=GI (z:=tx cs) (i:=k) (j:=(k:Int)) rfl (by rw [Bo]; exact hk)
 rw [Bo] at this
 rw [cAt,Bo,this]
 rfl
theorem NZ (s1 s2:Own) (h:Hs) (ok:h.Ok) (cs:List Nat) (hz:∀ c∈cs,c∈h.ls.map (·.1)) (hl:cs.length≤40) (h0:cs≠[]):∃ (k:Nat) (a1 a2:A),k = fpl h.hands cs∧k < cs.length∧cs.getD k 0 = lst (fs h.hands [] cs)∧cs.take k ++ cs.drop (k + 1) = cs.erase (lst (fs h.hands [] cs))∧Au [(s1,.fz h.d),(s2,.fz (.str (tx cs)))] = some (.fz (.int (k:Int)),[a1,a2]):=by
 obtain ⟨a1,a2,e1⟩:=NX .own .own h ok cs hz hl
 have hw:∀ d∈cs,h.hands d≠[]:=fun d hd=>Gp ok (hz d hd)
 have pne:plI h cs≠[]:=by
  obtain ⟨c,w,rfl⟩:=exists_cons_of_ne_nil h0
  have:St.hit h.hands [] c = false:=by simp [St.hit]
  simp [plI,pl,this]
 obtain ⟨b,ns,eps⟩:=exists_cons_of_ne_nil pne
 obtain ⟨m1,m2⟩:=Pf (tx cs) ns b
 rw [← eps] at m1 m2
 have mem:∀ i:Int,i∈plI h cs→∃ k:Nat,i = k∧k∈pl h.hands [] 0 cs:=fun i hi=>by
  obtain ⟨k,hk,e⟩:=mem_map.mp hi
  exact ⟨k,e.symm,hk⟩
 obtain ⟨k,ek,hk⟩:=mem _ m1
 have hkl:=Qu hk
 have efs:=(IG (f:=h.hands) cs [] 0).2.1
 simp only [Nat.sub_zero] at efs
 have hlst:lst (fs h.hands [] cs) = cs.getD k 0:=by
  refine P5 (by rw [← efs]; exact mem_map.mpr ⟨k,hk,rfl⟩) fun y hy=>?_
  rw [← efs] at hy
  obtain ⟨i,hi,rfl⟩:=mem_map.mp hy
  have:=m2 (i:Int) (mem_map.mpr ⟨i,hi,rfl⟩)
  rw [ek,Pb hkl,Pb (Qu hi)] at this
  exact this
 have hpk:k = fpl h.hands cs:=by
  obtain ⟨u,v,c,e,h1,_,h3,_⟩:=LQ (f:=h.hands) cs [] 0 k hk
  have hu:u.length = k:=by lia
  have ec:cs.getD k 0 = c:=by rw [e,← hu]; simp [getD_eq_getElem?_getD]
  have hc:c ∉ u:=fun z=>by
   obtain ⟨x,r,hx⟩:=exists_cons_of_ne_nil (hw c (by rw [e]; simp))
   exact h3 c z ⟨x,by rw [hx]; simp,by rw [hx]; simp⟩
  unfold fpl
  rw [hlst,ec,e,HA hc]
  exact hu.symm
 refine ⟨k,_,_,hpk,hkl,hlst.symm,by rw [hlst]; exact (Qt hw hk).2,AU (ρ:=[some (s1,.fz h.d),some (s2,.fz (.str (tx cs)))]) rfl ?_⟩
 show CH [some (s1,.fz h.d),some (s2,.fz (.str (tx cs)))] = _
 unfold CH
 refine BV ?_
 have hc:Af AI (Aa (Ab 0) (Aa (Ab 1) Ad)) [some (s1,.fz h.d),some (s2,.fz (.str (tx cs)))] = some (.val (hL (plI h cs)),[some (s1,.fz h.d),some (s2,.fz (.str (tx cs)))]):=by
  clear hz hl ok hw pne eps m1 m2 mem ek hk hkl efs hlst
  generalize AI = Φ at e1 ⊢
  generalize hL (plI h cs) = A0 at e1 ⊢
  walk_at "eo"
 have hall:((plI h cs).all fun n=>decide (0≤n) && decide (n < ((tx cs).length:Int))) = true:=by
  rw [all_eq_true]
  intro n hn
  obtain ⟨i,rfl,hi⟩:=mem n hn
  have:=Qu hi
  rw [Ba]
  simp
  exact this
 have hem:(plI h cs).isEmpty = false:=by rw [eps]; rfl
 have hcm:Hm (tx cs) ((plI h cs).headD 0) (plI h cs).tail = k:=by rw [eps]; exact ek
 generalize Af AI (Aa (Ab 0) (Aa (Ab 1) Ad)) = Zc at hc ⊢
 simp only [on1,on2,on3,Ce,CD,Bk,BF,fzU,CA,CN,opM,m2L,Aa,Ad,hc,Ab,getElem?_cons_zero,getElem?_cons_succ,bind_some,map_some,peeks,peek,NG,BF,fzU,CN,UG,Ie,hall,hem,Bool.not_false,Bool.and_self,if_true,hcm]
theorem V8 {cs:List Nat} {k:Nat} (hk:k + 1≤cs.length):Txt.slice (tx cs) (some ((k:Int) + 1)) none = tx (cs.drop (k + 1)):=by
 have:=eq_of_beq (PyProof.Rows.slice_closes_fromL (x:=tx cs) (i:=(k:Int) + 1) (b:=(cs.length:Int)) (by lia) (by rw [Ba]; lia) (by rw [Ba]))
 rw [this]
 have e:((cs.length:Int) - ((k:Int) + 1)).toNat = cs.length - (k + 1):=by lia
 have e2:((k:Int) + 1).toNat = k + 1:=by lia
 rw [e,e2,Bo,List.take_of_length_le (by rw [length_drop]; exact le_refl _)]
 rfl
theorem W6 {o:List Nat} {i:Nat} {j:Int} (hj:j = i) (hi:i < o.length):atI (tx o).cps.toList j = some (o.getD i 0):=by
 have:=GI (z:=tx o) (i:=i) (j:=j) hj (by rw [Bo]; exact hi)
 rw [Bo] at this ⊢
 exact this
theorem KL {cs:List Nat} {k:Nat} {i:Int} (hi:i = k) (hk:k≤cs.length):Txt.slice (tx cs) (some i) none = tx (cs.drop k):=by
 subst hi
 have:=eq_of_beq (PyProof.Rows.slice_closes_fromL (x:=tx cs) (i:=(k:Int)) (b:=(cs.length:Int)) (by lia) (by rw [Ba]; lia) (by rw [Ba]))
 rw [this]
 have e:((cs.length:Int) - (k:Int)).toNat = cs.length - k:=by lia
 rw [e,Int.toNat_natCast,Bo,List.take_of_length_le (by rw [length_drop]; exact le_refl _)]
 rfl
theorem QW {cs:List Nat} {a b:Nat} {i j:Int} (hi:i = a) (hj:j = b) (hk:a≤b) (hb:b≤cs.length):Txt.slice (tx cs) (some i) (some j) = tx ((cs.drop a).take (b - a)):=by
 subst hi hj
 have:=eq_of_beq (PyProof.Rows.slice_closesL (x:=tx cs) (i:=(a:Int)) (j:=(b:Int)) (by lia) (by lia) (by rw [Ba]; lia))
 rw [this]
 have e:((b:Int) - (a:Int)).toNat = b - a:=by lia
 rw [e]
 simp [tx]
theorem RG (d k:Nat):down (((d + k:Nat):Int) - 1) k = iL ((dn d k).map fun (i:Nat)=>(i:Int)):=by
 simp only [down,iL,dn,map_map]
 refine List.map_congr_left fun i hi=>?_
 have:i < k:=mem_range.mp hi
 simp only [Function.comp_apply]
 congr 1
 lia
theorem Ta {s1:Own} {h:Hs} (ok:h.Ok) {made w:List Nat} (hz:∀ c∈w,c∈h.ls.map (·.1)) (hl:made.length + w.length≤40) (h0:w≠[]) {acc:List Int} (ha:acc.length≤2000) {x4:Slot} (h4:(pN x4)) :
  ∃ y4,(pN y4)∧(Ap (Ar 4 (opM Az (m2L (Ab 3) (Af Au (Aa (Ab 0) (Aa (opM Dn (m2L (Ab 1) (Ab 3))) Ad)))))) (Ap (GS 2 (opM FI (Aa (opM BN (m2L (Ab 4) (Ae (.int 1)))) (Aa (opM BN (m2L (Ab 3) (Ae (.int 1)))) (Aa (opM ER (m1L (Ae (.int 1)))) Ad))))) (Ar 1 (opM Az (m2L (opM Az (m2L (opM Az (m2L (opM DE (m2L (Ab 1) (Ab 3))) (opM ixA (m2L (Ab 1) (Ab 4))))) (opM Ct (Aa (Ab 1) (Aa (Ab 3) (Aa (Ab 4) Ad)))))) (opM Dn (m2L (Ab 1) (opM Az (m2L (Ab 4) (Ae (.int 1))))))))))) [some (s1,.fz h.d),some (.own,.fz (.str (tx (made ++ w)))),some (.own,hL (acc)),some (.own,.fz (.int (made.length:Int))),x4] = some (.next [some (s1,.fz h.d),some (.own,.fz (.str (tx (made ++ lst (fs h.hands [] w) :: w.erase (lst (fs h.hands [] w)))))),some (.own,hL (acc ++ (dn made.length (fpl h.hands w)).map fun (i:Nat)=>(i:Int))),some (.own,.fz (.int (made.length:Int))),y4]):=by
 obtain ⟨k,b1,b2,hp,hk,g1,g2,e1⟩:=NZ .own .own h ok w hz (by lia) h0
 rw [← hp,← g2]
 refine ⟨some (.own,.fz (.int ((made.length + k:Nat):Int))),.inr ⟨_,rfl⟩,?_⟩
 have ml:(made ++ w).length = made.length + w.length:=length_append
 have sf:=KL (cs:=made ++ w) (k:=made.length) rfl (by lia)
 rw [List.drop_left] at sf
 have ep:(made.length:Int) + (k:Int) = ((made.length + k:Nat):Int):=by lia
 have st1:Ar 4 (opM Az (m2L (Ab 3) (Af Au (Aa (Ab 0) (Aa (opM Dn (m2L (Ab 1) (Ab 3))) Ad))))) [some (s1,.fz h.d),some (.own,.fz (.str (tx (made ++ w)))),some (.own,hL (acc)),some (.own,.fz (.int (made.length:Int))),x4] = some (.next [some (s1,.fz h.d),some (.own,.fz (.str (tx (made ++ w)))),some (.own,hL (acc)),some (.own,.fz (.int (made.length:Int))),some (.own,.fz (.int ((made.length + k:Nat):Int)))]):=by
  have vs:(opM Dn (m2L (Ab 1) (Ab 3))) [some (s1,.fz h.d),some (.own,.fz (.str (tx (made ++ w)))),some (.own,hL (acc)),some (.own,.fz (.int (made.length:Int))),x4] = some (.val (.fz (.str (tx w))),[some (s1,.fz h.d),some (.own,.fz (.str (tx (made ++ w)))),some (.own,hL (acc)),some (.own,.fz (.int (made.length:Int))),x4]):=by
   rw [← sf]
   rfl
  have vc:(Af Au (Aa (Ab 0) (Aa (opM Dn (m2L (Ab 1) (Ab 3))) Ad))) [some (s1,.fz h.d),some (.own,.fz (.str (tx (made ++ w)))),some (.own,hL (acc)),some (.own,.fz (.int (made.length:Int))),x4] = some (.val (.fz (.int (k:Int))),[some (s1,.fz h.d),some (.own,.fz (.str (tx (made ++ w)))),some (.own,hL (acc)),some (.own,.fz (.int (made.length:Int))),x4]):=call_of (cons_of (r:=.val (.fz h.d)) rfl (cons_of vs (nil_of _))) rfl rfl e1 rfl
  have va:(opM Az (m2L (Ab 3) (Af Au (Aa (Ab 0) (Aa (opM Dn (m2L (Ab 1) (Ab 3))) Ad))))) [some (s1,.fz h.d),some (.own,.fz (.str (tx (made ++ w)))),some (.own,hL (acc)),some (.own,.fz (.int (made.length:Int))),x4] = some (.val (.fz (.int ((made.length + k:Nat):Int))),[some (s1,.fz h.d),some (.own,.fz (.str (tx (made ++ w)))),some (.own,hL (acc)),some (.own,.fz (.int (made.length:Int))),x4]):=BP (Dl (r1:=.val (.fz (.int (made.length:Int)))) rfl vc) rfl rfl
  rcases h4 with rfl | ⟨d,rfl⟩ <;> exact Be va rfl
 have vr:(opM FI (Aa (opM BN (m2L (Ab 4) (Ae (.int 1)))) (Aa (opM BN (m2L (Ab 3) (Ae (.int 1)))) (Aa (opM ER (m1L (Ae (.int 1)))) Ad)))) [some (s1,.fz h.d),some (.own,.fz (.str (tx (made ++ w)))),some (.own,hL (acc)),some (.own,.fz (.int (made.length:Int))),some (.own,.fz (.int ((made.length + k:Nat):Int)))] = some (.val (hL ((dn made.length k).map fun (i:Nat)=>(i:Int))),[some (s1,.fz h.d),some (.own,.fz (.str (tx (made ++ w)))),some (.own,hL (acc)),some (.own,.fz (.int (made.length:Int))),some (.own,.fz (.int ((made.length + k:Nat):Int)))]):=by
  have d1:=RG made.length k
  have qq:k≤1000∧made.length≤1000:=by lia
  have q2:((((made.length + k:Nat):Int) - 1) - ((made.length:Int) - 1)).toNat = k:=by lia
  clear hz hl ok ha g1 g2 hp hk ml h0 st1 e1 sf h4
  have n1:opM ER (m1L (Ae (.int 1))) [some (s1,.fz h.d),some (.own,.fz (.str (tx (made ++ w)))),some (.own,hL (acc)),some (.own,.fz (.int (made.length:Int))),some (.own,.fz (.int ((made.length + k:Nat):Int)))] = some (.val (.fz (.int (-1))),[some (s1,.fz h.d),some (.own,.fz (.str (tx (made ++ w)))),some (.own,hL (acc)),some (.own,.fz (.int (made.length:Int))),some (.own,.fz (.int ((made.length + k:Nat):Int)))]):=rfl
  have n2:opM BN (m2L (Ab 4) (Ae (.int 1))) [some (s1,.fz h.d),some (.own,.fz (.str (tx (made ++ w)))),some (.own,hL (acc)),some (.own,.fz (.int (made.length:Int))),some (.own,.fz (.int ((made.length + k:Nat):Int)))] = some (.val (.fz (.int (((made.length + k:Nat):Int) - 1))),[some (s1,.fz h.d),some (.own,.fz (.str (tx (made ++ w)))),some (.own,hL (acc)),some (.own,.fz (.int (made.length:Int))),some (.own,.fz (.int ((made.length + k:Nat):Int)))]):=rfl
  have n3:opM BN (m2L (Ab 3) (Ae (.int 1))) [some (s1,.fz h.d),some (.own,.fz (.str (tx (made ++ w)))),some (.own,hL (acc)),some (.own,.fz (.int (made.length:Int))),some (.own,.fz (.int ((made.length + k:Nat):Int)))] = some (.val (.fz (.int ((made.length:Int) - 1))),[some (s1,.fz h.d),some (.own,.fz (.str (tx (made ++ w)))),some (.own,hL (acc)),some (.own,.fz (.int (made.length:Int))),some (.own,.fz (.int ((made.length + k:Nat):Int)))]):=rfl
  rw [opM]
  simp only [on1,on2,on3,Ce,CD,Bk,BF,fzU,CA,CN,Aa,Ad,n1,n2,n3,bind_some,map_some,peeks,peek,FI]
  rw [q2,d1,if_pos ⟨trivial,by lia,by lia⟩]
  rfl
 have st2:GS 2 (opM FI (Aa (opM BN (m2L (Ab 4) (Ae (.int 1)))) (Aa (opM BN (m2L (Ab 3) (Ae (.int 1)))) (Aa (opM ER (m1L (Ae (.int 1)))) Ad)))) [some (s1,.fz h.d),some (.own,.fz (.str (tx (made ++ w)))),some (.own,hL (acc)),some (.own,.fz (.int (made.length:Int))),some (.own,.fz (.int ((made.length + k:Nat):Int)))] = some (.next [some (s1,.fz h.d),some (.own,.fz (.str (tx (made ++ w)))),some (.own,hL (acc ++ (dn made.length k).map fun (i:Nat)=>(i:Int))),some (.own,.fz (.int (made.length:Int))),some (.own,.fz (.int ((made.length + k:Nat):Int)))]):=by
  have a2:(acc.length + ((dn made.length k).map fun (i:Nat)=>(i:Int)).length≤LIM) = True:=by
   have hlim:10000≤LIM:=by decide
   simp only [dn,length_map,length_range,eq_iff_iff,iff_true]; lia
  generalize ((dn made.length k).map fun (i:Nat)=>(i:Int)) = bs at vr a2 ⊢
  generalize (opM FI (Aa (opM BN (m2L (Ab 4) (Ae (.int 1)))) (Aa (opM BN (m2L (Ab 3) (Ae (.int 1)))) (Aa (opM ER (m1L (Ae (.int 1)))) Ad)))) = Zc at vr ⊢
  have a4:(iL acc).map A.fz ++ (iL bs).map A.fz = (iL (acc ++ bs)).map A.fz:=by simp [iL]
  clear hz hl ok ha g1 g2 hp hk ml h0 st1 e1 sf h4 ep
  simp only [hL] at vr ⊢
  walk_at "eo"
 have tl:(made ++ w).take made.length = made:=List.take_left
 have s1':=N3 (cs:=made ++ w) (k:=made.length) (by lia)
 rw [tl] at s1'
 have s2':=QW (cs:=made ++ w) (a:=made.length) (b:=made.length + k) (i:=(made.length:Int)) (j:=((made.length + k:Nat):Int)) rfl rfl (by lia) (by lia)
 rw [List.drop_left,show made.length + k - made.length = k by lia] at s2'
 have s3':=KL (cs:=made ++ w) (k:=made.length + k + 1) (i:=((made.length + k:Nat):Int) + 1) (by lia) (by lia)
 rw [show made.length + k + 1 = made.length + (k + 1) by lia,List.drop_append] at s3'
 rw [show (made.drop (made.length + (k + 1))) = [] by simp,nil_append,show made.length + (k + 1) - made.length = k + 1 by lia] at s3'
 have i1:=GI (z:=tx (made ++ w)) (i:=made.length + k) (j:=((made.length + k:Nat):Int)) rfl (by rw [Bo]; lia)
 have eg:(made ++ w).getD (made.length + k) 0 = lst (fs h.hands [] w):=by
  rw [← g1,getD_eq_getElem?_getD,getD_eq_getElem?_getD,getElem?_append_right (by lia),show made.length + k - made.length = k by lia]
 rw [Bo,eg] at i1
 have e0':(tx (made ++ w)).cps.toList = made ++ w:=rfl
 have v1:(opM DE (m2L (Ab 1) (Ab 3))) [some (s1,.fz h.d),some (.own,.fz (.str (tx (made ++ w)))),some (.own,hL (acc ++ (dn made.length k).map fun (i:Nat)=>(i:Int))),some (.own,.fz (.int (made.length:Int))),some (.own,.fz (.int ((made.length + k:Nat):Int)))] = some (.val (.fz (.str (tx made))),[some (s1,.fz h.d),some (.own,.fz (.str (tx (made ++ w)))),some (.own,hL (acc ++ (dn made.length k).map fun (i:Nat)=>(i:Int))),some (.own,.fz (.int (made.length:Int))),some (.own,.fz (.int ((made.length + k:Nat):Int)))]):=by
  rw [← s1']
  rfl
 have v2:(opM ixA (m2L (Ab 1) (Ab 4))) [some (s1,.fz h.d),some (.own,.fz (.str (tx (made ++ w)))),some (.own,hL (acc ++ (dn made.length k).map fun (i:Nat)=>(i:Int))),some (.own,.fz (.int (made.length:Int))),some (.own,.fz (.int ((made.length + k:Nat):Int)))] = some (.val (.fz (.str (tx [lst (fs h.hands [] w)]))),[some (s1,.fz h.d),some (.own,.fz (.str (tx (made ++ w)))),some (.own,hL (acc ++ (dn made.length k).map fun (i:Nat)=>(i:Int))),some (.own,.fz (.int (made.length:Int))),some (.own,.fz (.int ((made.length + k:Nat):Int)))]):=BP rfl rfl (ixS (z:=tx (made ++ w)) i1)
 have v3:(opM Ct (Aa (Ab 1) (Aa (Ab 3) (Aa (Ab 4) Ad)))) [some (s1,.fz h.d),some (.own,.fz (.str (tx (made ++ w)))),some (.own,hL (acc ++ (dn made.length k).map fun (i:Nat)=>(i:Int))),some (.own,.fz (.int (made.length:Int))),some (.own,.fz (.int ((made.length + k:Nat):Int)))] = some (.val (.fz (.str (tx (w.take k)))),[some (s1,.fz h.d),some (.own,.fz (.str (tx (made ++ w)))),some (.own,hL (acc ++ (dn made.length k).map fun (i:Nat)=>(i:Int))),some (.own,.fz (.int (made.length:Int))),some (.own,.fz (.int ((made.length + k:Nat):Int)))]):=by
  rw [← s2']
  rfl
 have v4:(opM Dn (m2L (Ab 1) (opM Az (m2L (Ab 4) (Ae (.int 1)))))) [some (s1,.fz h.d),some (.own,.fz (.str (tx (made ++ w)))),some (.own,hL (acc ++ (dn made.length k).map fun (i:Nat)=>(i:Int))),some (.own,.fz (.int (made.length:Int))),some (.own,.fz (.int ((made.length + k:Nat):Int)))] = some (.val (.fz (.str (tx (w.drop (k + 1))))),[some (s1,.fz h.d),some (.own,.fz (.str (tx (made ++ w)))),some (.own,hL (acc ++ (dn made.length k).map fun (i:Nat)=>(i:Int))),some (.own,.fz (.int (made.length:Int))),some (.own,.fz (.int ((made.length + k:Nat):Int)))]):=by
  rw [← s3']
  rfl
 have l1:(w.take k).length≤40:=by rw [length_take]; lia
 have l2:(w.drop (k + 1)).length≤40:=by rw [length_drop]; lia
 have v12:=E2 v1 v2 (by simp; lia)
 have v123:=E2 v12 v3 (by simp; lia)
 have v1234:=E2 v123 v4 (by simp at l1 ⊢; lia)
 have st3:=Be (i:=1) v1234 rfl
 have er:made ++ [lst (fs h.hands [] w)] ++ w.take k ++ w.drop (k + 1) = made ++ lst (fs h.hands [] w) :: (w.take k ++ w.drop (k + 1)):=by simp
 rw [er] at st3
 rw [Ai st1,Ai st2]
 exact st3
theorem Uy {f:Nat→List Int} (w:List Nat):fpl f w≤w.length:=List.idxOf_le_length
theorem LZ (s1:Own) (h:Hs) (ok:h.Ok) (cs:List Nat) (hz:∀ c∈cs,c∈h.ls.map (·.1)) (hl:cs.length≤40):∃ a1 a2,BR [(s1,.fz h.d),(.own,.fz (.str (tx cs)))] = some (hL ((exs h.hands 40 0 cs).map fun (i:Nat)=>(i:Int)),[a1,a2]):=by
 have t0:=CL .own .own h ok (tx cs) (IX (by lia) hz)
 have st0:EJ (Af AE (Aa (Ab 0) (Aa (Ab 1) Ad))) [some (s1,.fz h.d),some (.own,.fz (.str (tx cs))),none,none,none] = some (.next [some (s1,.fz h.d),some (.own,.fz (.str (tx cs))),none,none,none]):=GR (call_of rfl rfl rfl t0 rfl)
 have st1:Ar 2 (lstM Ad) [some (s1,.fz h.d),some (.own,.fz (.str (tx cs))),none,none,none] = some (.next [some (s1,.fz h.d),some (.own,.fz (.str (tx (cs)))),some (.own,hL ([])),none,none]):=rfl
 have ln:opM Bs (Aa (Ab 1) Ad) [some (s1,.fz h.d),some (.own,.fz (.str (tx (cs)))),some (.own,hL ([])),none,none] = some (.val (.fz (.int (cs.length:Int))),[some (s1,.fz h.d),some (.own,.fz (.str (tx (cs)))),some (.own,hL ([])),none,none]):=by
  rw [← Ba cs]
  rfl
 have rg:=SU ln (by lia) (by lia)
 rw [Int.toNat_natCast] at rg
 obtain ⟨ρ',f1,f2⟩:=En (is:=[3]) (one:=true) (b:=(Ap (Ar 4 (opM Az (m2L (Ab 3) (Af Au (Aa (Ab 0) (Aa (opM Dn (m2L (Ab 1) (Ab 3))) Ad)))))) (Ap (GS 2 (opM FI (Aa (opM BN (m2L (Ab 4) (Ae (.int 1)))) (Aa (opM BN (m2L (Ab 3) (Ae (.int 1)))) (Aa (opM ER (m1L (Ae (.int 1)))) Ad))))) (Ar 1 (opM Az (m2L (opM Az (m2L (opM Az (m2L (opM DE (m2L (Ab 1) (Ab 3))) (opM ixA (m2L (Ab 1) (Ab 4))))) (opM Ct (Aa (Ab 1) (Aa (Ab 3) (Aa (Ab 4) Ad)))))) (opM Dn (m2L (Ab 1) (opM Az (m2L (Ab 4) (Ae (.int 1))))))))))))
  (fun t ρ=>∃ (made w acc:List Nat) (x3 x4:Slot),made.length = t∧t + w.length = cs.length∧(∀ c∈w,c∈h.ls.map (·.1))∧acc ++ exs h.hands (40 - t) t w = exs h.hands 40 0 cs∧acc.length≤40 * t∧(pN x3)∧(pN x4) ∧ ρ = [some (s1,.fz h.d),some (.own,.fz (.str (tx (made ++ w)))),some (.own,hL (acc.map fun (i:Nat)=>(i:Int))),x3,x4]) rg ⟨[],cs,[],none,none,rfl,by simp,hz,rfl,by simp,.inl rfl,.inl rfl,rfl⟩ (fun t d ρ hd hI=>by
   obtain ⟨made,w,acc,x3,x4,h1,h2,hw,ea,hl2,h3,h4,rfl⟩:=hI
   obtain ⟨rfl,ht⟩:=GK hd
   subst h1
   have h0:w≠[]:=by
    intro e; rw [e] at h2; simp at h2; lia
   obtain ⟨y4,k4,q⟩:=Ta (s1:=s1) ok hw (by lia) h0 (acc:=acc.map fun (i:Nat)=>(i:Int)) (made:=made) (by rw [length_map]; lia) h4
   have hm:=Ia w [] _ (D5 (Kc (f:=h.hands) h0)).1
   have le:=List.length_erase_of_mem hm
   have wl:0 < w.length:=length_pos_iff.mpr h0
   refine ⟨_,_,?_,.inl q,made ++ [lst (fs h.hands [] w)],w.erase (lst (fs h.hands [] w)),acc ++ dn made.length (fpl h.hands w),some (.own,.fz (.int (made.length:Int))),y4,by simp,by lia,fun c hc=>hw c (List.mem_of_mem_erase hc),?_,?_,.inr ⟨_,rfl⟩,k4,?_⟩
   ·rcases h3 with rfl | ⟨d,rfl⟩ <;> rfl
   ·rw [← ea,append_assoc]
    refine congrArg (acc ++ ·) ?_
    have e1:40 - made.length = (40 - (made.length + 1)) + 1:=by lia
    have e2:=Gk (f:=h.hands) (40 - (made.length + 1)) made.length h0
    rw [← e1] at e2
    exact e2.symm
   ·have:=Uy (f:=h.hands) w
    simp only [length_append,dn,length_map,length_range]; lia
   ·simp)
 obtain ⟨made,w,acc,x3,x4,h1,h2,_,ea,_,_,_,rfl⟩:=f2
 have hw:w = []:=length_eq_zero_iff.mp (by rw [DZ] at h2; lia)
 subst hw
 rw [Hz,append_nil] at ea
 subst ea
 refine ⟨_,_,AU (ρ:=[some (s1,.fz h.d),some (.own,.fz (.str (tx (made ++ [])))),none,x3,x4]) rfl ?_⟩
 show Ec [some (s1,.fz h.d),some (.own,.fz (.str (tx cs))),none,none,none] = _
 unfold Ec
 rw [Ai st0,Ai st1]
 refine (Ai f1).trans ?_
 rfl
theorem S9 {s1:Own} {h:Hs} (ok:h.Ok) {cs:List Nat} (hz:∀ c∈cs,c∈h.ls.map (·.1)) (hl:cs.length≤40) (h0:cs≠[]) {acc:List Nat} (ha:acc.length≤100) {x3:Slot} (h3:(pN x3)) :
  ∃ k:Nat,(Ap (Ar 3 (Af Au (Aa (Ab 0) (Aa (Ab 1) Ad)))) (Ap (DB 2 (opM ixA (m2L (Ab 1) (Ab 3)))) (Ar 1 (opM Az (m2L (opM DE (m2L (Ab 1) (Ab 3))) (opM Dn (m2L (Ab 1) (opM Az (m2L (Ab 3) (Ae (.int 1))))))))))) [some (s1,.fz h.d),some (.own,.fz (.str (tx (cs)))),some (.own,.lst (((acc).map chD).map A.fz)),x3] = some (.next [some (s1,.fz h.d),some (.own,.fz (.str (tx (cs.erase (lst (fs h.hands [] cs)))))),some (.own,.lst (((acc ++ [lst (fs h.hands [] cs)]).map chD).map A.fz)),some (.own,.fz (.int (k:Int)))]):=by
 obtain ⟨k,a1,a2,hk0,hk,e2,e3,e1⟩:=NZ .own .own h ok cs hz hl h0
 clear hk0
 refine ⟨k,?_⟩
 have st1:Ar 3 (Af Au (Aa (Ab 0) (Aa (Ab 1) Ad))) [some (s1,.fz h.d),some (.own,.fz (.str (tx (cs)))),some (.own,.lst (((acc).map chD).map A.fz)),x3] = some (.next [some (s1,.fz h.d),some (.own,.fz (.str (tx (cs)))),some (.own,.lst (((acc).map chD).map A.fz)),some (.own,.fz (.int (k:Int)))]):=by
  have vc:(Af Au (Aa (Ab 0) (Aa (Ab 1) Ad))) [some (s1,.fz h.d),some (.own,.fz (.str (tx (cs)))),some (.own,.lst (((acc).map chD).map A.fz)),x3] = some (.val (.fz (.int (k:Int))),[some (s1,.fz h.d),some (.own,.fz (.str (tx (cs)))),some (.own,.lst (((acc).map chD).map A.fz)),x3]):=call_of rfl rfl rfl e1 rfl
  rcases h3 with rfl | ⟨d,rfl⟩ <;> exact Be vc rfl
 have i1:=GI (z:=tx cs) (i:=k) (j:=(k:Int)) rfl (by rw [Bo]; exact hk)
 rw [Bo,e2] at i1
 have e0:(tx cs).cps.toList = cs:=rfl
 have v0:(opM ixA (m2L (Ab 1) (Ab 3))) [some (s1,.fz h.d),some (.own,.fz (.str (tx (cs)))),some (.own,.lst (((acc).map chD).map A.fz)),some (.own,.fz (.int (k:Int)))] = some (.val (.fz (chD (lst (fs h.hands [] cs)))),[some (s1,.fz h.d),some (.own,.fz (.str (tx (cs)))),some (.own,.lst (((acc).map chD).map A.fz)),some (.own,.fz (.int (k:Int)))]):=BP rfl rfl (ixS (z:=tx cs) i1)
 have st2:=J1 (i:=2) (st:=.own) (as:=(acc.map chD).map A.fz) (ρ:=[some (s1,.fz h.d),some (.own,.fz (.str (tx (cs)))),some (.own,.lst (((acc).map chD).map A.fz)),some (.own,.fz (.int (k:Int)))]) rfl v0 (by
  have hlim:1000≤LIM:=by decide
  simp only [length_map]; lia)
 have ea:(acc.map chD).map A.fz ++ [A.fz (chD (lst (fs h.hands [] cs)))] = ((acc ++ [lst (fs h.hands [] cs)]).map chD).map A.fz:=by simp
 rw [ea] at st2
 have s1':=N3 (cs:=cs) (k:=k) (by lia)
 have s2':=V8 (cs:=cs) (k:=k) (by lia)
 have v1:(opM DE (m2L (Ab 1) (Ab 3))) [some (s1,.fz h.d),some (.own,.fz (.str (tx (cs)))),some (.own,.lst (((acc ++ [lst (fs h.hands [] cs)]).map chD).map A.fz)),some (.own,.fz (.int (k:Int)))] = some (.val (.fz (.str (tx (cs.take k)))),[some (s1,.fz h.d),some (.own,.fz (.str (tx (cs)))),some (.own,.lst (((acc ++ [lst (fs h.hands [] cs)]).map chD).map A.fz)),some (.own,.fz (.int (k:Int)))]):=by
  rw [← s1']
  rfl
 have v2:(opM Dn (m2L (Ab 1) (opM Az (m2L (Ab 3) (Ae (.int 1)))))) [some (s1,.fz h.d),some (.own,.fz (.str (tx (cs)))),some (.own,.lst (((acc ++ [lst (fs h.hands [] cs)]).map chD).map A.fz)),some (.own,.fz (.int (k:Int)))] = some (.val (.fz (.str (tx (cs.drop (k + 1))))),[some (s1,.fz h.d),some (.own,.fz (.str (tx (cs)))),some (.own,.lst (((acc ++ [lst (fs h.hands [] cs)]).map chD).map A.fz)),some (.own,.fz (.int (k:Int)))]):=by
  rw [← s2']
  rfl
 have tl:(cs.take k).length = k:=by rw [length_take]; lia
 have dl:(cs.drop (k + 1)).length = cs.length - (k + 1):=length_drop
 have v3:=E2 v1 v2 (by lia)
 rw [e3] at v3
 have st3:=Be (i:=1) v3 rfl
 rw [Ai st1]
 refine (Ai st2).trans ?_
 exact st3
theorem V5 {s1:Own} {h:Hs} (ok:h.Ok):∀ (n m:Nat) (cs acc:List Nat) (x3:Slot),cs.length < n→cs.length≤m→(∀ c∈cs,c∈h.ls.map (·.1))→cs.length≤40→acc.length + cs.length≤100→(pN x3) →
  ∃ y3,BW (Hu (Ab 1)) (Ap (Ar 3 (Af Au (Aa (Ab 0) (Aa (Ab 1) Ad)))) (Ap (DB 2 (opM ixA (m2L (Ab 1) (Ab 3)))) (Ar 1 (opM Az (m2L (opM DE (m2L (Ab 1) (Ab 3))) (opM Dn (m2L (Ab 1) (opM Az (m2L (Ab 3) (Ae (.int 1))))))))))) n [some (s1,.fz h.d),some (.own,.fz (.str (tx (cs)))),some (.own,.lst (((acc).map chD).map A.fz)),x3] = some (.next [some (s1,.fz h.d),some (.own,.fz (.str (tx ([])))),some (.own,.lst (((acc ++ lr h.hands m cs).map chD).map A.fz)),y3]):=by
 intro n
 induction n with
 | zero=>intro m cs acc x3 h1; lia
 | succ n ih =>
  intro m cs acc x3 h1 h2 hz hl ha h3
  cases cs with
  | nil =>
   have e:lr h.hands m [] = []:=by cases m <;> rfl
   rw [e,append_nil]
   exact ⟨x3,rfl⟩
  | cons c w =>
   cases m with
   | zero=>simp at h2
   | succ m =>
    have hmem:lst (fs h.hands [] (c :: w))∈c :: w:=Ia _ _ _ (D5 Nr).1
    have er:((c :: w).erase (lst (fs h.hands [] (c :: w)))).length = w.length:=by rw [List.length_erase_of_mem hmem]; rfl
    simp only [length_cons] at h1 h2 hl ha
    obtain ⟨k,st⟩:=S9 (s1:=s1) ok hz (by simpa using hl) (by simp) (acc:=acc) (by lia) h3
    obtain ⟨y3,e⟩:=ih m ((c :: w).erase (lst (fs h.hands [] (c :: w)))) (acc ++ [lst (fs h.hands [] (c :: w))]) (some (.own,.fz (.int (k:Int)))) (by lia) (by lia) (fun d hd=>hz d (List.mem_of_mem_erase hd)) (by lia) (by simp only [length_append,length_cons,length_nil]; lia) (.inr ⟨_,rfl⟩)
    refine ⟨y3,?_⟩
    have et:Hu (Ab 1) [some (s1,.fz h.d),some (.own,.fz (.str (tx (c :: w)))),some (.own,.lst (((acc).map chD).map A.fz)),x3] = some (true,[some (s1,.fz h.d),some (.own,.fz (.str (tx (c :: w)))),some (.own,.lst (((acc).map chD).map A.fz)),x3]):=by
     have:((tx (c :: w)).length = 0) = False:=by rw [Ba]; simp
     simp only [Hu,Ab,getElem?_cons_zero,getElem?_cons_succ,bind_some,this,decide_false,Bool.not_false]
    have es:lr h.hands (m + 1) (c :: w) = lst (fs h.hands [] (c :: w)) :: lr h.hands m ((c :: w).erase (lst (fs h.hands [] (c :: w)))):=by simp [lr]
    rw [es]
    simp only [BW,et,bind_some,if_true,st]
    rw [e]
    simp
theorem M3 (s1:Own) (h:Hs) (ok:h.Ok) (cs:List Nat) (hz:∀ c∈cs,c∈h.ls.map (·.1)) (hl:cs.length≤40):∃ a1 a2,CF [(s1,.fz h.d),(.own,.fz (.str (tx cs)))] = some (.fz (.str (tx (lr h.hands 40 cs))),[a1,a2]):=by
 obtain ⟨y3,e2⟩:=V5 (s1:=s1) ok 41 40 cs [] none (by lia) hl hz hl (by simp; lia) (.inl rfl)
 have ll:=P4 (f:=h.hands) hl fun d hd=>Gp ok (hz d hd)
 rw [nil_append] at e2
 refine ⟨_,_,AU (ρ:=[some (s1,.fz h.d),some (.own,.fz (.str (tx ([])))),some (.own,.lst (((lr h.hands 40 cs).map chD).map A.fz)),y3]) rfl ?_⟩
 show C7 [some (s1,.fz h.d),some (.own,.fz (.str (tx cs))),none,none] = _
 unfold C7
 have st2:Ar 2 (lstM Ad) [some (s1,.fz h.d),some (.own,.fz (.str (tx cs))),none,none] = some (.next [some (s1,.fz h.d),some (.own,.fz (.str (tx (cs)))),some (.own,.lst ((([]).map chD).map A.fz)),none]):=rfl
 rw [Ai st2]
 refine (Ai e2).trans ?_
 refine BV ?_
 have e7:((Str.ofString "").length = 0) = True:=by
  have:(Str.ofString "").length = 0:=by decide +kernel
  simp [this]
 have e4:((((lr h.hands 40 cs).map fun c=>(⟨#[c]⟩:Str)).map (·.length)).sum≤16777216) = True:=by rw [Q3]; simp only [eq_iff_iff,iff_true]; lia
 simp only [on1,on2,on3,Ce,CD,Bk,BF,fzU,CA,CN,DF,Ae,bind_some,m1L,Aa,Ad,Ab,getElem?_cons_zero,getElem?_cons_succ,map_some,peeks,peek,CB,e7,if_true,C2,BS,KP,e4,Nu]
 rfl
theorem S2 (s1:Own) (h:Hs) (ok:h.Ok) (cs:List Nat) (hz:∀ c∈cs,c∈h.ls.map (·.1)) (hl:cs.length≤40):∃ a1 a2,BD [(s1,.fz h.d),(.own,.fz (.str (tx cs)))] = some (.fz (.str (tx (lr h.hands 40 cs))),[a1,a2]):=by
 have e1:=CL .own .own h ok (tx cs) (IX (by lia) hz)
 obtain ⟨a1,a2,e2⟩:=M3 .own h ok cs hz hl
 refine ⟨_,_,AU (ρ:=[some (s1,.fz h.d),some (.own,.fz (.str (tx cs)))]) rfl ?_⟩
 show Ed [some (s1,.fz h.d),some (.own,.fz (.str (tx cs)))] = _
 unfold Ed
 exact (Ai (GR (call_of rfl rfl rfl e1 rfl))).trans (BV (call_of rfl rfl rfl e2 rfl))
noncomputable def tsD (ss:List (List Nat)):List D:=ss.map fun s=>D.str (tx s)
theorem U2 (a b:Nat):leS ⟨#[a]⟩ ⟨#[b]⟩ = decide (a≤b):=by
 have:decide ([b] < [a]) = decide (b < a):=by rw [Bool.eq_iff_iff]; simp only [decide_eq_true_eq]; exact Kj b a
 show (!decide ([b] < [a])) = _
 rw [this]
 by_cases h:b < a
 ·have:¬ a≤b:=by lia
  simp [h,this]
 ·have:a≤b:=by lia
  simp [h,this]
theorem QY (cs:List Nat):N4 (cs.map fun c=>(⟨#[c]⟩:Str)) = (srt cs).map fun c=>(⟨#[c]⟩:Str):=by
 refine List.Perm.eq_of_pairwise (le:=fun a b=>leS a b = true) (fun a b _ _ h1 h2=>Lv a b h1 h2) (List.pairwise_mergeSort G1 JH _) ?_ ((List.mergeSort_perm _ _).trans ((Ex cs).map _).symm)
 rw [List.pairwise_map]
 exact (KO cs).imp fun h=>by rw [U2]; simpa using h
theorem Q2 (cs:List Nat):(cs.map fun c=>(⟨#[c]⟩:Str)).map D.str = cs.map chD:=by simp [chD]
theorem SE {h:Hs} {cs:List Nat} {i:Int} (hi:i∈plI h cs):∃ k:Nat,i = k∧k < cs.length∧k∈pl h.hands [] 0 cs:=by
 simp only [plI,mem_map] at hi
 obtain ⟨k,hk,rfl⟩:=hi
 have:=(IG (f:=h.hands) cs [] 0).1
 have hk2:k∈(List.range' 0 cs.length).filter fun i=>decide (i∈pl h.hands [] 0 cs):=by rw [this]; exact hk
 have:=(mem_filter.mp hk2).1
 rw [List.mem_range'] at this
 obtain ⟨j,hj,e⟩:=this
 exact ⟨k,rfl,by lia,hk⟩
theorem WE {s1:Own} {h:Hs} {cs:List Nat} (hl:cs.length≤40) {acc:List (List Nat)}:(DF CB (Ae (.str (Str.ofString ""))) (m1L (opM D7 (Aa (A4 (Dy (Ab 3)) 0 D0 (opM ixA (m2L (Ab 2) (Ab 0)))) Ad)))) [some (s1,.fz h.d),some (.own,.fz (.str (tx (cs)))),some (.own,.lst ((tsD (acc)).map A.fz)),some (.own,hL (plI h cs))] = some (.val (.fz (.str (tx (srt (fs h.hands [] cs))))),[some (s1,.fz h.d),some (.own,.fz (.str (tx (cs)))),some (.own,.lst ((tsD (acc)).map A.fz)),some (.own,hL (plI h cs))]):=by
 have hlim:1000≤LIM:=by decide
 have pl1:=NR h cs
 have hit:Dy (Ab 3) [some (s1,.fz h.d),some (.own,.fz (.str (tx (cs)))),some (.own,.lst ((tsD (acc)).map A.fz)),some (.own,hL (plI h cs))] = some (iL (plI h cs),some 3,[some (s1,.fz h.d),some (.own,.fz (.str (tx (cs)))),some (.own,.lst ((tsD (acc)).map A.fz)),some (.own,hL (plI h cs))]):=by
  clear hl hlim pl1
  simp only [hL]
  generalize iL (plI h cs) = ds
  walk_at "eo"
 have hc:=DI (e:=(opM ixA (m2L (Ab 2) (Ab 0)))) (f:=fun d=>chD (cs.getD (nD d).toNat 0)) hit (by simpa using (show (plI h cs).length≤LIM by lia)) (fun d hd=>by
  obtain ⟨i,hi,rfl⟩:=Kl.mp hd
  obtain ⟨k,rfl,hk,_⟩:=SE hi
  have e1:=GI (z:=tx cs) (i:=k) (j:=(k:Int)) rfl (by rw [Bo]; exact hk)
  refine ⟨.val (.fz (chD (cs.getD k 0))),?_,rfl⟩
  rw [Bo] at e1
  clear hd hi hit pl1 hl hlim hk
  simp only [hL,chD]
  generalize iL (plI h cs) = ds
  have e2:(tx cs).cps.toList = cs:=rfl
  generalize tx cs = z at e2 ⊢
  walk_at "eo")
 have em:((iL (plI h cs)).map fun d=>chD (cs.getD (nD d).toNat 0)) = (fs h.hands [] cs).map chD:=by
  rw [← (IG (f:=h.hands) cs [] 0).2.1]
  simp only [iL,plI,map_map]
  exact List.map_congr_left fun i _=>by simp
 rw [em] at hc
 have fl:=UA (f:=h.hands) cs []
 have hs:(opM D7 (Aa (A4 (Dy (Ab 3)) 0 D0 (opM ixA (m2L (Ab 2) (Ab 0)))) Ad)) [some (s1,.fz h.d),some (.own,.fz (.str (tx (cs)))),some (.own,.lst ((tsD (acc)).map A.fz)),some (.own,hL (plI h cs))] = some (.val (.lst (((srt (fs h.hands [] cs)).map chD).map A.fz)),[some (s1,.fz h.d),some (.own,.fz (.str (tx (cs)))),some (.own,.lst ((tsD (acc)).map A.fz)),some (.own,hL (plI h cs))]):=by
  have l1:(((fs h.hands [] cs).map fun c=>(⟨#[c]⟩:Str)).length < 64) = True:=by simp only [length_map,eq_iff_iff,iff_true]; lia
  simp only [on1,on2,on3,Ce,CD,Bk,BF,fzU,CA,CN,opM,Aa,Ad,hc,bind_some,map_some,peeks,peek,D7,C2,BS,KP,l1,if_true,QY,Q2]
 have sl:=(Ex (fs h.hands [] cs)).length_eq
 exact HD hs (by lia)
theorem WD {s1:Own} {h:Hs} {cs:List Nat} (hl:cs.length≤40) {acc:List (List Nat)}:(DF CB (Ae (.str (Str.ofString ""))) (m1L (A4 (El (Ab 1)) 2 (AG (opM (inA true) (m2L (Ab 0) (Ab 5)))) (Ab 1)))) [some (s1,.fz h.d),some (.own,.fz (.str (tx (cs)))),some (.own,.lst ((tsD (acc)).map A.fz)),some (.own,hL (plI h cs))] = some (.val (.fz (.str (tx (rs h.hands [] cs)))),[some (s1,.fz h.d),some (.own,.fz (.str (tx (cs)))),some (.own,.lst ((tsD (acc)).map A.fz)),some (.own,hL (plI h cs))]):=by
 have hlim:1000≤LIM:=by decide
 have hit:El (Ab 1) [some (s1,.fz h.d),some (.own,.fz (.str (tx (cs)))),some (.own,.lst ((tsD (acc)).map A.fz)),some (.own,hL (plI h cs))] = some (((List.range (tx cs).length).map fun (i:Nat)=>(D.int i,chD ((tx cs).cps.toList.getD i 0))).map (fun d=>.tup [d.1,d.2]),none,[some (s1,.fz h.d),some (.own,.fz (.str (tx (cs)))),some (.own,.lst ((tsD (acc)).map A.fz)),some (.own,hL (plI h cs))]):=by
  rw [← MC]
  have e3:((tx cs).length≤LIM) = True:=by rw [Ba]; simp; lia
  simp only [El,Ab,getElem?_cons_zero,getElem?_cons_succ,bind_some,e3,if_true]
 have hc:=Jz (g:=fun d _=>gW (plI h cs) d == false) (f:=fun _ d=>d) (c:=(AG (opM (inA true) (m2L (Ab 0) (Ab 5))))) (e:=Ab 1) hit (by rw [length_map,length_range,Ba]; lia) (fun d hd=>by
  obtain ⟨i,_,rfl⟩:=mem_map.mp hd
  have i1:=Fy (plI h cs)
  have i2:=GW (i:Int) (plI h cs)
  clear hit hl hlim hd
  dsimp only
  simp only [hL]
  by_cases hm:(i:Int)∈plI h cs
  ·have i3:inD (.int (i:Int)) (iL (plI h cs)) = true:=by rw [i2]; simp [hm]
   have i4:gW (plI h cs) (.int (i:Int)) = true:=by show decide ((i:Int)∈plI h cs) = true; simp [hm]
   rw [i4]
   clear i2 hm i4
   walk_at "eo"
   try rfl
  ·have i3:inD (.int (i:Int)) (iL (plI h cs)) = false:=by rw [i2]; simp [hm]
   have i4:gW (plI h cs) (.int (i:Int)) = false:=by show decide ((i:Int)∈plI h cs) = false; simp [hm]
   rw [i4]
   clear i2 hm i4
   walk_at "eo"
   try rfl) (fun d hd _=>by
  obtain ⟨i,_,rfl⟩:=mem_map.mp hd
  exact ⟨.val (.fz (chD ((tx cs).cps.toList.getD i 0))),rfl,rfl⟩)
 have em:((((List.range (tx cs).length).map fun (i:Nat)=>(D.int i,chD ((tx cs).cps.toList.getD i 0))).filter fun d=>gW (plI h cs) d.1 == false).map fun d=>d.2) = (rs h.hands [] cs).map chD:=by
  rw [← (IG (f:=h.hands) cs [] 0).2.2]
  simp only [filter_map,map_map,Function.comp_def,Ba,Bo,Nat.sub_zero,← List.range_eq_range']
  congr 1
  apply List.filter_congr
  intro i _
  have:gW (plI h cs) (.int (i:Int)) = decide (i∈pl h.hands [] 0 cs):=by
   show decide ((i:Int)∈plI h cs) = _
   rw [Bool.eq_iff_iff,decide_eq_true_iff,decide_eq_true_iff]
   simp only [plI,mem_map]
   exact ⟨fun ⟨a,h1,h2⟩=>by rw [← Int.ofNat.inj h2]; exact h1,fun h1=>⟨i,h1,rfl⟩⟩
  rw [this]
  cases decide (i∈pl h.hands [] 0 cs) <;> rfl
 rw [em] at hc
 have rl:=MV (f:=h.hands) cs []
 exact HD hc (by lia)
theorem V6 {s1:Own} {h:Hs} (ok:h.Ok) {cs:List Nat} (hz:∀ c∈cs,c∈h.ls.map (·.1)) (hl:cs.length≤40) {acc:List (List Nat)} (ha:acc.length≤100) {x3:Slot} (h3:(x3 = none∨∃ ps,x3 = some (Own.own,hL ps))) :
  (Ap (Ar 3 (Af AI (Aa (Ab 0) (Aa (Ab 1) Ad)))) (Ap (DB 2 (DF CB (Ae (.str (Str.ofString ""))) (m1L (opM D7 (Aa (A4 (Dy (Ab 3)) 0 D0 (opM ixA (m2L (Ab 2) (Ab 0)))) Ad))))) (Ar 1 (DF CB (Ae (.str (Str.ofString ""))) (m1L (A4 (El (Ab 1)) 2 (AG (opM (inA true) (m2L (Ab 0) (Ab 5)))) (Ab 1))))))) [some (s1,.fz h.d),some (.own,.fz (.str (tx (cs)))),some (.own,.lst ((tsD (acc)).map A.fz)),x3] = some (.next [some (s1,.fz h.d),some (.own,.fz (.str (tx (rs h.hands [] cs)))),some (.own,.lst ((tsD (acc ++ [srt (fs h.hands [] cs)])).map A.fz)),some (.own,hL (plI h cs))]):=by
 obtain ⟨a1,a2,e1⟩:=NX .own .own h ok cs hz hl
 have st1:Ar 3 (Af AI (Aa (Ab 0) (Aa (Ab 1) Ad))) [some (s1,.fz h.d),some (.own,.fz (.str (tx (cs)))),some (.own,.lst ((tsD (acc)).map A.fz)),x3] = some (.next [some (s1,.fz h.d),some (.own,.fz (.str (tx (cs)))),some (.own,.lst ((tsD (acc)).map A.fz)),some (.own,hL (plI h cs))]):=by
  clear hz hl ok ha
  generalize AI = Φ at e1 ⊢
  generalize hL (plI h cs) = A0 at e1 ⊢
  rcases h3 with rfl | ⟨ps,rfl⟩ <;> walk_at "eo"
 have st2:=J1 (i:=2) (st:=.own) (as:=(tsD acc).map A.fz) (ρ:=[some (s1,.fz h.d),some (.own,.fz (.str (tx (cs)))),some (.own,.lst ((tsD (acc)).map A.fz)),some (.own,hL (plI h cs))]) rfl (WE (s1:=s1) (h:=h) (acc:=acc) hl) (by
  have hlim:1000≤LIM:=by decide
  simp only [tsD,length_map]; lia)
 have ea:(tsD acc).map A.fz ++ [A.fz (.str (tx (srt (fs h.hands [] cs))))] = (tsD (acc ++ [srt (fs h.hands [] cs)])).map A.fz:=by simp [tsD]
 rw [ea] at st2
 have st3:=Be (i:=1) (WD (s1:=s1) (h:=h) (acc:=acc ++ [srt (fs h.hands [] cs)]) hl) rfl
 rw [Ai st1]
 refine (Ai st2).trans ?_
 exact st3
theorem S6 {s1:Own} {h:Hs} (ok:h.Ok):∀ (n m:Nat) (cs:List Nat) (acc:List (List Nat)) (x3:Slot),cs.length < n→cs.length≤m→(∀ c∈cs,c∈h.ls.map (·.1))→cs.length≤40→acc.length + cs.length≤100→(x3 = none∨∃ ps,x3 = some (Own.own,hL ps)) →
  ∃ y3,BW (Hu (Ab 1)) (Ap (Ar 3 (Af AI (Aa (Ab 0) (Aa (Ab 1) Ad)))) (Ap (DB 2 (DF CB (Ae (.str (Str.ofString ""))) (m1L (opM D7 (Aa (A4 (Dy (Ab 3)) 0 D0 (opM ixA (m2L (Ab 2) (Ab 0)))) Ad))))) (Ar 1 (DF CB (Ae (.str (Str.ofString ""))) (m1L (A4 (El (Ab 1)) 2 (AG (opM (inA true) (m2L (Ab 0) (Ab 5)))) (Ab 1))))))) n [some (s1,.fz h.d),some (.own,.fz (.str (tx (cs)))),some (.own,.lst ((tsD (acc)).map A.fz)),x3] = some (.next [some (s1,.fz h.d),some (.own,.fz (.str (tx ([])))),some (.own,.lst ((tsD (acc ++ stp h.hands m cs)).map A.fz)),y3]):=by
 intro n
 induction n with
 | zero=>intro m cs acc x3 h1; lia
 | succ n ih =>
  intro m cs acc x3 h1 h2 hz hl ha h3
  cases cs with
  | nil =>
   have e:stp h.hands m [] = []:=by cases m <;> rfl
   rw [e,append_nil]
   exact ⟨x3,rfl⟩
  | cons c w =>
   cases m with
   | zero=>simp at h2
   | succ m =>
    have rl:=MV (f:=h.hands) w (h.hands c)
    have er:(rs h.hands [] (c :: w)).length≤w.length:=by rw [Gm.2]; exact rl
    simp only [length_cons] at h1 h2 hl ha
    have st:=V6 (s1:=s1) ok hz (by simpa using hl) (acc:=acc) (by lia) h3
    obtain ⟨y3,e⟩:=ih m (rs h.hands [] (c :: w)) (acc ++ [srt (fs h.hands [] (c :: w))]) (some (.own,hL (plI h (c :: w)))) (by lia) (by lia) (fun d hd=>hz d (V1 _ _ d hd)) (by lia) (by simp only [length_append,length_cons,length_nil]; lia) (.inr ⟨_,rfl⟩)
    refine ⟨y3,?_⟩
    have et:Hu (Ab 1) [some (s1,.fz h.d),some (.own,.fz (.str (tx (c :: w)))),some (.own,.lst ((tsD (acc)).map A.fz)),x3] = some (true,[some (s1,.fz h.d),some (.own,.fz (.str (tx (c :: w)))),some (.own,.lst ((tsD (acc)).map A.fz)),x3]):=by
     have:((tx (c :: w)).length = 0) = False:=by rw [Ba]; simp
     simp only [Hu,Ab,getElem?_cons_zero,getElem?_cons_succ,bind_some,this,decide_false,Bool.not_false]
    have es:stp h.hands (m + 1) (c :: w) = srt (fs h.hands [] (c :: w)) :: stp h.hands m (rs h.hands [] (c :: w)):=by simp [stp]
    rw [es]
    simp only [BW,et,bind_some,if_true,st]
    rw [e]
    simp
theorem N0 (s1:Own) (h:Hs) (ok:h.Ok) (cs:List Nat) (hz:∀ c∈cs,c∈h.ls.map (·.1)) (hl:cs.length≤40):∃ a1 a2,BJ [(s1,.fz h.d),(.own,.fz (.str (tx cs)))] = some (.lst ((tsD (stp h.hands 40 cs)).map A.fz),[a1,a2]):=by
 have e1:=CL .own .own h ok (tx cs) (IX (by lia) hz)
 obtain ⟨y3,e2⟩:=S6 (s1:=s1) ok 41 40 cs [] none (by lia) hl hz hl (by simp; lia) (.inl rfl)
 refine ⟨_,_,AU (ρ:=[some (s1,.fz h.d),some (.own,.fz (.str (tx []))),none,y3]) rfl ?_⟩
 show GP [some (s1,.fz h.d),some (.own,.fz (.str (tx cs))),none,none] = _
 unfold GP
 have st1:EJ (Af AE (Aa (Ab 0) (Aa (Ab 1) Ad))) [some (s1,.fz h.d),some (.own,.fz (.str (tx cs))),none,none] = some (.next [some (s1,.fz h.d),some (.own,.fz (.str (tx cs))),none,none]):=by
  clear hz hl ok e2
  generalize AE = Φ at e1 ⊢
  walk_at "eo"
 have st2:Ar 2 (lstM Ad) [some (s1,.fz h.d),some (.own,.fz (.str (tx cs))),none,none] = some (.next [some (s1,.fz h.d),some (.own,.fz (.str (tx (cs)))),some (.own,.lst ((tsD ([])).map A.fz)),none]):=by
  have l0:((0:Nat)≤LIM) = True:=by simp
  clear e1 e2 hz hl ok st1
  simp only [tsD]
  walk_at "eo"
 rw [Ai st1,Ai st2]
 refine (Ai e2).trans ?_
 rfl
theorem XO {s1 s2 s3:Own} {h:Hs} (ok:h.Ok) {z:Str} {x:Int}:(A4 (Dy (opM ixA (m2L (Ab 0) (Ae (.int 1))))) 2 (AG (opM (inA false) (m2L (Ab 4) (Ab 1)))) (Ab 0)) [some (s1,.fz h.d),some (s2,.fz (.str z)),some (s3,.fz (.int x)),none] = some (.val (.lst (((les h x).map chD).map A.fz)),[some (s1,.fz h.d),some (s2,.fz (.str z)),some (s3,.fz (.int x)),none]):=by
 have e5:=at1 (D.int h.n) (.lst (h.ls.map ld)) []
 have l2:=ok.l2
 have hlim:1000≤LIM:=by decide
 have ep:h.ls.map ld = (h.ls.map fun p=>(chD p.1,D.lst (iL p.2))).map fun d=>.tup [d.1,d.2]:=by simp [ld]
 have hit:Dy (opM ixA (m2L (Ab 0) (Ae (.int 1)))) [some (s1,.fz h.d),some (s2,.fz (.str z)),some (s3,.fz (.int x)),none] = some ((h.ls.map fun p=>(chD p.1,D.lst (iL p.2))).map (fun d=>.tup [d.1,d.2]),none,[some (s1,.fz h.d),some (s2,.fz (.str z)),some (s3,.fz (.int x)),none]):=by
  rw [← ep]
  clear ep l2 hlim ok
  simp only [Hs.d]
  walk_at "eo"
 have hc:=Jz (g:=fun _ d=>gP x d) (f:=fun d _=>d) (c:=(AG (opM (inA false) (m2L (Ab 4) (Ab 1))))) (e:=Ab 0) hit (by simp; lia) (fun d hd=>by
  obtain ⟨p,_,rfl⟩:=mem_map.mp hd
  have i1:=Fy p.2
  have i2:inD (.int x) (iL p.2) = gP x (.lst (iL p.2)):=rfl
  dsimp only
  generalize gP x (.lst (iL p.2)) = b at i2 ⊢
  generalize iL p.2 = ds at i1 i2 ⊢
  clear hit hd l2 hlim ep e5 ok
  walk_at "eo"
  try (cases b <;> rfl)) (fun d hd _=>by
  obtain ⟨p,_,rfl⟩:=mem_map.mp hd
  exact ⟨.val (.fz (chD p.1)),rfl,rfl⟩)
 have em:(((h.ls.map fun p=>(chD p.1,D.lst (iL p.2))).filter fun d=>gP x d.2).map fun d=>d.1) = (les h x).map chD:=by
  simp only [les,filter_map,map_map,Function.comp_def,gP,GW]
 rw [em] at hc
 exact hc
theorem G8 (s1 s2 s3:Own) (h:Hs) (ok:h.Ok) (z:Str) (hz:Row h z) (x:Int):∃ a1 a2 a3,AB [(s1,.fz h.d),(s2,.fz (.str z)),(s3,.fz (.int x))] = some (.fz (.str ⟨(sees h z.cps.toList x).toArray⟩),[a1,a2,a3]):=by
 have hz1:=hz.1
 have hlim:1000≤LIM:=by decide
 have st1:=Be (i:=3) (XO (s1:=s1) (s2:=s2) (s3:=s3) ok (z:=z) (x:=x)) rfl
 have l1:(z.length≤LIM) = True:=by simp; lia
 have hit:L8 (Ab 1) [some (s1,.fz h.d),some (s2,.fz (.str z)),some (s3,.fz (.int x)),some (.own,.lst (((les h x).map chD).map A.fz))] = some (z.cps.toList.map chD,none,[some (s1,.fz h.d),some (s2,.fz (.str z)),some (s3,.fz (.int x)),some (.own,.lst (((les h x).map chD).map A.fz))]):=by
  have es:EU z = z.cps.toList.map chD:=rfl
  rw [← es]
  clear st1 hz1 hlim hz ok es
  walk_at "eo"
 have zl:z.cps.toList.length = z.length:=Str.list_len z
 have hc:=Gf (g:=fun d=>gC (les h x) d) (f:=fun d=>d) (c:=(AG (opM (inA false) (m2L (Ab 0) (Ab 4))))) (e:=Ab 0) hit (by simp only [length_map]; lia) (fun d hd=>by
  obtain ⟨c,_,rfl⟩:=mem_map.mp hd
  have i1:=RK (les h x)
  have i2:=W0 c (les h x)
  have i3:gC (les h x) (chD c) = decide (c∈les h x):=rfl
  have i0:CO (chD c) = true:=rfl
  rw [← i3] at i2
  generalize gC (les h x) (chD c) = b at i2 ⊢
  generalize (les h x).map chD = ds at i1 i2 ⊢
  simp only [chD] at i2 ⊢
  clear hit hd st1 hz1 hlim hz ok l1 zl i3 i0
  walk_at "eo"
  try (cases b <;> rfl)) (fun d hd _=>⟨.val (.fz d),rfl,rfl⟩)
 have em:((z.cps.toList.map chD).filter fun d=>gC (les h x) d).map (fun d=>d) = (sees h z.cps.toList x).map chD:=by
  rw [List.map_id',filter_map]
  congr 1
  refine List.filter_congr fun c hcz=>?_
  show decide (c∈les h x) = decide (x∈h.hands c)
  rw [decide_eq_decide]
  exact R4 ok (hz.2 c hcz) x
 rw [em] at hc
 have jn:=HD hc (by have:=List.length_filter_le (fun c=>decide (x∈h.hands c)) z.cps.toList; simp only [sees]; lia)
 refine ⟨_,_,_,AU (ρ:=[some (s1,.fz h.d),some (s2,.fz (.str z)),some (s3,.fz (.int x)),some (.own,.lst (((les h x).map chD).map A.fz))]) rfl ?_⟩
 show E6 [some (s1,.fz h.d),some (s2,.fz (.str z)),some (s3,.fz (.int x)),none] = _
 unfold E6
 refine (Ai st1).trans ?_
 exact BV jn
theorem XQ {s1 s2:Own} {h:Hs} (ok:h.Ok) {z:Str}:Bt (opM ixA (m2L (Ab 0) (Ae (.int 0)))) [some (s1,.fz h.d),some (s2,.fz (.str z))] = some (Cu 0 h.n.toNat,none,[some (s1,.fz h.d),some (s2,.fz (.str z))]):=by
 have e0:=at0 (D.int h.n) [.lst (h.ls.map ld)]
 have n1:=ok.n1
 have n2:=ok.n2
 have e1:(-(2 ^ 62)≤h.n∧h.n < 2 ^ 62) = True:=by simp; lia
 clear ok n1 n2
 simp only [Hs.d]
 walk_at "eo"
theorem IK (s1 s2:Own) (h:Hs) (ok:h.Ok) (z:Str) (hz:Row h z):∃ a1 a2,Bz [(s1,.fz h.d),(s2,.fz (.str z))] = some (.lst ((JZ h z.cps.toList).map A.fz),[a1,a2]):=by
 have hc:=DI (e:=(Af AB (Aa (Ab 1) (Aa (Ab 2) (Aa (Ab 0) Ad))))) (f:=fun d=>.str ⟨(sees h z.cps.toList (nD d)).toArray⟩) (XQ (s1:=s1) (s2:=s2) ok (z:=z)) (Rk ok) (fun d hd=>by
  simp only [Cu,mem_map] at hd
  obtain ⟨k,_,rfl⟩:=hd
  obtain ⟨a1,a2,a3,e1⟩:=G8 .own .own .own h ok z hz (0 + (k:Int))
  refine ⟨.val (.fz (.str ⟨(sees h z.cps.toList (0 + (k:Int))).toArray⟩)),?_,?_⟩
  ·clear hz ok
   generalize AB = Φ at e1 ⊢
   generalize (0 + (k:Int)) = kk at e1 ⊢
   walk_at "eo"
  ·simp only [share,er,map_some,U7])
 refine ⟨_,_,AU (ρ:=[some (s1,.fz h.d),some (s2,.fz (.str z))]) rfl ?_⟩
 show Du [some (s1,.fz h.d),some (s2,.fz (.str z))] = _
 unfold Du
 exact BV hc
noncomputable abbrev oS (w:List Nat):Slot:=some (.own,.fz (.str (tx w)))
noncomputable def fF (td:Td):List (Key × D):=td.map fun q=>((Sum.inr (tx q.1):Key),D.int (q.2:Int))
noncomputable def tD (td:Td):List D:=td.map fun q=>D.str (tx q.1)
noncomputable abbrev eH (s1 s2 s3:Own) (h:Hs) (row:List Nat) (td:Td) (x5 x6 x7 x8 x9:Slot):Ro:=[some (s1,.fz h.d),some (s2,.fz (.str (tx row))),some (s3,.fz (.int 300)),some (.own,.dic (fF td)),some (.own,.lst ((tD td).map A.fz)),x5,x6,x7,x8,x9]
noncomputable def cI:MS:=(ifS (AG (Af Bh (Aa (Ab 0) (Aa (opM ixA (m2L (Ab 6) (Ab 7))) (Aa (opM ixA (m2L (Ab 6) (opM Az (m2L (Ab 7) (Ae (.int 1)))))) Ad))))) (Ap (Ar 8 (opM Ct (Aa (Ab 6) (Aa (Ab 7) (Aa (opM Az (m2L (Ab 7) (Ae (.int 2)))) Ad))))) (Ap (Ar 9 (opM Az (m2L (opM Az (m2L (opM DE (m2L (Ab 6) (Ab 7))) (opM MR (m2L (Ab 8) (opM ER (m1L (Ae (.int 1)))))))) (opM Dn (m2L (Ab 6) (opM Az (m2L (Ab 7) (Ae (.int 2))))))))) (ifS (AG (opM (J9 true) (m2L (Ab 9) (Ab 3)))) (Ap (He 3 (Ab 9) (opM Az (m2L (opM EX (m2L (Ab 3) (Ab 6))) (Ae (.int 1))))) (DB 4 (Ab 9))) AY))) AY)
theorem IW {u v:List Nat} (h:tx u = tx v):u = v:=by rw [← Bo u,h,Bo]
theorem Rl (td:Td) (o:List Nat):(Ez (fF td) (.inr (tx o))).isSome = decide (o∈td.map (·.1)):=by
 induction td with
 | nil=>simp [Ez,fF]
 | cons q td ih =>
  have ih':((fF td).find? fun kv=>decide (kv.1 = (Sum.inr (tx o):Key))).isSome = decide (o∈td.map (·.1)):=by simpa [Ez] using ih
  by_cases e:q.1 = o
  ·simp [Ez,fF,find?_cons,e]
  ·have:¬ (Sum.inr (tx q.1):Key) = Sum.inr (tx o):=fun z=>e (IW (Sum.inr.inj z))
   have e2:(fF (q :: td)) = ((Sum.inr (tx q.1):Key),D.int (q.2:Int)) :: fF td:=rfl
   rw [Ez,e2,find?_cons]
   simp only [this,decide_false,isSome_map,ih',map_cons,mem_cons]
   have:¬ o = q.1:=fun z=>e z.symm
   simp [this]
theorem JR {td:Td} (nd:(td.map (·.1)).Nodup) {w:List Nat} {k:Nat} (h:(w,k)∈td):Ez (fF td) (.inr (tx w)) = some (.int (k:Int)):=by
 induction td with
 | nil=>simp at h
 | cons q td ih =>
  have e2:(fF (q :: td)) = ((Sum.inr (tx q.1):Key),D.int (q.2:Int)) :: fF td:=rfl
  rw [Ez,e2,find?_cons]
  rcases mem_cons.mp h with e | h
  ·subst e; simp
  ·obtain ⟨n1,n2⟩:=nodup_cons.mp nd
   have:¬ (Sum.inr (tx q.1):Key) = Sum.inr (tx w):=fun z=>n1 (by show q.1∈_; rw [IW (Sum.inr.inj z)]; exact mem_map.mpr ⟨_,h,rfl⟩)
   simp only [this,decide_false]
   exact ih n2 h
theorem VS {td:Td} {o:List Nat} (h:o ∉ td.map (·.1)) (k:Nat):putD (fF td) (.inr (tx o)) (.int (k:Int)) = fF (td ++ [(o,k)]):=by
 have:((fF td).any fun kv=>decide (kv.1 = (Sum.inr (tx o):Key))) = false:=by
  rw [List.any_eq_false]
  intro kv hkv
  obtain ⟨q,hq,rfl⟩:=mem_map.mp hkv
  simp only [decide_eq_true_iff]
  exact fun z=>h (by rw [← IW (Sum.inr.inj z)]; exact mem_map.mpr ⟨_,hq,rfl⟩)
 rw [putD,this]
 simp [fF]
theorem XY {F:List (Key × D)} {z:Str} {d:D} (h:Ez F (.inr z) = some d):EX [.dic F,.fz (.str z)] = some (.fz d):=by
 simp only [on1,on2,on3,Ce,CD,Bk,BF,fzU,CA,CN,EX,GZ,h,bind_some,map_some]
theorem RH {mk me:ME} {i:Nat} {ρ:Ro} {st:Own} {kvs:List (Key × D)} {d kd:D} {k:Key} (h0:Ll ρ i = some (st,kvs)) (h1:me ρ = some (.val (.fz d),ρ)) (h2:mk ρ = some (.val (.fz kd),ρ)) (hk:GZ kd = some k) (hl:kvs.length < LIM) :
  He i mk me ρ = some (.next (ρ.set i (some (st,.dic (putD kvs k d))))):=by
 simp only [He,h1,bind_some,share,er,map_some,h0,h2,hk,if_pos hl]
theorem Xt {s1 s2 s3:Own} {h:Hs} (ok:h.Ok) {row w:List Nat} (hz:∀ c∈w,c∈h.ls.map (·.1)) (hl:w.length≤40) {p:Nat} (hp:p + 1 < w.length) {td:Td} {k:Nat} (hm:(w,k)∈td) (nd:(td.map (·.1)).Nodup) (ht:td.length≤500) {at_:Nat} {x8 x9:Slot} (h8:pN x8) (h9:pN x9) :
  ∃ y8 y9,pN y8∧pN y9∧cI (eH s1 s2 s3 h row td (oI at_) (oS w) (oI p) x8 x9) = some (.next (eH s1 s2 s3 h row (if frN h.hands (w.getD p 0) (w.getD (p + 1) 0) then Hl k td (swp p w) else td) (oI at_) (oS w) (oI p) y8 y9)):=by
 have ga:w.getD p 0∈w:=by rw [getD_eq_getElem?_getD,getElem?_eq_getElem (by lia)]; exact getElem_mem _
 have gb:w.getD (p + 1) 0∈w:=by rw [getD_eq_getElem?_getD,getElem?_eq_getElem hp]; exact getElem_mem _
 obtain ⟨a1,a2,a3,ef⟩:=MW .own .own .own h ok _ _ (hz _ ga) (hz _ gb)
 have i1:=W6 (o:=w) (i:=p) (j:=(p:Int)) rfl (by lia)
 have i2:=W6 (o:=w) (i:=p + 1) (j:=(p:Int) + 1) (by lia) hp
 have c0:(AG (Af Bh (Aa (Ab 0) (Aa (opM ixA (m2L (Ab 6) (Ab 7))) (Aa (opM ixA (m2L (Ab 6) (opM Az (m2L (Ab 7) (Ae (.int 1)))))) Ad))))) (eH s1 s2 s3 h row td (oI at_) (oS w) (oI p) x8 x9) = some (frB h (w.getD p 0) (w.getD (p + 1) 0),(eH s1 s2 s3 h row td (oI at_) (oS w) (oI p) x8 x9)):=by
  clear hz hl ok hm nd ht hp ga gb
  simp only [eH,oI,oS]
  generalize fF td = F
  generalize tD td = T
  generalize tx row = r
  generalize frB h (w.getD p 0) (w.getD (p + 1) 0) = b at ef ⊢
  generalize Bh = Φ at ef ⊢
  generalize w.getD p 0 = a at ef i1
  generalize w.getD (p + 1) 0 = c at ef i2
  generalize tx w = z at i1 i2 ⊢
  walk_at "eo"
 have eb:frB h (w.getD p 0) (w.getD (p + 1) 0) = frN h.hands (w.getD p 0) (w.getD (p + 1) 0):=rfl
 rw [eb] at c0
 cases hb:frN h.hands (w.getD p 0) (w.getD (p + 1) 0) with
 | false =>
  rw [hb] at c0
  refine ⟨x8,x9,h8,h9,?_⟩
  exact GV c0
 | true =>
  rw [hb] at c0
  have s8:=Xv (cs:=w) (k:=p) (by lia)
  have st8:Ar 8 (opM Ct (Aa (Ab 6) (Aa (Ab 7) (Aa (opM Az (m2L (Ab 7) (Ae (.int 2)))) Ad)))) (eH s1 s2 s3 h row td (oI at_) (oS w) (oI p) x8 x9) = some (.next (eH s1 s2 s3 h row td (oI at_) (oS w) (oI p) (oS ((w.drop p).take 2)) x9)):=by
   clear hz hl ok hm nd ht hp ga gb c0 hb eb ef i1 i2
   simp only [eH,oI,oS]
   generalize fF td = F
   generalize tD td = T
   generalize tx row = r
   generalize tx ((w.drop p).take 2) = y at s8 ⊢
   generalize tx w = z at s8 ⊢
   subst s8
   rcases h8 with rfl | ⟨d8,rfl⟩ <;> rfl
  have q1:=N3 (cs:=w) (k:=p) (by lia)
  have q3:=Xw (cs:=w) (k:=p) (by lia)
  have v1:(opM DE (m2L (Ab 6) (Ab 7))) (eH s1 s2 s3 h row td (oI at_) (oS w) (oI p) (oS ((w.drop p).take 2)) x9) = some (.val (.fz (.str (tx (w.take p)))),(eH s1 s2 s3 h row td (oI at_) (oS w) (oI p) (oS ((w.drop p).take 2)) x9)):=by
   clear hz hl ok hm nd ht hp ga gb c0 hb eb ef i1 i2 st8 s8 q3 h8
   simp only [eH,oI,oS]
   generalize fF td = F
   generalize tD td = T
   generalize tx row = r
   generalize tx (w.take p) = y at q1 ⊢
   generalize tx w = z at q1 ⊢
   subst q1
   rfl
  have v2:(opM MR (m2L (Ab 8) (opM ER (m1L (Ae (.int 1)))))) (eH s1 s2 s3 h row td (oI at_) (oS w) (oI p) (oS ((w.drop p).take 2)) x9) = some (.val (.fz (.str (tx ((w.drop p).take 2).reverse))),(eH s1 s2 s3 h row td (oI at_) (oS w) (oI p) (oS ((w.drop p).take 2)) x9)):=by
   have q2:=V0 ((w.drop p).take 2)
   clear hz hl ok hm nd ht hp ga gb c0 hb eb ef i1 i2 st8 s8 q3 h8 q1 v1
   simp only [eH,oI,oS]
   generalize fF td = F
   generalize tD td = T
   generalize tx row = r
   generalize tx ((w.drop p).take 2).reverse = y2 at q2 ⊢
   generalize tx ((w.drop p).take 2) = y at q2 ⊢
   subst q2
   rfl
  have v3:(opM Dn (m2L (Ab 6) (opM Az (m2L (Ab 7) (Ae (.int 2)))))) (eH s1 s2 s3 h row td (oI at_) (oS w) (oI p) (oS ((w.drop p).take 2)) x9) = some (.val (.fz (.str (tx (w.drop (p + 2))))),(eH s1 s2 s3 h row td (oI at_) (oS w) (oI p) (oS ((w.drop p).take 2)) x9)):=by
   clear hz hl ok hm nd ht hp ga gb c0 hb eb ef i1 i2 st8 s8 h8 q1 v1 v2
   simp only [eH,oI,oS]
   generalize fF td = F
   generalize tD td = T
   generalize tx row = r
   generalize tx (w.drop (p + 2)) = y at q3 ⊢
   generalize tx w = z at q3 ⊢
   subst q3
   rfl
  have l1:(w.take p).length≤40:=by rw [length_take]; lia
  have l2:((w.drop p).take 2).length≤40:=by rw [length_take]; lia
  have l3:(w.drop (p + 2)).length≤40:=by rw [length_drop]; lia
  have v12:=E2 v1 v2 (by rw [List.length_reverse]; lia)
  have v123:=E2 v12 v3 (by rw [length_append,List.length_reverse]; lia)
  have st9:=Be (i:=9) v123 (by rcases h9 with rfl | ⟨d9,rfl⟩ <;> rfl)
  have st9':Ar 9 (opM Az (m2L (opM Az (m2L (opM DE (m2L (Ab 6) (Ab 7))) (opM MR (m2L (Ab 8) (opM ER (m1L (Ae (.int 1)))))))) (opM Dn (m2L (Ab 6) (opM Az (m2L (Ab 7) (Ae (.int 2)))))))) (eH s1 s2 s3 h row td (oI at_) (oS w) (oI p) (oS ((w.drop p).take 2)) x9) = some (.next (eH s1 s2 s3 h row td (oI at_) (oS w) (oI p) (oS ((w.drop p).take 2)) (oS (swp p w)))):=st9
  have vd:=Rl td (swp p w)
  have c2:(AG (opM (J9 true) (m2L (Ab 9) (Ab 3)))) (eH s1 s2 s3 h row td (oI at_) (oS w) (oI p) (oS ((w.drop p).take 2)) (oS (swp p w))) = some (!decide (swp p w∈td.map (·.1)),(eH s1 s2 s3 h row td (oI at_) (oS w) (oI p) (oS ((w.drop p).take 2)) (oS (swp p w)))):=by
   rw [← vd]
   generalize hy:Ez (fF td) (.inr (tx (swp p w))) = y
   clear hz hl ok hm nd ht hp ga gb c0 hb eb ef i1 i2 st8 s8 h8 h9 q1 v1 v2 v3 q3 l1 l2 l3 v12 v123 st9 st9' vd
   simp only [eH,oI,oS]
   generalize fF td = F at hy ⊢
   generalize tD td = T
   generalize tx row = r
   generalize tx w = z
   generalize tx ((w.drop p).take 2) = z8
   generalize tx (swp p w) = z9 at hy ⊢
   cases y <;> walk_at "eo" <;> rfl
  refine ⟨(oS ((w.drop p).take 2)),(oS (swp p w)),.inr ⟨_,rfl⟩,.inr ⟨_,rfl⟩,(Lo c0).trans ((Ai st8).trans ((Ai st9').trans ?_))⟩
  by_cases hin:swp p w∈td.map (·.1)
  ·rw [decide_eq_true hin] at c2
   refine (GV c2).trans ?_
   rw [if_pos rfl,Hl,if_pos hin]
   rfl
  ·rw [decide_eq_false hin] at c2
   refine (Lo c2).trans ?_
   rw [if_pos rfl,Hl,if_neg hin]
   have vw:=JR nd hm
   have pv:(opM Az (m2L (opM EX (m2L (Ab 3) (Ab 6))) (Ae (.int 1)))) (eH s1 s2 s3 h row td (oI at_) (oS w) (oI p) (oS ((w.drop p).take 2)) (oS (swp p w))) = some (.val (.fz (.int ((k + 1:Nat):Int))),(eH s1 s2 s3 h row td (oI at_) (oS w) (oI p) (oS ((w.drop p).take 2)) (oS (swp p w)))):=by
    clear hz hl ok hm nd ht hp ga gb c0 hb eb ef i1 i2 st8 s8 h8 h9 q1 v1 v2 v3 q3 l1 l2 l3 v12 v123 st9 st9' vd c2 hin
    simp only [eH,oI,oS]
    generalize fF td = F at vw ⊢
    generalize tD td = T
    generalize tx row = r
    generalize tx w = z at vw ⊢
    generalize tx ((w.drop p).take 2) = z8
    generalize tx (swp p w) = z9
    have ek:(k:Int) + 1 = ((k + 1:Nat):Int):=by lia
    walk_at "eo"
   have hlim:1000≤LIM:=by decide
   have stp:=RH (i:=3) (mk:=Ab 9) (ρ:=(eH s1 s2 s3 h row td (oI at_) (oS w) (oI p) (oS ((w.drop p).take 2)) (oS (swp p w)))) (st:=.own) (kvs:=fF td) (kd:=.str (tx (swp p w))) (k:=.inr (tx (swp p w))) rfl pv rfl rfl (by simp only [fF,length_map]; lia)
   rw [VS hin] at stp
   have stp':(He 3 (Ab 9) (opM Az (m2L (opM EX (m2L (Ab 3) (Ab 6))) (Ae (.int 1))))) (eH s1 s2 s3 h row td (oI at_) (oS w) (oI p) (oS ((w.drop p).take 2)) (oS (swp p w))) = some (.next [some (s1,.fz h.d),some (s2,.fz (.str (tx row))),some (s3,.fz (.int 300)),some (.own,.dic (fF (td ++ [(swp p w,k + 1)]))),some (.own,.lst ((tD td).map A.fz)),(oI at_),(oS w),(oI p),(oS ((w.drop p).take 2)),(oS (swp p w))]):=stp
   have sta:=J1 (m:=Ab 9) (i:=4) (st:=.own) (as:=(tD td).map A.fz) (ρ:=[some (s1,.fz h.d),some (s2,.fz (.str (tx row))),some (s3,.fz (.int 300)),some (.own,.dic (fF (td ++ [(swp p w,k + 1)]))),some (.own,.lst ((tD td).map A.fz)),(oI at_),(oS w),(oI p),(oS ((w.drop p).take 2)),(oS (swp p w))]) rfl rfl (by simp only [tD,length_map]; lia)
   have et:(tD td).map A.fz ++ [A.fz (.str (tx (swp p w)))] = (tD (td ++ [(swp p w,k + 1)])).map A.fz:=by simp [tD]
   rw [et] at sta
   exact (Ai stp').trans sta
noncomputable def cF:MS:=(GU [7] true (Bt (opM BN (m2L (opM Bs (Aa (Ab 6) Ad)) (Ae (.int 1))))) cI)
noncomputable def cO:MS:=(Ap (Ar 6 (opM ixA (m2L (Ab 4) (Ab 5)))) (Ap cF (Ar 5 (opM Az (m2L (Ab 5) (Ae (.int 1)))))))
noncomputable def cN:MT:=(J0 (AG (opM ltA (m2L (Ab 5) (opM Bs (Aa (Ab 4) Ad))))) (AG (opM ltA (m2L (opM Bs (Aa (Ab 4) Ad)) (Ab 2)))))
theorem Tq {p:Nat} {w:List Nat} (hp:p + 1 < w.length):(swp p w).length = w.length:=by
 simp only [swp,length_append,length_take,List.length_reverse,length_drop]; lia
theorem Tr {p:Nat} {w:List Nat} {c:Nat} (h:c∈swp p w):c∈w:=by
 simp only [swp,mem_append,List.mem_reverse] at h
 rcases h with (h | h) | h
 ·exact List.mem_of_mem_take h
 ·exact List.mem_of_mem_drop (List.mem_of_mem_take h)
 ·exact List.mem_of_mem_drop h
theorem Qa {f:Nat→List Int} {w o:List Nat} (h:o∈nbs f w):o.length = w.length∧∀ c∈o,c∈w:=by
 obtain ⟨p,op,rfl⟩:=Gx.mp h
 exact ⟨Tq op.1,fun c hc=>Tr hc⟩
theorem V4 {s1 s2 s3:Own} {h:Hs} (ok:h.Ok) {row w:List Nat} (hz:∀ c∈w,c∈h.ls.map (·.1)) (hl:w.length≤40) {td:Td} {k:Nat} (hm:(w,k)∈td) (nd:(td.map (·.1)).Nodup) (ht:td.length≤400) {at_:Nat} {x7 x8 x9:Slot} (h7:pN x7) (h8:pN x8) (h9:pN x9) :
  ∃ y7 y8 y9,pN y7∧pN y8∧pN y9∧cF (eH s1 s2 s3 h row td (oI at_) (oS w) x7 x8 x9) = some (.next (eH s1 s2 s3 h row (turn h.hands td w k) (oI at_) (oS w) y7 y8 y9)):=by
 have ln:(opM BN (m2L (opM Bs (Aa (Ab 6) Ad)) (Ae (.int 1)))) (eH s1 s2 s3 h row td (oI at_) (oS w) x7 x8 x9) = some (.val (.fz (.int ((w.length:Int) - 1))),(eH s1 s2 s3 h row td (oI at_) (oS w) x7 x8 x9)):=by
  have e:=Ba w
  rw [← e]
  rfl
 have rg:=Eu ln (by lia) (by lia)
 have en:((w.length:Int) - 1).toNat = w.length - 1:=by lia
 rw [en] at rg
 obtain ⟨ρ',f1,f2⟩:=En (is:=[7]) (one:=true) (b:=cI)
  (fun t ρ=>∃ (z7 z8 z9:Slot),pN z7∧pN z8∧pN z9 ∧ ρ = (eH s1 s2 s3 h row (((((List.range t).filter fun p=>frN h.hands (w.getD p 0) (w.getD (p + 1) 0)).map fun p=>swp p w).foldl (Hl k) td)) (oI at_) (oS w) z7 z8 z9)) rg ⟨x7,x8,x9,h7,h8,h9,rfl⟩ (fun t d ρ hd hI=>by
   obtain ⟨z7,z8,z9,k7,k8,k9,rfl⟩:=hI
   obtain ⟨rfl,ht2⟩:=GK hd
   obtain ⟨new,e,n1,n2,n3,n4⟩:=HP k (((List.range t).filter fun p=>frN h.hands (w.getD p 0) (w.getD (p + 1) 0)).map fun p=>swp p w) td
   have nl:(((List.range t).filter fun p=>frN h.hands (w.getD p 0) (w.getD (p + 1) 0)).map fun p=>swp p w).length≤t:=by
    rw [length_map]
    exact le_trans (List.length_filter_le _ _) (by rw [length_range]; exact le_refl _)
   have tdl:(td ++ new).length≤500:=by rw [length_append]; lia
   obtain ⟨y8,y9,l8,l9,q⟩:=Xt (s1:=s1) (s2:=s2) (s3:=s3) ok hz hl (row:=row) (p:=t) (by lia) (td:=td ++ new) (k:=k) (mem_append_left _ hm) (n3 nd) tdl (at_:=at_) k8 k9
   rw [e]
   refine ⟨_,_,?_,.inl q,(oI t),y8,y9,.inr ⟨_,rfl⟩,l8,l9,?_⟩
   ·rcases k7 with rfl | ⟨d,rfl⟩ <;> rfl
   ·rw [List.range_succ,List.filter_append,map_append,List.foldl_append,e]
    cases hb:frN h.hands (w.getD t 0) (w.getD (t + 1) 0) with
    | true=>simp only [List.filter_cons,List.filter_nil,hb,if_true,map_cons,map_nil,foldl_cons,List.foldl_nil]
    | false=>simp only [List.filter_cons,List.filter_nil,hb,false_eq_true,if_false,map_nil,List.foldl_nil])
 obtain ⟨z7,z8,z9,k7,k8,k9,rfl⟩:=f2
 refine ⟨z7,z8,z9,k7,k8,k9,?_⟩
 rw [DZ] at f1
 exact f1
theorem S1 {s1 s2 s3:Own} {h:Hs} (ok:h.Ok) {row w:List Nat} (hz:∀ c∈w,c∈h.ls.map (·.1)) (hl:w.length≤40) {td:Td} {k at_:Nat} (hm:td[at_]? = some (w,k)) (nd:(td.map (·.1)).Nodup) (ht:td.length≤400) {x6 x7 x8 x9:Slot} (h6:pN x6) (h7:pN x7) (h8:pN x8) (h9:pN x9) :
  ∃ y6 y7 y8 y9,pN y6∧pN y7∧pN y8∧pN y9∧cO (eH s1 s2 s3 h row td (oI at_) x6 x7 x8 x9) = some (.next (eH s1 s2 s3 h row (turn h.hands td w k) (oI ((at_ + 1:Nat))) y6 y7 y8 y9)):=by
 have ai:atI (tD td) (at_:Int) = some (D.str (tx w)):=by
  have hl2:=(List.getElem?_eq_some_iff.mp hm).1
  have:=BH (xs:=tD td) (k:=at_) (i:=(at_:Int)) rfl (by simp only [tD,length_map]; exact hl2)
  rw [this]
  have e:=(List.getElem?_eq_some_iff.mp hm).2
  simp only [tD,getElem_map,e]
 have st6:Ar 6 (opM ixA (m2L (Ab 4) (Ab 5))) (eH s1 s2 s3 h row td (oI at_) x6 x7 x8 x9) = some (.next (eH s1 s2 s3 h row td (oI at_) (oS w) x7 x8 x9)):=by
  have v:(opM ixA (m2L (Ab 4) (Ab 5))) (eH s1 s2 s3 h row td (oI at_) x6 x7 x8 x9) = some (.val (.fz (.str (tx w))),(eH s1 s2 s3 h row td (oI at_) x6 x7 x8 x9)):=BP rfl rfl (ixL ai)
  rcases h6 with rfl | ⟨d6,rfl⟩ <;> exact Be v rfl
 obtain ⟨y7,y8,y9,l7,l8,l9,q⟩:=V4 (s1:=s1) (s2:=s2) (s3:=s3) ok hz hl (row:=row) (mem_of_getElem? hm) nd ht (at_:=at_) h7 h8 h9
 refine ⟨(oS w),y7,y8,y9,.inr ⟨_,rfl⟩,l7,l8,l9,(Ai st6).trans ((Ai q).trans ?_)⟩
 rfl
theorem W2 (T:List D):Bs [.lst (T.map A.fz)] = some (.fz (.int (T.length:Int))):=by
 simp only [on1,on2,on3,Ce,CD,Bk,BF,fzU,CA,CN,Bs,Br,BS,map_some,Option.map_none,bind_none,none_or]
theorem ltI {ρ ρ1 ρ2:Ro} {m1 m2:ME} {i j:Int} (h1:m1 ρ = some (.val (.fz (.int i)),ρ1)) (h2:m2 ρ1 = some (.val (.fz (.int j)),ρ2)):opM ltA (m2L m1 m2) ρ = some (.val (.fz (.bl (decide (i < j)))),ρ2):=by
 walk_at "eo"
theorem Uo {a b:MT} {ρ:Ro} {x y:Bool} (h1:a ρ = some (x,ρ)) (h2:b ρ = some (y,ρ)):J0 a b ρ = some (x && y,ρ):=by
 cases x <;> simp [J0,h1,h2]
theorem SY {s1 s2 s3:Own} {h:Hs} (ok:h.Ok) {row:List Nat}:∀ (n:Nat) (td:Td) (at_:Nat) (x6 x7 x8 x9:Slot),n + at_ = 301→at_≤300→(∀ q∈td,(∀ c∈q.1,c∈h.ls.map (·.1))∧q.1.length≤40)→(td.map (·.1)).Nodup→pN x6→pN x7→pN x8→pN x9 →
  ∃ (a:Nat) (y6 y7 y8 y9:Slot),BW cN cO n (eH s1 s2 s3 h row td (oI at_) x6 x7 x8 x9) = some (.next (eH s1 s2 s3 h row (bfs h.hands n td at_) (oI a) y6 y7 y8 y9)):=by
 intro n
 induction n with
 | zero=>intro td at_ x6 x7 x8 x9 h1 h2; lia
 | succ n ih =>
  intro td at_ x6 x7 x8 x9 h1 h2 hg nd h6 h7 h8 h9
  have tl:(tD td).length = td.length:=by simp [tD]
  have vl:(opM Bs (Aa (Ab 4) Ad)) (eH s1 s2 s3 h row td (oI at_) x6 x7 x8 x9) = some (.val (.fz (.int (td.length:Int))),(eH s1 s2 s3 h row td (oI at_) x6 x7 x8 x9)):=by
   rw [← tl]
   exact BP rfl rfl (W2 _)
  have cn:cN (eH s1 s2 s3 h row td (oI at_) x6 x7 x8 x9) = some (decide (at_ < td.length) && decide (td.length < 300),(eH s1 s2 s3 h row td (oI at_) x6 x7 x8 x9)):=by
   have c1:=DY (ltI (m1:=Ab 5) (ρ:=(eH s1 s2 s3 h row td (oI at_) x6 x7 x8 x9)) rfl vl)
   have c2:=DY (ltI (m2:=Ab 2) vl rfl)
   have q:=Uo c1 c2
   rw [show decide ((at_:Int) < (td.length:Int)) = decide (at_ < td.length) by simp,show decide ((td.length:Int) < 300) = decide (td.length < 300) from decide_eq_decide.mpr (by lia)] at q
   exact q
  unfold bfs
  by_cases hc:at_ < td.length∧td.length < 300
  ·rw [if_pos hc,getElem?_eq_getElem hc.1]
   rw [decide_eq_true hc.1,decide_eq_true hc.2] at cn
   have hm:td[at_]? = some (td[at_].1,td[at_].2):=getElem?_eq_getElem hc.1
   obtain ⟨g1,g2⟩:=hg _ (getElem_mem hc.1)
   obtain ⟨y6,y7,y8,y9,l6,l7,l8,l9,q⟩:=S1 (s1:=s1) (s2:=s2) (s3:=s3) ok g1 g2 (row:=row) hm nd (by lia) h6 h7 h8 h9
   obtain ⟨new,e,n1,n2,n3,n4⟩:=HP td[at_].2 (nbs h.hands td[at_].1) td
   have et:turn h.hands td td[at_].1 td[at_].2 = td ++ new:=e
   obtain ⟨a,z6,z7,z8,z9,r⟩:=ih (turn h.hands td td[at_].1 td[at_].2) (at_ + 1) y6 y7 y8 y9 (by lia) (by lia) (fun p hp=>by
    rw [et] at hp
    rcases mem_append.mp hp with z | z
    ·exact hg p z
    ·obtain ⟨b1,b2⟩:=Qa (n2 p z)
     exact ⟨fun c hc=>g1 c (b2 c hc),by lia⟩) (by rw [et]; exact n3 nd) l6 l7 l8 l9
   refine ⟨a,z6,z7,z8,z9,?_⟩
   simp only [BW,cn,Bool.and_self,bind_some,if_true,q]
   exact r
  ·rw [if_neg hc]
   have cf:(decide (at_ < td.length) && decide (td.length < 300)) = false:=by
    rw [Bool.and_eq_false_iff]
    by_cases z:at_ < td.length
    ·exact .inr (decide_eq_false fun y=>hc ⟨z,y⟩)
    ·exact .inl (decide_eq_false z)
   rw [cf] at cn
   refine ⟨at_,x6,x7,x8,x9,?_⟩
   simp only [BW,cn,bind_some,false_eq_true,if_false]
theorem MY (s1 s2 s3:Own) (h:Hs) (ok:h.Ok) (row:List Nat) (hz:∀ c∈row,c∈h.ls.map (·.1)) (hl:row.length≤40):∃ a1 a2 a3,AL [(s1,.fz h.d),(s2,.fz (.str (tx row))),(s3,.fz (.int 300))] = some (.dic (fF (bfs h.hands 301 [(row,0)] 0)),[a1,a2,a3]):=by
 obtain ⟨a,y6,y7,y8,y9,q⟩:=SY (s1:=s1) (s2:=s2) (s3:=s3) ok (row:=row) 301 [(row,0)] 0 none none none none rfl (by lia) (fun p hp=>by simp at hp; subst hp; exact ⟨hz,hl⟩) (by simp) (.inl rfl) (.inl rfl) (.inl rfl) (.inl rfl)
 refine ⟨_,_,_,AU (ρ:=[some (s1,.fz h.d),some (s2,.fz (.str (tx row))),some (s3,.fz (.int 300)),none,some (.own,.lst ((tD (bfs h.hands 301 [(row,0)] 0)).map A.fz)),(oI a),y6,y7,y8,y9]) rfl ?_⟩
 show Ea [some (s1,.fz h.d),some (s2,.fz (.str (tx row))),some (s3,.fz (.int 300)),none,none,none,none,none,none,none] = _
 unfold Ea
 have st3:Ar 3 (opM Ld (m2L (Ab 1) (Ae (.int 0)))) [some (s1,.fz h.d),some (s2,.fz (.str (tx row))),some (s3,.fz (.int 300)),none,none,none,none,none,none,none] = some (.next [some (s1,.fz h.d),some (s2,.fz (.str (tx row))),some (s3,.fz (.int 300)),some (.own,.dic (fF [(row,0)])),none,none,none,none,none,none]):=rfl
 have st4:Ar 4 (lstM (Aa (AW (Ab 1)) Ad)) [some (s1,.fz h.d),some (s2,.fz (.str (tx row))),some (s3,.fz (.int 300)),some (.own,.dic (fF [(row,0)])),none,none,none,none,none,none] = some (.next [some (s1,.fz h.d),some (s2,.fz (.str (tx row))),some (s3,.fz (.int 300)),some (.own,.dic (fF [(row,0)])),some (.own,.lst ((tD [(row,0)]).map A.fz)),none,none,none,none,none]):=by
  have l0:((1:Nat)≤LIM) = True:=by simp; decide
  clear q st3 hz hl ok
  simp only [tD,map_cons,map_nil]
  generalize fF _ = F
  generalize tx row = z
  walk_at "eo"
 rw [Ai st3,Ai st4]
 refine (Ai (ρ1:=(eH s1 s2 s3 h row ([(row,0)]) (oI ((0:Nat))) none none none none)) rfl).trans ?_
 refine (Ai q).trans ?_
 rfl
theorem Tg {cs:List Nat} (h0:cs≠[]):Txt.slice (tx cs) none (some (-1)) = tx (cs.take (cs.length - 1)):=by
 have hl:=length_pos_iff.mpr h0
 have:=eq_of_beq (PyProof.Rows.slice_closes_to_neg (x:=tx cs) (j:=-1) (k:=-1 + (cs.length:Int)) (by decide) (by rw [Ba]; lia) (by rw [Ba]))
 rw [this]
 have e:(-1 + (cs.length:Int) - 0).toNat = cs.length - 1:=by lia
 rw [e]
 simp [tx]
theorem Uw (td:Td):(fF td).length = td.length:=by simp [fF]
theorem QS {s1:Own} {h:Hs} (ok:h.Ok):∀ (n:Nat) (cs:List Nat),cs.length < n→(∀ c∈cs,c∈h.ls.map (·.1))→cs.length≤40 →
  ∃ cs',(∀ c∈cs',c∈h.ls.map (·.1))∧cs'.length≤cs.length∧(bfs h.hands 301 [(cs',0)] 0).length≤299∧BW (AG (opM gtA (m2L (opM P2 (Aa (Ab 2) Ad)) (Ae (.int 299))))) (Ap (Ar 1 (opM DE (m2L (Ab 1) (opM ER (m1L (Ae (.int 1))))))) (Ar 2 (Af AL (Aa (Ab 0) (Aa (Ab 1) (Aa (Ae (.int 300)) Ad)))))) n [some (s1,.fz h.d),some (.own,.fz (.str (tx (cs)))),some (.own,.dic (fF (bfs h.hands 301 [(cs,0)] 0)))] = some (.next [some (s1,.fz h.d),some (.own,.fz (.str (tx (cs')))),some (.own,.dic (fF (bfs h.hands 301 [(cs',0)] 0)))]):=by
 intro n
 induction n with
 | zero=>intro cs h1; lia
 | succ n ih =>
  intro cs h1 hz hl
  have cn:(AG (opM gtA (m2L (opM P2 (Aa (Ab 2) Ad)) (Ae (.int 299))))) [some (s1,.fz h.d),some (.own,.fz (.str (tx (cs)))),some (.own,.dic (fF (bfs h.hands 301 [(cs,0)] 0)))] = some (decide (299 < (bfs h.hands 301 [(cs,0)] 0).length),[some (s1,.fz h.d),some (.own,.fz (.str (tx (cs)))),some (.own,.dic (fF (bfs h.hands 301 [(cs,0)] 0)))]):=by
   have e:(((bfs h.hands 301 [(cs,0)] 0).length:Int)) = ((fF (bfs h.hands 301 [(cs,0)] 0)).length:Int):=by rw [Uw]
   have e2:decide (299 < (bfs h.hands 301 [(cs,0)] 0).length) = decide ((299:Int) < ((fF (bfs h.hands 301 [(cs,0)] 0)).length:Int)):=decide_eq_decide.mpr (by rw [← e]; lia)
   rw [e2]
   rfl
  by_cases hc:299 < (bfs h.hands 301 [(cs,0)] 0).length
  ·rw [decide_eq_true hc] at cn
   have h0:cs≠[]:=fun z=>by rw [z,Rw] at hc; simp at hc
   have hl1:=length_pos_iff.mpr h0
   have tl:(cs.take (cs.length - 1)).length = cs.length - 1:=by rw [length_take]; lia
   have hz':∀ c∈cs.take (cs.length - 1),c∈h.ls.map (·.1):=fun c hc=>hz c (List.mem_of_mem_take hc)
   obtain ⟨a1,a2,a3,e1⟩:=MY .own .own .own h ok (cs.take (cs.length - 1)) hz' (by lia)
   have sl:=Tg h0
   have st1:Ar 1 (opM DE (m2L (Ab 1) (opM ER (m1L (Ae (.int 1)))))) [some (s1,.fz h.d),some (.own,.fz (.str (tx (cs)))),some (.own,.dic (fF (bfs h.hands 301 [(cs,0)] 0)))] = some (.next [some (s1,.fz h.d),some (.own,.fz (.str (tx (cs.take (cs.length - 1))))),some (.own,.dic (fF (bfs h.hands 301 [(cs,0)] 0)))]):=by
    have v:(opM DE (m2L (Ab 1) (opM ER (m1L (Ae (.int 1)))))) [some (s1,.fz h.d),some (.own,.fz (.str (tx (cs)))),some (.own,.dic (fF (bfs h.hands 301 [(cs,0)] 0)))] = some (.val (.fz (.str (tx (cs.take (cs.length - 1))))),[some (s1,.fz h.d),some (.own,.fz (.str (tx (cs)))),some (.own,.dic (fF (bfs h.hands 301 [(cs,0)] 0)))]):=by
     rw [← sl]
     rfl
    exact Be v rfl
   have st2:Ar 2 (Af AL (Aa (Ab 0) (Aa (Ab 1) (Aa (Ae (.int 300)) Ad)))) [some (s1,.fz h.d),some (.own,.fz (.str (tx (cs.take (cs.length - 1))))),some (.own,.dic (fF (bfs h.hands 301 [(cs,0)] 0)))] = some (.next [some (s1,.fz h.d),some (.own,.fz (.str (tx (cs.take (cs.length - 1))))),some (.own,.dic (fF (bfs h.hands 301 [(cs.take (cs.length - 1),0)] 0)))]):=by
    have v:(Af AL (Aa (Ab 0) (Aa (Ab 1) (Aa (Ae (.int 300)) Ad)))) [some (s1,.fz h.d),some (.own,.fz (.str (tx (cs.take (cs.length - 1))))),some (.own,.dic (fF (bfs h.hands 301 [(cs,0)] 0)))] = some (.val (.dic (fF (bfs h.hands 301 [(cs.take (cs.length - 1),0)] 0))),[some (s1,.fz h.d),some (.own,.fz (.str (tx (cs.take (cs.length - 1))))),some (.own,.dic (fF (bfs h.hands 301 [(cs,0)] 0)))]):=call_of rfl rfl rfl e1 rfl
    exact Be v rfl
   obtain ⟨cs',g1,g2,g3,g4⟩:=ih (cs.take (cs.length - 1)) (by lia) hz' (by lia)
   refine ⟨cs',g1,by lia,g3,?_⟩
   have sb:(Ap (Ar 1 (opM DE (m2L (Ab 1) (opM ER (m1L (Ae (.int 1))))))) (Ar 2 (Af AL (Aa (Ab 0) (Aa (Ab 1) (Aa (Ae (.int 300)) Ad)))))) [some (s1,.fz h.d),some (.own,.fz (.str (tx (cs)))),some (.own,.dic (fF (bfs h.hands 301 [(cs,0)] 0)))] = some (.next [some (s1,.fz h.d),some (.own,.fz (.str (tx (cs.take (cs.length - 1))))),some (.own,.dic (fF (bfs h.hands 301 [(cs.take (cs.length - 1),0)] 0)))]):=(Ai st1).trans st2
   simp only [BW,cn,bind_some,if_true,sb]
   exact g4
  ·rw [decide_eq_false hc] at cn
   refine ⟨cs,hz,le_refl _,by lia,?_⟩
   simp only [BW,cn,bind_some,false_eq_true,if_false]
theorem S5 (s1:Own) (h:Hs) (ok:h.Ok) (cs:List Nat) (hz:∀ c∈cs,c∈h.ls.map (·.1)) (hl:cs.length≤40) :
  ∃ cs' a1 a2,(∀ c∈cs',c∈h.ls.map (·.1))∧cs'.length≤cs.length∧(bfs h.hands 301 [(cs',0)] 0).length≤299∧Bi [(s1,.fz h.d),(.own,.fz (.str (tx cs)))] = some (.tup [.fz (.str (tx cs')),.dic (fF (bfs h.hands 301 [(cs',0)] 0))],[a1,a2]):=by
 obtain ⟨a1,a2,a3,e1⟩:=MY .own .own .own h ok cs hz hl
 obtain ⟨cs',g1,g2,g3,g4⟩:=QS (s1:=s1) ok 41 cs (by lia) hz hl
 refine ⟨cs',_,_,g1,g2,g3,AU (ρ:=[some (s1,.fz h.d),some (.own,.fz (.str (tx cs'))),none]) rfl ?_⟩
 show Cp [some (s1,.fz h.d),some (.own,.fz (.str (tx cs))),none] = _
 unfold Cp
 have st1:Ar 2 (Af AL (Aa (Ab 0) (Aa (Ab 1) (Aa (Ae (.int 300)) Ad)))) [some (s1,.fz h.d),some (.own,.fz (.str (tx cs))),none] = some (.next [some (s1,.fz h.d),some (.own,.fz (.str (tx (cs)))),some (.own,.dic (fF (bfs h.hands 301 [(cs,0)] 0)))]):=by
  have v:(Af AL (Aa (Ab 0) (Aa (Ab 1) (Aa (Ae (.int 300)) Ad)))) [some (s1,.fz h.d),some (.own,.fz (.str (tx cs))),none] = some (.val (.dic (fF (bfs h.hands 301 [(cs,0)] 0))),[some (s1,.fz h.d),some (.own,.fz (.str (tx cs))),none]):=call_of rfl rfl rfl e1 rfl
  exact Be v rfl
 refine (Ai st1).trans ((Ai g4).trans (BV ?_))
 rfl
theorem QX {u:List Nat} (p:Nat):Txt.slice (tx u) (some (p:Int)) (some ((p:Int) + 1)) = tx ((u.drop p).take 1):=by
 by_cases hp:p + 1≤u.length
 ·have:=QW (cs:=u) (a:=p) (b:=p + 1) (i:=(p:Int)) (j:=(p:Int) + 1) rfl (by lia) (by lia) hp
  rw [this,show p + 1 - p = 1 by lia]
 ·have hd:u.drop p = []:=List.drop_eq_nil_of_le (by lia)
  have e:Txt.slice (tx u) (some (p:Int)) (some ((p:Int) + 1)) = tx []:=by
   have hk:=Ba u
   have e0:PySem.Builtin.Str.strSliceIndices (some (p:Int)) (some ((p:Int) + 1)) 1 (tx u).length = []:=by
    have h0:¬ ((p:Int) < 0):=by lia
    have h1:¬ ((p:Int) + 1 < 0):=by lia
    simp only [PySem.Builtin.Str.strSliceIndices,sliceRange,h0,h1,show (1:Int) > 0 by decide,if_false,if_true,hk]
    rw [Int.min_eq_right (by lia),Int.min_eq_right (by lia)]
    simp
   unfold Txt.slice
   rw [e0]
   split
   ·rename_i z
    simp only [length_nil] at z
    have:u.length = 0:=by
     rw [hk] at z
     simp at z
     lia
    rw [length_eq_zero_iff.mp this]
   ·rfl
  rw [e,hd]
  rfl
theorem eq_str (a b:Str):eqD (.str a) (.str b) = decide (a = b):=by
 by_cases h:a = b
 ·subst h; simp [CY]
 ·simp [h,eqDs]
theorem Pl (u v:List Nat):eqD (.str (tx u)) (.str (tx v)) = decide (u = v):=by
 rw [eq_str]
 exact decide_eq_decide.mpr ⟨IW,fun h=>by rw [h]⟩
theorem QN {s1 s2:Own} {u v:List Nat} (hu:u.length≤40) (hv:v.length≤40) (hne:u≠v):∀ (n p:Nat),40 < n + p→u.take p = v.take p→∃ q:Nat,BW (AG (opM eqA (m2L (opM Ct (Aa (Ab 0) (Aa (Ab 2) (Aa (opM Az (m2L (Ab 2) (Ae (.int 1)))) Ad)))) (opM Ct (Aa (Ab 1) (Aa (Ab 2) (Aa (opM Az (m2L (Ab 2) (Ae (.int 1)))) Ad))))))) (Ru 2 (Ae (.int 1))) n [some (s1,.fz (.str (tx u))),some (s2,.fz (.str (tx v))),some (.own,.fz (.int (p:Int)))] = some (.next [some (s1,.fz (.str (tx u))),some (s2,.fz (.str (tx v))),some (.own,.fz (.int (q:Int)))]):=by
 intro n
 induction n with
 | zero =>
  intro p hp he
  rw [List.take_of_length_le (by lia),List.take_of_length_le (by lia)] at he
  exact absurd he hne
 | succ n ih =>
  intro p hp he
  have q1:=QX (u:=u) p
  have q2:=QX (u:=v) p
  have qe:=Pl ((u.drop p).take 1) ((v.drop p).take 1)
  have cn:(AG (opM eqA (m2L (opM Ct (Aa (Ab 0) (Aa (Ab 2) (Aa (opM Az (m2L (Ab 2) (Ae (.int 1)))) Ad)))) (opM Ct (Aa (Ab 1) (Aa (Ab 2) (Aa (opM Az (m2L (Ab 2) (Ae (.int 1)))) Ad))))))) [some (s1,.fz (.str (tx u))),some (s2,.fz (.str (tx v))),some (.own,.fz (.int (p:Int)))] = some (decide ((u.drop p).take 1 = (v.drop p).take 1),[some (s1,.fz (.str (tx u))),some (s2,.fz (.str (tx v))),some (.own,.fz (.int (p:Int)))]):=by
   rw [← qe,← q1,← q2]
   rfl
  by_cases hc:(u.drop p).take 1 = (v.drop p).take 1
  ·rw [decide_eq_true hc] at cn
   have sb:(Ru 2 (Ae (.int 1))) [some (s1,.fz (.str (tx u))),some (s2,.fz (.str (tx v))),some (.own,.fz (.int (p:Int)))] = some (.next [some (s1,.fz (.str (tx u))),some (s2,.fz (.str (tx v))),some (.own,.fz (.int ((p + 1:Nat):Int)))]):=rfl
   have he2:u.take (p + 1) = v.take (p + 1):=by
    rw [List.take_add,List.take_add,he,hc]
   obtain ⟨q,e⟩:=ih (p + 1) (by lia) he2
   refine ⟨q,?_⟩
   simp only [BW,cn,bind_some,if_true,sb]
   exact e
  ·rw [decide_eq_false hc] at cn
   refine ⟨p,?_⟩
   simp only [BW,cn,bind_some,false_eq_true,if_false]
theorem Jo (s1 s2:Own) {u v:List Nat} (hu:u.length≤40) (hv:v.length≤40):∃ d a1 a2,BK (.fz d) = decide (u = v)∧AV [(s1,.fz (.str (tx u))),(s2,.fz (.str (tx v)))] = some (.fz d,[a1,a2]):=by
 have qe:=Pl u v
 have cn:(AG (opM eqA (m2L (Ab 0) (Ab 1)))) [some (s1,.fz (.str (tx u))),some (s2,.fz (.str (tx v))),none] = some (decide (u = v),[some (s1,.fz (.str (tx u))),some (s2,.fz (.str (tx v))),none]):=by
  rw [← qe]
  rfl
 by_cases h:u = v
 ·rw [decide_eq_true h] at cn ⊢
  refine ⟨.non,_,_,rfl,AU (ρ:=[some (s1,.fz (.str (tx u))),some (s2,.fz (.str (tx v))),none]) rfl ?_⟩
  show BZ [some (s1,.fz (.str (tx u))),some (s2,.fz (.str (tx v))),none] = _
  unfold BZ
  exact KH ((Lo cn).trans rfl)
 ·rw [decide_eq_false h] at cn ⊢
  obtain ⟨q,e⟩:=QN (s1:=s1) (s2:=s2) hu hv h 41 0 (by lia) rfl
  refine ⟨.int (q:Int),_,_,rfl,AU (ρ:=[some (s1,.fz (.str (tx u))),some (s2,.fz (.str (tx v))),some (.own,.fz (.int (q:Int)))]) rfl ?_⟩
  show BZ [some (s1,.fz (.str (tx u))),some (s2,.fz (.str (tx v))),none] = _
  unfold BZ
  refine (Ai ((GV cn).trans rfl)).trans ((Ai (ρ1:=[some (s1,.fz (.str (tx u))),some (s2,.fz (.str (tx v))),some (.own,.fz (.int ((0:Nat):Int)))]) rfl).trans ((Ai e).trans rfl))
theorem Kb:∀ (ss ts:List Str),Cf (ss.map D.str) (ts.map D.str) = decide (ss = ts)
 | [],[]=>rfl
 | [],_ :: _=>by simp <;> rfl
 | _ :: _,[]=>by simp <;> rfl
 | a :: ss,c :: ts=>by
  rw [map_cons,map_cons,CfC,Kb ss ts,eq_str]
  by_cases h1:a = c <;> by_cases h2:ss = ts <;> simp [h1,h2]
theorem N2:∀ (n:Nat) (ss:List Str),F4 n (ss.map D.str) = true
 | _,[]=>rfl
 | n,s :: ss=>by
  rw [map_cons,F4,N2 n ss]
  cases n <;> rfl
theorem P8 {ss ts:List (List Nat)}:ss.map tx = ts.map tx↔ss = ts:=by
 constructor
 ·intro h
  induction ss generalizing ts with
  | nil=>cases ts with | nil=>rfl | cons _ _=>simp at h
  | cons s ss ih=>cases ts with
   | nil=>simp at h
   | cons t ts =>
    rw [map_cons,map_cons,List.cons.injEq] at h
    rw [IW h.1,ih h.2]
 ·intro h; rw [h]
noncomputable def sgT (h:Hs) (cs:List Nat):List (List Nat):=(Cu 0 h.n.toNat).map fun d=>sees h cs (nD d)
theorem Jq (h:Hs) (cs:List Nat):JZ h cs = ((sgT h cs).map tx).map D.str:=by
 simp only [JZ,sgT,map_map]
 rfl
theorem KI {h:Hs} {u v:List Nat}:sgT h u = sgT h v↔∀ d∈Cu 0 h.n.toNat,sees h u (nD d) = sees h v (nD d):=by
 unfold sgT
 rw [List.map_inj_left]
theorem RI (h:Hs) (u v:List Nat):Cf (JZ h u) (JZ h v) = decide (sgT h u = sgT h v):=by
 rw [Jq,Jq,Kb]
 exact decide_eq_decide.mpr P8
theorem eqL {ds es:List D} {b:Bool} (h1:F4 15 ds = true) (h2:Cf ds es = b):eqA [.lst (ds.map A.fz),.lst (es.map A.fz)] = some (.fz (.bl b)):=by
 simp only [on1,on2,on3,Ce,CD,Bk,BF,fzU,CA,CN,eqA,J.er,D3,map_some,bind_some,shB,h1,if_true,eqDl,h2]
theorem LY (s1 s2 s3:Own) (h:Hs) (ok:h.Ok) (u v:List Nat) (hz:Row h (tx u)) (hy:Row h (tx v)):∃ a1 a2 a3,DC [(s1,.fz h.d),(s2,.fz (.str (tx u))),(s3,.fz (.str (tx v)))] = some (.fz (.bl (decide (sgT h u = sgT h v))),[a1,a2,a3]):=by
 obtain ⟨a1,a2,e1⟩:=IK .own .own h ok (tx u) hz
 obtain ⟨b1,b2,e2⟩:=IK .own .own h ok (tx v) hy
 rw [Bo] at e1 e2
 have g1:=Te h u
 have g2:=RI h u v
 refine ⟨_,_,_,AU (ρ:=[some (s1,.fz h.d),some (s2,.fz (.str (tx u))),some (s3,.fz (.str (tx v)))]) rfl ?_⟩
 show Eb [some (s1,.fz h.d),some (s2,.fz (.str (tx u))),some (s3,.fz (.str (tx v)))] = _
 unfold Eb
 have p1:(Af Bz (Aa (Ab 0) (Aa (Ab 1) Ad))) [some (s1,.fz h.d),some (s2,.fz (.str (tx u))),some (s3,.fz (.str (tx v)))] = some (.val (.lst ((JZ h u).map A.fz)),[some (s1,.fz h.d),some (s2,.fz (.str (tx u))),some (s3,.fz (.str (tx v)))]):=call_of rfl rfl rfl e1 rfl
 have p2:(Af Bz (Aa (Ab 0) (Aa (Ab 2) Ad))) [some (s1,.fz h.d),some (s2,.fz (.str (tx u))),some (s3,.fz (.str (tx v)))] = some (.val (.lst ((JZ h v).map A.fz)),[some (s1,.fz h.d),some (s2,.fz (.str (tx u))),some (s3,.fz (.str (tx v)))]):=call_of rfl rfl rfl e2 rfl
 exact BV (BP (Dl p1 p2) rfl (eqL (by simpa only [shB] using g1) g2))
theorem SV (s1 s2 s3:Own) (h:Hs) (ok:h.Ok) (u v:List Nat) (hz:Row h (tx u)) (hy:Row h (tx v)):∃ a1 a2 a3,Em [(s1,.fz h.d),(s2,.fz (.str (tx u))),(s3,.fz (.str (tx v)))] = some (.fz (.bl (decide (sgT h u = sgT h v))),[a1,a2,a3]):=by
 have e1:=CL .own .own h ok (tx u) hz
 have e2:=CL .own .own h ok (tx v) hy
 obtain ⟨b1,b2,b3,e3⟩:=LY .own .own .own h ok u v hz hy
 refine ⟨_,_,_,AU (ρ:=[some (s1,.fz h.d),some (s2,.fz (.str (tx u))),some (s3,.fz (.str (tx v)))]) rfl ?_⟩
 show GO [some (s1,.fz h.d),some (s2,.fz (.str (tx u))),some (s3,.fz (.str (tx v)))] = _
 unfold GO
 exact (Ai (GR (call_of rfl rfl rfl e1 rfl))).trans ((Ai (GR (call_of rfl rfl rfl e2 rfl))).trans (BV (call_of rfl rfl rfl e3 rfl)))
theorem Pp {is:List Nat} {one:Bool} {b:MS} {I:Ro→Prop} {good:D→Prop} {R:A→Ro→Prop}:∀ (ds:List D) (ρ:Ro),I ρ → (∀ d∈ds,∀ ρ,I ρ → ∃ ρ1,HS is one d ρ = some ρ1∧((good d∧∃ ρ2,b ρ1 = some (.next ρ2)∧I ρ2)∨(¬ good d∧∃ a ρ2,b ρ1 = some (.ret a ρ2)∧R a ρ2)))→(¬ ∀ d∈ds,good d)→∃ a ρ2,forL is one b ds ρ = some (.ret a ρ2)∧R a ρ2:=by
 intro ds
 induction ds with
 | nil=>intro ρ _ _ h; exact absurd (fun d hd=>by simp at hd) h
 | cons d ds ih =>
  intro ρ hi st hn
  obtain ⟨ρ1,e1,q | q⟩:=st d (by simp) ρ hi
  ·obtain ⟨g,ρ2,e2,i2⟩:=q
   obtain ⟨a,ρ3,e3,r⟩:=ih ρ2 i2 (fun d' hd=>st d' (by simp [hd])) fun z=>hn fun d' hd=>by
    rcases mem_cons.mp hd with rfl | hd
    ·exact g
    ·exact z d' hd
   exact ⟨a,ρ3,by simp only [forL,e1,bind_some,e2]; exact e3,r⟩
  ·obtain ⟨g,a,ρ2,e2,r⟩:=q
   exact ⟨a,ρ2,by simp only [forL,e1,bind_some,e2],r⟩
theorem LX {s1 s2 s3:Own} {h:Hs} (ok:h.Ok) {u v:List Nat} (hz:Row h (tx u)) (hy:Row h (tx v)) (hu:u.length≤40) (hv:v.length≤40) (i:Int) {x4:Slot} (h4:pN x4) :
  (sees h u i = sees h v i∧∃ y4,pN y4∧(Ap (Ar 4 (Af AV (Aa (Af AB (Aa (Ab 0) (Aa (Ab 1) (Aa (Ab 3) Ad)))) (Aa (Af AB (Aa (Ab 0) (Aa (Ab 2) (Aa (Ab 3) Ad)))) Ad)))) (ifS (AG (opM nnA (m2L (Ab 4) (Ae .non)))) (retS (Fs (Aa (AW (Ab 3)) (Aa (AW (Ab 4)) Ad)))) AY)) [some (s1,.fz h.d),some (s2,.fz (.str (tx u))),some (s3,.fz (.str (tx v))),some (.own,.fz (.int i)),x4] = some (.next [some (s1,.fz h.d),some (s2,.fz (.str (tx u))),some (s3,.fz (.str (tx v))),some (.own,.fz (.int i)),y4]))∨(¬ sees h u i = sees h v i∧∃ a y4,BK a = false∧(Ap (Ar 4 (Af AV (Aa (Af AB (Aa (Ab 0) (Aa (Ab 1) (Aa (Ab 3) Ad)))) (Aa (Af AB (Aa (Ab 0) (Aa (Ab 2) (Aa (Ab 3) Ad)))) Ad)))) (ifS (AG (opM nnA (m2L (Ab 4) (Ae .non)))) (retS (Fs (Aa (AW (Ab 3)) (Aa (AW (Ab 4)) Ad)))) AY)) [some (s1,.fz h.d),some (s2,.fz (.str (tx u))),some (s3,.fz (.str (tx v))),some (.own,.fz (.int i)),x4] = some (.ret a [some (s1,.fz h.d),some (s2,.fz (.str (tx u))),some (s3,.fz (.str (tx v))),some (.own,.fz (.int i)),y4])):=by
 obtain ⟨a1,a2,a3,e1⟩:=G8 .own .own .own h ok (tx u) hz i
 obtain ⟨b1,b2,b3,e2⟩:=G8 .own .own .own h ok (tx v) hy i
 rw [Bo] at e1 e2
 have l1:(sees h u i).length≤40:=le_trans (List.length_filter_le _ _) hu
 have l2:(sees h v i).length≤40:=le_trans (List.length_filter_le _ _) hv
 obtain ⟨d,c1,c2,hd,e3⟩:=Jo .own .own l1 l2
 have st:Ar 4 (Af AV (Aa (Af AB (Aa (Ab 0) (Aa (Ab 1) (Aa (Ab 3) Ad)))) (Aa (Af AB (Aa (Ab 0) (Aa (Ab 2) (Aa (Ab 3) Ad)))) Ad))) [some (s1,.fz h.d),some (s2,.fz (.str (tx u))),some (s3,.fz (.str (tx v))),some (.own,.fz (.int i)),x4] = some (.next [some (s1,.fz h.d),some (s2,.fz (.str (tx u))),some (s3,.fz (.str (tx v))),some (.own,.fz (.int i)),some (.own,.fz d)]):=by
  have p1:(Af AB (Aa (Ab 0) (Aa (Ab 1) (Aa (Ab 3) Ad)))) [some (s1,.fz h.d),some (s2,.fz (.str (tx u))),some (s3,.fz (.str (tx v))),some (.own,.fz (.int i)),x4] = some (.val (.fz (.str (tx (sees h u i)))),[some (s1,.fz h.d),some (s2,.fz (.str (tx u))),some (s3,.fz (.str (tx v))),some (.own,.fz (.int i)),x4]):=call_of rfl rfl rfl e1 rfl
  have p2:(Af AB (Aa (Ab 0) (Aa (Ab 2) (Aa (Ab 3) Ad)))) [some (s1,.fz h.d),some (s2,.fz (.str (tx u))),some (s3,.fz (.str (tx v))),some (.own,.fz (.int i)),x4] = some (.val (.fz (.str (tx (sees h v i)))),[some (s1,.fz h.d),some (s2,.fz (.str (tx u))),some (s3,.fz (.str (tx v))),some (.own,.fz (.int i)),x4]):=call_of rfl rfl rfl e2 rfl
  have p3:(Af AV (Aa (Af AB (Aa (Ab 0) (Aa (Ab 1) (Aa (Ab 3) Ad)))) (Aa (Af AB (Aa (Ab 0) (Aa (Ab 2) (Aa (Ab 3) Ad)))) Ad))) [some (s1,.fz h.d),some (s2,.fz (.str (tx u))),some (s3,.fz (.str (tx v))),some (.own,.fz (.int i)),x4] = some (.val (.fz d),[some (s1,.fz h.d),some (s2,.fz (.str (tx u))),some (s3,.fz (.str (tx v))),some (.own,.fz (.int i)),x4]):=call_of (cons_of p1 (cons_of p2 (nil_of _))) rfl rfl e3 rfl
  rcases h4 with rfl | ⟨d4,rfl⟩ <;> exact Be p3 rfl
 have ct:(AG (opM nnA (m2L (Ab 4) (Ae .non)))) [some (s1,.fz h.d),some (s2,.fz (.str (tx u))),some (s3,.fz (.str (tx v))),some (.own,.fz (.int i)),some (.own,.fz d)] = some (!BK (.fz d),[some (s1,.fz h.d),some (s2,.fz (.str (tx u))),some (s3,.fz (.str (tx v))),some (.own,.fz (.int i)),some (.own,.fz d)]):=by
  rfl
 rw [hd] at ct
 by_cases e:sees h u i = sees h v i
 ·refine .inl ⟨e,some (.own,.fz d),.inr ⟨_,rfl⟩,?_⟩
  rw [decide_eq_true e] at ct
  exact (Ai st).trans ((GV ct).trans rfl)
 ·refine .inr ⟨e,.fz (.tup [.int i,d]),some (.own,.fz d),rfl,?_⟩
  rw [decide_eq_false e] at ct
  exact (Ai st).trans ((Lo ct).trans (BV (K0 rfl)))
theorem KG (s1 s2 s3:Own) (h:Hs) (ok:h.Ok) (u v:List Nat) (hz:Row h (tx u)) (hy:Row h (tx v)) (hu:u.length≤40) (hv:v.length≤40):∃ r a1 a2 a3,BK r = decide (sgT h u = sgT h v)∧Bv [(s1,.fz h.d),(s2,.fz (.str (tx u))),(s3,.fz (.str (tx v)))] = some (r,[a1,a2,a3]):=by
 have e1:=CL .own .own h ok (tx u) hz
 have e2:=CL .own .own h ok (tx v) hy
 have st1:EJ (Af AE (Aa (Ab 0) (Aa (Ab 1) Ad))) [some (s1,.fz h.d),some (s2,.fz (.str (tx u))),some (s3,.fz (.str (tx v))),none,none] = some (.next [some (s1,.fz h.d),some (s2,.fz (.str (tx u))),some (s3,.fz (.str (tx v))),none,none]):=GR (call_of rfl rfl rfl e1 rfl)
 have st2:EJ (Af AE (Aa (Ab 0) (Aa (Ab 2) Ad))) [some (s1,.fz h.d),some (s2,.fz (.str (tx u))),some (s3,.fz (.str (tx v))),none,none] = some (.next [some (s1,.fz h.d),some (s2,.fz (.str (tx u))),some (s3,.fz (.str (tx v))),none,none]):=GR (call_of rfl rfl rfl e2 rfl)
 have rg:Bt (opM ixA (m2L (Ab 0) (Ae (.int 0)))) [some (s1,.fz h.d),some (s2,.fz (.str (tx u))),some (s3,.fz (.str (tx v))),none,none] = some (Cu 0 h.n.toNat,none,[some (s1,.fz h.d),some (s2,.fz (.str (tx u))),some (s3,.fz (.str (tx v))),none,none]):=by
  exact Eu (n:=h.n) rfl (by have:=ok.n1; lia) (by have:=ok.n2; lia)
 by_cases ha:sgT h u = sgT h v
 ·have hs:=KI.mp ha
  obtain ⟨ρ',f1,f2⟩:=En (is:=[3]) (one:=true) (b:=(Ap (Ar 4 (Af AV (Aa (Af AB (Aa (Ab 0) (Aa (Ab 1) (Aa (Ab 3) Ad)))) (Aa (Af AB (Aa (Ab 0) (Aa (Ab 2) (Aa (Ab 3) Ad)))) Ad)))) (ifS (AG (opM nnA (m2L (Ab 4) (Ae .non)))) (retS (Fs (Aa (AW (Ab 3)) (Aa (AW (Ab 4)) Ad)))) AY))) (fun t ρ=>∃ (x3 x4:Slot),pN x3∧pN x4 ∧ ρ = [some (s1,.fz h.d),some (s2,.fz (.str (tx u))),some (s3,.fz (.str (tx v))),x3,x4]) rg ⟨none,none,.inl rfl,.inl rfl,rfl⟩ (fun t d ρ hd hI=>by
   obtain ⟨x3,x4,h3,h4,rfl⟩:=hI
   have hmem:=mem_of_getElem? hd
   obtain ⟨rfl,ht⟩:=GK hd
   rcases LX (s1:=s1) (s2:=s2) (s3:=s3) ok hz hy hu hv (t:Int) h4 with ⟨_,y4,k4,q⟩ | ⟨z,_⟩
   ·refine ⟨_,_,?_,.inl q,some (.own,.fz (.int (t:Int))),y4,.inr ⟨_,rfl⟩,k4,rfl⟩
    rcases h3 with rfl | ⟨d,rfl⟩ <;> rfl
   ·exact absurd (hs _ hmem) z)
  obtain ⟨x3,x4,_,_,rfl⟩:=f2
  rw [decide_eq_true ha]
  refine ⟨.fz .non,_,_,_,rfl,AU (ρ:=[some (s1,.fz h.d),some (s2,.fz (.str (tx u))),some (s3,.fz (.str (tx v))),x3,x4]) rfl ?_⟩
  show B7 [some (s1,.fz h.d),some (s2,.fz (.str (tx u))),some (s3,.fz (.str (tx v))),none,none] = _
  unfold B7
  exact (Ai st1).trans ((Ai st2).trans ((Ai f1).trans rfl))
 ·obtain ⟨a,ρ2,f1,hn,x3,x4,rfl⟩:=Pp (is:=[3]) (one:=true) (b:=(Ap (Ar 4 (Af AV (Aa (Af AB (Aa (Ab 0) (Aa (Ab 1) (Aa (Ab 3) Ad)))) (Aa (Af AB (Aa (Ab 0) (Aa (Ab 2) (Aa (Ab 3) Ad)))) Ad)))) (ifS (AG (opM nnA (m2L (Ab 4) (Ae .non)))) (retS (Fs (Aa (AW (Ab 3)) (Aa (AW (Ab 4)) Ad)))) AY))) (I:=fun ρ=>∃ (x3 x4:Slot),pN x3∧pN x4 ∧ ρ = [some (s1,.fz h.d),some (s2,.fz (.str (tx u))),some (s3,.fz (.str (tx v))),x3,x4]) (good:=fun d=>sees h u (nD d) = sees h v (nD d)) (R:=fun a ρ=>BK a = false∧∃ x3 x4,ρ = [some (s1,.fz h.d),some (s2,.fz (.str (tx u))),some (s3,.fz (.str (tx v))),x3,x4]) (Cu 0 h.n.toNat) [some (s1,.fz h.d),some (s2,.fz (.str (tx u))),some (s3,.fz (.str (tx v))),none,none] ⟨none,none,.inl rfl,.inl rfl,rfl⟩ (fun d hd ρ hI=>by
   obtain ⟨x3,x4,h3,h4,rfl⟩:=hI
   obtain ⟨t,hd⟩:=List.mem_iff_getElem?.mp hd
   obtain ⟨rfl,ht⟩:=GK hd
   refine ⟨[some (s1,.fz h.d),some (s2,.fz (.str (tx u))),some (s3,.fz (.str (tx v))),some (.own,.fz (.int (t:Int))),x4],by rcases h3 with rfl | ⟨d,rfl⟩ <;> rfl,?_⟩
   rcases LX (s1:=s1) (s2:=s2) (s3:=s3) ok hz hy hu hv (t:Int) h4 with ⟨z,y4,k4,q⟩ | ⟨z,a,y4,k,q⟩
   ·exact .inl ⟨z,_,q,some (.own,.fz (.int (t:Int))),y4,.inr ⟨_,rfl⟩,k4,rfl⟩
   ·exact .inr ⟨z,a,_,q,k,_,_,rfl⟩) fun z=>ha (KI.mpr z)
  rw [decide_eq_false ha]
  refine ⟨a,_,_,_,hn,AU (ρ:=[some (s1,.fz h.d),some (s2,.fz (.str (tx u))),some (s3,.fz (.str (tx v))),x3,x4]) rfl ?_⟩
  show B7 [some (s1,.fz h.d),some (s2,.fz (.str (tx u))),some (s3,.fz (.str (tx v))),none,none] = _
  unfold B7
  refine (Ai st1).trans ((Ai st2).trans (KH ?_))
  simp only [GU,rg,bind_some,G2,f1,map_some,HK,Hj]
theorem S8 (s1 s2:Own) (a b:Bool):∃ a1 a2,B3 [(s1,.fz (.bl a)),(s2,.fz (.bl b))] = some (.fz (.bl (a == b)),[a1,a2]):=by
 refine ⟨_,_,AU (ρ:=[some (s1,.fz (.bl a)),some (s2,.fz (.bl b))]) rfl ?_⟩
 show DO [some (s1,.fz (.bl a)),some (s2,.fz (.bl b))] = _
 unfold DO
 refine BV ?_
 cases a <;> cases b <;> rfl
noncomputable abbrev eR (s1 s2 s3:Own) (h:Hs) (cs:List Nat) (td:Td) (os:List Nat) (x:Slot):Ro:=[some (s1,.fz h.d),some (s2,.fz (.str (tx cs))),some (s3,.dic (fF td)),some (.own,.fz (.str (tx os))),x]
theorem N6 (td:Td):Dp (tD td) = some (td.map fun q=>tx q.1):=by
 have:tD td = (td.map fun q=>tx q.1).map D.str:=by simp [tD]
 rw [this]
 generalize (td.map fun q=>tx q.1) = ss
 induction ss with
 | nil=>rfl
 | cons z ss ih=>simp only [map_cons,Dp,ih,map_some]
theorem NC (td:Td):((fF td).map fun kv=>kD kv.1) = tD td:=by
 simp only [fF,tD,map_map]
 exact List.map_congr_left fun q _=>rfl
theorem L6 {td:Td} (hk:∀ q∈td,q.1.length≤40):((fF td).all fun kv=>kSh kv.1) = true:=by
 rw [all_eq_true]
 intro kv hkv
 obtain ⟨q,hq,rfl⟩:=mem_map.mp hkv
 have hlim:1000≤LIM:=by decide
 have:=hk q hq
 simp only [kSh,decide_eq_true_iff,Ba]
 lia
theorem Ql {f:List A→Option A} {m:ME} {ρ ρ1:Ro} {a c:A} (h:m ρ = some (.val a,ρ1)) (hf:f [a] = some c):opM f (Aa m Ad) ρ = some (.val c,ρ1):=by
 simp only [opM,Aa,Ad,h,bind_some,map_some,peeks,peek,hf]
theorem MK {f:List A→Option A} {m1 m2:ME} {ρ ρ1 ρ2:Ro} {a b c:A} (h1:m1 ρ = some (.val a,ρ1)) (h2:m2 ρ1 = some (.val b,ρ2)) (hf:f [a,b] = some c):opM f (m2L m1 m2) ρ = some (.val c,ρ2):=by
 simp only [opM,m2L,Aa,Ad,h1,h2,bind_some,map_some,peeks,peek,hf]
theorem Nn {m1 m2:ME} {ρ ρ1 ρ2:Ro} {a b:A} {d e:D} {x:Bool} (h1:m1 ρ = some (.val a,ρ1)) (h2:m2 ρ1 = some (.val b,ρ2)) (ha:er a = some d) (hb:er b = some e) (hs:shB 16 d = true) (hx:eqD d e = x):opM eqA (m2L m1 m2) ρ = some (.val (.fz (.bl x)),ρ2):=
 MK h1 h2 (by simp only [on1,on2,on3,Ce,CD,Bk,BF,fzU,CA,CN,eqA,ha,hb,bind_some,hs,if_true,hx])
theorem Lz {m1 m2:ME} {ρ ρ1 ρ2:Ro} {a b:A} {d e:D} {x:Bool} (h1:m1 ρ = some (.val a,ρ1)) (h2:m2 ρ1 = some (.val b,ρ2)) (ha:er a = some d) (hb:er b = some e) (hs:shB 16 d = true) (hx:eqD d e = x):opM neA (m2L m1 m2) ρ = some (.val (.fz (.bl (!x))),ρ2):=
 MK h1 h2 (by simp only [on1,on2,on3,Ce,CD,Bk,BF,fzU,CA,CN,neA,ha,hb,bind_some,hs,if_true,hx])
theorem Xe {a b:MT} {ρ:Ro} {x y:Bool} (h1:a ρ = some (x,ρ)) (h2:b ρ = some (y,ρ)):orT a b ρ = some (x || y,ρ):=by
 cases x <;> simp [orT,h1,h2]
theorem S4 (s1 s2 s3:Own) (h:Hs) (ok:h.Ok) (cs os low:List Nat) (td:Td) (b:Bool) (hz:Row h (tx cs)) (hy:Row h (tx os)) (hc:cs.length≤40) (ho:os.length≤40) (hk:∀ q∈td,q.1.length≤40) (hne:td≠[])
  (b1:decide (os∈td.map (·.1)) = b) (b2:decide (sgT h cs = sgT h os) = b) (b3:decide (lr h.hands 40 os = low) = b) (b4:decide (stp h.hands 40 os = stp h.hands 40 cs) = b) (hm:KU (td.map fun q=>tx q.1) = tx low) :
  ∃ a1 a2 a4,BG [(s1,.fz h.d),(s2,.fz (.str (tx cs))),(s3,.dic (fF td)),(.own,.fz (.str (tx os)))] = some (.fz (.bl true),[a1,a2,.dic (fF td),a4]):=by
 have vd:=Rl td os
 rw [b1] at vd
 have st4:Ar 4 (opM (J9 false) (m2L (Ab 3) (Ab 2))) (eR s1 s2 s3 h cs td os none) = some (.next (eR s1 s2 s3 h cs td os (some (.own,.fz (.bl b))))):=by
  clear hz hy hc ho hk hne b1 b2 b3 b4 hm ok
  simp only [eR]
  subst vd
  generalize hyv:Ez (fF td) (.inr (tx os)) = y
  generalize fF td = F at hyv ⊢
  generalize tx cs = z
  generalize tx os = z3 at hyv ⊢
  cases y <;> walk_at "eo" <;> rfl
 obtain ⟨c1,c2,c3,eA⟩:=SV .own .own .own h ok cs os hz hy
 rw [b2] at eA
 obtain ⟨d1,d2,eT⟩:=S8 .own .own b b
 rw [beq_self_eq_true] at eT
 obtain ⟨r,f1,f2,f3,hr,eS⟩:=KG .own .own .own h ok cs os hz hy hc ho
 rw [b2] at hr
 have ca:(Dm (AG (Af B3 (Aa (Af Em (Aa (Ab 0) (Aa (Ab 1) (Aa (Ab 3) Ad)))) (Aa (Ab 4) Ad))))) (eR s1 s2 s3 h cs td os (some (.own,.fz (.bl b)))) = some (false,(eR s1 s2 s3 h cs td os (some (.own,.fz (.bl b))))):=by
  clear hz hy hc ho hk hne b1 b2 b3 b4 hm ok vd st4 eS hr
  simp only [eR]
  generalize Em = Φ at eA ⊢
  generalize B3 = Ψ at eT ⊢
  generalize fF td = F
  generalize tx cs = z at eA ⊢
  generalize tx os = z3 at eA ⊢
  walk_at "eo"
 have er':=CY (.bl b)
 have vS:(Af Bv (Aa (Ab 0) (Aa (Ab 1) (Aa (Ab 3) Ad)))) (eR s1 s2 s3 h cs td os (some (.own,.fz (.bl b)))) = some (.val r,(eR s1 s2 s3 h cs td os (some (.own,.fz (.bl b))))):=by
  clear hz hy hc ho hk hne b1 b2 b3 b4 hm ok vd st4 eA eT ca hr er'
  simp only [eR]
  generalize Bv = Φ at eS ⊢
  generalize fF td = F
  generalize tx cs = z at eS ⊢
  generalize tx os = z3 at eS ⊢
  walk_at "eo"
 have vN:(opM PB (m2L (Af Bv (Aa (Ab 0) (Aa (Ab 1) (Aa (Ab 3) Ad)))) (Ae .non))) (eR s1 s2 s3 h cs td os (some (.own,.fz (.bl b)))) = some (.val (.fz (.bl b)),(eR s1 s2 s3 h cs td os (some (.own,.fz (.bl b))))):=by
  exact MK vS (b:=.fz .non) rfl (by subst hr; rfl)
 have cb:(AG (opM neA (m2L (opM PB (m2L (Af Bv (Aa (Ab 0) (Aa (Ab 1) (Aa (Ab 3) Ad)))) (Ae .non))) (Ab 4)))) (eR s1 s2 s3 h cs td os (some (.own,.fz (.bl b)))) = some (false,(eR s1 s2 s3 h cs td os (some (.own,.fz (.bl b))))):=by
  exact DY (Lz vN (b:=.fz (.bl b)) rfl rfl rfl rfl er')
 have co:=Xe ca cb
 obtain ⟨g1,g2,eL⟩:=S2 .own h ok os hy.2 ho
 have kf:=NC td
 have sf:=L6 hk
 have stT:=N6 td
 have vL:(opM Ff (Aa (Ab 2) Ad)) (eR s1 s2 s3 h cs td os (some (.own,.fz (.bl b)))) = some (.val (.lst ((tD td).map A.fz)),(eR s1 s2 s3 h cs td os (some (.own,.fz (.bl b))))):=by
  clear hz hy hc ho hk hne b1 b2 b3 b4 hm ok vd st4 eA eT ca cb co eL eS hr er' stT vS vN
  simp only [eR]
  generalize fF td = F at kf sf ⊢
  generalize tD td = T at kf ⊢
  generalize tx cs = z
  generalize tx os = z3
  subst kf
  simp only [on1,on2,on3,Ce,CD,Bk,BF,fzU,CA,CN,opM,Aa,Ad,Ab,bind_some,map_some,peeks,peek,Ff,sf,if_true,getElem?_cons_zero,getElem?_cons_succ]
 have hn0:(td.map fun q=>tx q.1).isEmpty = false:=by
  cases td with
  | nil=>exact absurd rfl hne
  | cons _ _=>rfl
 have vM:(opM Je (Aa (opM Ff (Aa (Ab 2) Ad)) Ad)) (eR s1 s2 s3 h cs td os (some (.own,.fz (.bl b)))) = some (.val (.fz (.str (tx low))),(eR s1 s2 s3 h cs td os (some (.own,.fz (.bl b))))):=by
  exact Ql vL (by simp only [on1,on2,on3,Ce,CD,Bk,BF,fzU,CA,CN,Je,C2,BS,stT,bind_some,hn0,false_eq_true,if_false,hm])
 have el:=Pl (lr h.hands 40 os) low
 rw [b3] at el
 have c2':(AG (opM neA (m2L (opM eqA (m2L (Af BD (Aa (Ab 0) (Aa (Ab 3) Ad))) (opM Je (Aa (opM Ff (Aa (Ab 2) Ad)) Ad)))) (Ab 4)))) (eR s1 s2 s3 h cs td os (some (.own,.fz (.bl b)))) = some (false,(eR s1 s2 s3 h cs td os (some (.own,.fz (.bl b))))):=by
  have vl:(Af BD (Aa (Ab 0) (Aa (Ab 3) Ad))) (eR s1 s2 s3 h cs td os (some (.own,.fz (.bl b)))) = some (.val (.fz (.str (tx (lr h.hands 40 os)))),(eR s1 s2 s3 h cs td os (some (.own,.fz (.bl b))))):=by
   clear hz hy hc ho hk hne b1 b2 b3 b4 hm ok vd st4 eA eT ca cb co eS hr er' vS vN stT vL vM kf sf hn0 el
   simp only [eR]
   generalize BD = Φ at eL ⊢
   generalize tx (lr h.hands 40 os) = w at eL ⊢
   generalize fF td = F
   generalize tx cs = z
   generalize tx os = z3 at eL ⊢
   walk_at "eo"
  have vq:(opM eqA (m2L (Af BD (Aa (Ab 0) (Aa (Ab 3) Ad))) (opM Je (Aa (opM Ff (Aa (Ab 2) Ad)) Ad)))) (eR s1 s2 s3 h cs td os (some (.own,.fz (.bl b)))) = some (.val (.fz (.bl b)),(eR s1 s2 s3 h cs td os (some (.own,.fz (.bl b))))):=by
   exact Nn vl vM rfl rfl rfl el
  exact DY (Lz vq (b:=.fz (.bl b)) rfl rfl rfl rfl er')
 obtain ⟨p1,p2,eP⟩:=N0 .own h ok os hy.2 ho
 obtain ⟨q1,q2,eQ⟩:=N0 .own h ok cs hz.2 hc
 have v1:(Af BJ (Aa (Ab 0) (Aa (Ab 3) Ad))) (eR s1 s2 s3 h cs td os (some (.own,.fz (.bl b)))) = some (.val (.lst ((tsD (stp h.hands 40 os)).map A.fz)),(eR s1 s2 s3 h cs td os (some (.own,.fz (.bl b))))):=by
  clear hz hy hc ho hk hne b1 b2 b3 b4 hm ok vd st4 eA eT ca cb co eS hr er' vS vN stT vL vM kf sf hn0 el c2' eL eQ
  simp only [eR]
  generalize BJ = Φ at eP ⊢
  generalize tsD (stp h.hands 40 os) = w at eP ⊢
  generalize fF td = F
  generalize tx cs = z
  generalize tx os = z3 at eP ⊢
  walk_at "eo"
 have v2:(Af BJ (Aa (Ab 0) (Aa (Ab 1) Ad))) (eR s1 s2 s3 h cs td os (some (.own,.fz (.bl b)))) = some (.val (.lst ((tsD (stp h.hands 40 cs)).map A.fz)),(eR s1 s2 s3 h cs td os (some (.own,.fz (.bl b))))):=by
  clear hz hy hc ho hk hne b1 b2 b3 b4 hm ok vd st4 eA eT ca cb co eS hr er' vS vN stT vL vM kf sf hn0 el c2' eL eP v1
  simp only [eR]
  generalize BJ = Φ at eQ ⊢
  generalize tsD (stp h.hands 40 cs) = w at eQ ⊢
  generalize fF td = F
  generalize tx cs = z at eQ ⊢
  generalize tx os = z3
  walk_at "eo"
 have es:∀ ss:List (List Nat),tsD ss = (ss.map tx).map D.str:=fun ss=>by simp [tsD]
 have ee:Cf (tsD (stp h.hands 40 os)) (tsD (stp h.hands 40 cs)) = b:=by
  rw [es,es,Kb,← b4]
  exact decide_eq_decide.mpr P8
 have sh:F4 15 (tsD (stp h.hands 40 os)) = true:=by rw [es]; exact N2 _ _
 have v3:(opM eqA (m2L (Af BJ (Aa (Ab 0) (Aa (Ab 3) Ad))) (Af BJ (Aa (Ab 0) (Aa (Ab 1) Ad))))) (eR s1 s2 s3 h cs td os (some (.own,.fz (.bl b)))) = some (.val (.fz (.bl b)),(eR s1 s2 s3 h cs td os (some (.own,.fz (.bl b))))):=by
  exact Nn v1 v2 (d:=.lst (tsD (stp h.hands 40 os))) (e:=.lst (tsD (stp h.hands 40 cs))) (by simp only [J.er,D3,map_some]) (by simp only [J.er,D3,map_some]) (by simp only [shB]; exact sh) (by rw [eqDl]; exact ee)
 have v4:(opM eqA (m2L (opM eqA (m2L (Af BJ (Aa (Ab 0) (Aa (Ab 3) Ad))) (Af BJ (Aa (Ab 0) (Aa (Ab 1) Ad))))) (Ab 4))) (eR s1 s2 s3 h cs td os (some (.own,.fz (.bl b)))) = some (.val (.fz (.bl true)),(eR s1 s2 s3 h cs td os (some (.own,.fz (.bl b))))):=by
  exact Nn v3 (b:=.fz (.bl b)) rfl rfl rfl rfl er'
 refine ⟨_,_,_,AU (ρ:=(eR s1 s2 s3 h cs td os (some (.own,.fz (.bl b))))) rfl ?_⟩
 show DN (eR s1 s2 s3 h cs td os none) = _
 unfold DN
 exact (Ai st4).trans ((Ai ((GV co).trans rfl)).trans ((Ai ((GV c2').trans rfl)).trans (BV v4)))
theorem WA {m:ME} {is:List Nat} {ρ ρ1 ρ2:Ro} {as:List A} (h:m ρ = some (.val (.tup as),ρ1)) (h2:CM is as ρ1 = some ρ2):K1 is m ρ = some (.next ρ2):=by simp [K1,h,keep,ET,h2]
noncomputable abbrev eL (ns:List Int) (h:Hs) (as:List A) (cs:List Nat) (td:Td) (low:List Nat) (tb:Td) (x8 x9 x10:Slot):Ro:=[some (.ro,.scr ns),some (.own,.fz h.d),some (.own,.lst as),oS cs,some (.own,.dic (fF td)),some (.own,.lst ((tD td).map A.fz)),oS low,some (.own,.dic (fF tb)),x8,x9,x10]
theorem Xs {ns:List Int} {h:Hs} (ok:h.Ok) {n:Nat} {as:List A} (hb:Bag n as) (hn:n≤100000) (d0:D):∃ c as',c∈h.ls.map (·.1)∧Bag (n + 1) as'∧(opM ixA (m2L (opM ixA (m2L (opM ixA (m2L (Ab 2) (Ae (.int 1)))) (Af Ag (Aa (Ab 3) (Aa (opM Bs (Aa (opM ixA (m2L (Ab 2) (Ae (.int 1)))) Ad)) Ad))))) (Ae (.int 0)))) (own d0 :: [some (.ro,.scr ns),some (.own,.fz h.d),some (.own,.lst as),none,none,none,none,none,none,none,none]) = some (.val (.fz (chD c)),own d0 :: [some (.ro,.scr ns),some (.own,.fz h.d),some (.own,.lst as'),none,none,none,none,none,none,none,none]):=by
 have l1:=ok.l1
 have l2:=ok.l2
 have lm:(h.ls.map ld).length = h.ls.length:=length_map ..
 obtain ⟨d,as',g1,g2,b1,t1⟩:=Dx hb (by lia) ((h.ls.map ld).length:Int) (by lia) (by lia)
 have hd:d.toNat < h.ls.length:=by lia
 have e7:=BH (xs:=h.ls.map ld) (i:=d) (k:=d.toNat) (by lia) (by simpa using hd)
 simp only [getElem_map] at e7
 have e8:ld (h.ls[d.toNat]) = .tup [.str ⟨#[(h.ls[d.toNat]).1]⟩,.lst (iL (h.ls[d.toNat]).2)]:=rfl
 rw [e8] at e7
 refine ⟨(h.ls[d.toNat]).1,as',mem_map.mpr ⟨_,getElem_mem hd,rfl⟩,b1,?_⟩
 have w2:(Af Ag (Aa (Ab 3) (Aa (opM Bs (Aa (opM ixA (m2L (Ab 2) (Ae (.int 1)))) Ad)) Ad))) (own d0 :: [some (.ro,.scr ns),some (.own,.fz h.d),some (.own,.lst as),none,none,none,none,none,none,none,none]) = some (.val (.fz (.int d)),own d0 :: [some (.ro,.scr ns),some (.own,.fz h.d),some (.own,.lst as'),none,none,none,none,none,none,none,none]):=call_of rfl rfl rfl t1 rfl
 have w3:(opM ixA (m2L (opM ixA (m2L (Ab 2) (Ae (.int 1)))) (Af Ag (Aa (Ab 3) (Aa (opM Bs (Aa (opM ixA (m2L (Ab 2) (Ae (.int 1)))) Ad)) Ad))))) (own d0 :: [some (.ro,.scr ns),some (.own,.fz h.d),some (.own,.lst as),none,none,none,none,none,none,none,none]) = some (.val (.fz (.tup [.str ⟨#[(h.ls[d.toNat]).1]⟩,.lst (iL (h.ls[d.toNat]).2)])),own d0 :: [some (.ro,.scr ns),some (.own,.fz h.d),some (.own,.lst as'),none,none,none,none,none,none,none,none]):=BP (Dl (r1:=.val (.fz (.lst (h.ls.map ld)))) rfl w2) rfl (ixF e7)
 exact BP (Dl (r2:=.val (.fz (.int 0))) w3 rfl) rfl rfl
theorem V3 {ns:List Int} {h:Hs} (ok:h.Ok):∀ (ds:List D) (n:Nat) (as:List A),Bag n as→n + ds.length≤100000→∃ (cs:List Nat) (as':List A),cs.length = ds.length∧(∀ c∈cs,c∈h.ls.map (·.1))∧Bag (n + ds.length) as'∧DL 0 D0 (opM ixA (m2L (opM ixA (m2L (opM ixA (m2L (Ab 2) (Ae (.int 1)))) (Af Ag (Aa (Ab 3) (Aa (opM Bs (Aa (opM ixA (m2L (Ab 2) (Ae (.int 1)))) Ad)) Ad))))) (Ae (.int 0)))) ds [some (.ro,.scr ns),some (.own,.fz h.d),some (.own,.lst as),none,none,none,none,none,none,none,none] = some (cs.map chD,[some (.ro,.scr ns),some (.own,.fz h.d),some (.own,.lst as'),none,none,none,none,none,none,none,none]):=by
 intro ds
 induction ds with
 | nil=>intro n as hb hn; exact ⟨[],as,rfl,by simp,hb,rfl⟩
 | cons d ds ih =>
  intro n as hb hn
  simp only [length_cons] at hn
  obtain ⟨c,as1,hc,b1,e1⟩:=Xs (ns:=ns) ok hb (by lia) d
  obtain ⟨cs,as2,hl,hz,b2,e2⟩:=ih (n + 1) as1 b1 (by lia)
  refine ⟨c :: cs,as2,by simp [hl],fun x hx=>?_,b2.mono (by simp only [length_cons]; lia),?_⟩
  ·rcases mem_cons.mp hx with rfl | hx
   ·exact hc
   ·exact hz x hx
  ·simp only [DL,MP,bind_some,map_cons,map_nil,cons_append,nil_append,D0,if_true,e1,share,er,map_some,length_cons,length_nil,List.drop_succ_cons,List.drop_zero]
   rw [e2]
   rfl
theorem Pm {h:Hs} (ok:h.Ok) {c:Nat} (hc:c∈h.ls.map (·.1)) {x:Int} (hx:x∈h.hands c):0≤x∧x < h.n:=by
 obtain ⟨p,hp,rfl⟩:=mem_map.mp hc
 rw [Gn ok hp] at hx
 exact (ok.hs p hp).2.2 x hx
theorem Tc {h:Hs} (ok:h.Ok) {u v:List Nat} (hu:∀ c∈u,c∈h.ls.map (·.1)) (hv:∀ c∈v,c∈h.ls.map (·.1)):sgT h u = sgT h v↔∀ x,seen h.hands x u = seen h.hands x v:=by
 rw [KI]
 constructor
 ·intro z x
  by_cases hx:0≤x∧x < h.n
  ·have hm:D.int x∈Cu 0 h.n.toNat:=by
    simp only [Cu,mem_map,mem_range]
    exact ⟨x.toNat,by lia,by rw [show (0:Int) + (x.toNat:Int) = x by lia]⟩
   exact z _ hm
  ·have nil:∀ w:List Nat,(∀ c∈w,c∈h.ls.map (·.1))→seen h.hands x w = []:=fun w hw=>by
    rw [seen,List.filter_eq_nil_iff]
    intro c hc q
    exact hx (Pm ok (hw c hc) (by simpa using q))
   rw [nil u hu,nil v hv]
 ·intro z d _
  exact z (nD d)
structure Good (h:Hs) (cs low:List Nat) (td:Td):Prop where
 zc:∀ c∈cs,c∈h.ls.map (·.1)
 lc:cs.length≤30
 el:low = lr h.hands 40 cs
 etd:td = (bfs h.hands 301 [(cs,0)] 0)
 ln:td.length≤299
theorem Good.nz {h:Hs} (ok:h.Ok) {cs:List Nat} (hz:∀ c∈cs,c∈h.ls.map (·.1)):∀ d∈cs,h.hands d≠[]:=fun d hd=>Gp ok (hz d hd)
theorem Good.al {h:Hs} (ok:h.Ok) {cs low:List Nat} {td:Td} (g:Good h cs low td):Alike h.hands 40 low cs:=⟨by have:=g.lc; lia,Good.nz ok g.zc,g.el.symm⟩
theorem Good.mem {h:Hs} (ok:h.Ok) {cs low:List Nat} {td:Td} (g:Good h cs low td) {z:List Nat}:z∈td.map (·.1)↔Alike h.hands 40 low z:=by
 have:=Lk (g.al ok) (by rw [← g.etd]; exact g.ln) z
 rw [← g.etd] at this
 exact this
theorem Good.perm {h:Hs} {cs low:List Nat} {td:Td} (g:Good h cs low td) {z:List Nat} (a:Alike h.hands 40 low z):z.Perm cs:=by
 have p1:=Kh (f:=h.hands) 40 z a.1
 have p2:=Kh (f:=h.hands) 40 cs (by have:=g.lc; lia)
 rw [a.2.2] at p1
 rw [← g.el] at p2
 exact p1.symm.trans p2
theorem Good.low {h:Hs} (ok:h.Ok) {cs low:List Nat} {td:Td} (g:Good h cs low td):Alike h.hands 40 low low:=by
 have:=W3 (f:=h.hands) (n:=40) (u:=cs) (by have:=g.lc; lia) (Good.nz ok g.zc)
 rw [← g.el] at this
 exact this
theorem Good.least {h:Hs} (ok:h.Ok) {cs low:List Nat} {td:Td} (g:Good h cs low td):KU (td.map fun q=>tx q.1) = tx low:=by
 have hin:=(g.mem ok).mpr (g.low ok)
 have hmem:∀ z,z∈(td.map fun q=>tx q.1)↔∃ w,w∈td.map (·.1)∧tx w = z:=fun z=>by simp [mem_map]
 have hne:(td.map fun q=>tx q.1)≠[]:=fun z=>by
  obtain ⟨q,hq,_⟩:=mem_map.mp hin
  rw [List.map_eq_nil_iff] at z
  rw [z] at hq
  simp at hq
 obtain ⟨m,hm,em⟩:=(hmem _).mp (Me hne)
 have h1:=TJ (tx low) ((hmem _).mpr ⟨low,hin,rfl⟩)
 rw [← em] at h1 ⊢
 rw [Bo,Bo] at h1
 have am:=(g.mem ok).mp hm
 have h2:=U5 (f:=h.hands) 40 m am.1
 rw [am.2.2] at h2
 rw [List.le_antisymm (as:=m) (bs:=low) h1 h2]
theorem Good.far {h:Hs} (ok:h.Ok) {cs low:List Nat} {td:Td} (g:Good h cs low td) {z:List Nat} (hz:z∈td.map (·.1)):Ez (fF (bfs h.hands 301 [(low,0)] 0)) (.inr (tx z)) = some (.int ((exs h.hands 40 0 z).length:Int)):=by
 have a:=(g.mem ok).mp hz
 have hf:=Px (g.al ok) (g.low ok) (by rw [← g.etd]; exact g.ln) a
 rw [Hy 40 z 0 a.1 a.2.1]
 exact JR (RO (g.low ok)).1 hf
theorem LW {h:Hs} (ok:h.Ok) {cs low:List Nat} {td:Td} (g:Good h cs low td) {os:List Nat} (hz:∀ c∈os,c∈h.ls.map (·.1)) (hl:os.length≤40) :
  decide (os∈td.map (·.1)) = decide (lr h.hands 40 os = low)∧decide (sgT h cs = sgT h os) = decide (lr h.hands 40 os = low)∧decide (stp h.hands 40 os = stp h.hands 40 cs) = decide (lr h.hands 40 os = low):=by
 have lc:cs.length≤40:=by have:=g.lc; lia
 refine ⟨decide_eq_decide.mpr ?_,decide_eq_decide.mpr ?_,decide_eq_decide.mpr ?_⟩
 ·rw [g.mem ok]
  exact ⟨fun a=>a.2.2,fun e=>⟨hl,Good.nz ok hz,e⟩⟩
 ·rw [Tc ok g.zc hz,← NF lc hl (Good.nz ok g.zc) (Good.nz ok hz),g.el]
  exact ⟨fun e=>e.symm,fun e=>e.symm⟩
 ·rw [← U6 hl lc (Good.nz ok hz) (Good.nz ok g.zc),g.el]
noncomputable def cX:MS:=(ifS (AG (opM neA (m2L (opM Bs (Aa (Af BR (Aa (Ab 1) (Aa (Ab 9) Ad))) Ad)) (opM EX (m2L (Ab 7) (Ab 9)))))) (retS (Ae (.bl false))) AY)
noncomputable def cM:MS:=(ifS (AG (opM eqA (m2L (opM Ip (m2L (Ab 8) (Ae (.int 2)))) (Ae (.int 1))))) (Ap (Ar 10 (Af Ag (Aa (Ab 2) (Aa (opM Az (m2L (opM Bs (Aa (Ab 9) Ad)) (Ae (.int 1)))) Ad)))) (Ar 9 (opM Az (m2L (opM Az (m2L (opM DE (m2L (Ab 9) (Ab 10))) (opM ixA (m2L (opM ixA (m2L (opM ixA (m2L (Ab 1) (Ae (.int 1)))) (Af Ag (Aa (Ab 2) (Aa (opM Bs (Aa (opM ixA (m2L (Ab 1) (Ae (.int 1)))) Ad)) Ad))))) (Ae (.int 0)))))) (opM Dn (m2L (Ab 9) (opM Az (m2L (Ab 10) (Ae (.int 1)))))))))) AY)
noncomputable def cR:MS:=(ifS (Dm (AG (Af BG (Aa (Ab 1) (Aa (Ab 3) (Aa (Ab 4) (Aa (Ab 9) Ad))))))) (retS (Ae (.bl false))) AY)
noncomputable def cL:MS:=(Ap (Ar 9 (opM ixA (m2L (Ab 5) (Af Ag (Aa (Ab 2) (Aa (opM Bs (Aa (Ab 5) Ad)) Ad)))))) (Ap cX (Ap cM cR)))
theorem Tf {o:List Nat} (a:Nat) {i:Int} (hi:i = (a:Int) + 1):Txt.slice (tx o) (some i) none = tx (o.drop (a + 1)):=by
 by_cases h:a + 1≤o.length
 ·exact KL (k:=a + 1) (by lia) h
 ·rw [PyProof.Rows.slice_beyond (by rw [Ba]; lia),List.drop_eq_nil_of_le (by lia)]
  rfl
theorem QQ {ns:List Int} {h:Hs} (ok:h.Ok) {cs low os:List Nat} {td tb:Td} (g:Good h cs low td) (hz:∀ c∈os,c∈h.ls.map (·.1)) (hl:os.length≤40) {as:List A} {t:Nat} {x10:Slot} (h10:pN x10) :
  cR (eL ns h as cs td low tb (oI t) (oS os) x10) = some (.next (eL ns h as cs td low tb (oI t) (oS os) x10)):=by
 obtain ⟨b1,b2,b4⟩:=LW ok g hz hl
 have lc:cs.length≤40:=by have:=g.lc; lia
 have hk:∀ q∈td,q.1.length≤40:=fun q hq=>((g.mem ok).mp (mem_map.mpr ⟨q,hq,rfl⟩)).1
 have hne:td≠[]:=fun z=>by
  have:=(g.mem ok).mpr (g.low ok)
  rw [z] at this
  simp at this
 obtain ⟨a1,a2,a4,e⟩:=S4 .own .own .lent h ok cs os low td _ (IX (by lia) g.zc) (IX (by lia) hz) lc hl hk hne b1 b2 rfl b4 (g.least ok)
 have v:(Af BG (Aa (Ab 1) (Aa (Ab 3) (Aa (Ab 4) (Aa (Ab 9) Ad))))) (eL ns h as cs td low tb (oI t) (oS os) x10) = some (.val (.fz (.bl true)),(eL ns h as cs td low tb (oI t) (oS os) x10)):=call_of rfl rfl rfl e rfl
 have c:(Dm (AG (Af BG (Aa (Ab 1) (Aa (Ab 3) (Aa (Ab 4) (Aa (Ab 9) Ad))))))) (eL ns h as cs td low tb (oI t) (oS os) x10) = some (false,(eL ns h as cs td low tb (oI t) (oS os) x10)):=not_of (DY v)
 exact (GV c).trans rfl
theorem Xu {ns:List Int} {h:Hs} (ok:h.Ok) {cs low o:List Nat} {td tb:Td} (g:Good h cs low td) (eb:tb = (bfs h.hands 301 [(low,0)] 0)) (ho:o∈td.map (·.1)) {as:List A} {t:Nat} {x10:Slot} (h10:pN x10) :
  cX (eL ns h as cs td low tb (oI t) (oS o) x10) = some (.next (eL ns h as cs td low tb (oI t) (oS o) x10)):=by
 have a:=(g.mem ok).mp ho
 have hz:∀ c∈o,c∈h.ls.map (·.1):=fun c hc=>g.zc c ((g.perm a).mem_iff.mp hc)
 obtain ⟨a1,a2,eX⟩:=LZ .own h ok o hz a.1
 have fr:=g.far ok ho
 rw [← eb] at fr
 have vX:(Af BR (Aa (Ab 1) (Aa (Ab 9) Ad))) (eL ns h as cs td low tb (oI t) (oS o) x10) = some (.val (hL ((exs h.hands 40 0 o).map fun (i:Nat)=>(i:Int))),(eL ns h as cs td low tb (oI t) (oS o) x10)):=call_of rfl rfl rfl eX rfl
 have vL:(opM Bs (Aa (Af BR (Aa (Ab 1) (Aa (Ab 9) Ad))) Ad)) (eL ns h as cs td low tb (oI t) (oS o) x10) = some (.val (.fz (.int ((exs h.hands 40 0 o).length:Int))),(eL ns h as cs td low tb (oI t) (oS o) x10)):=by
  refine Ql vX ?_
  simp only [on1,on2,on3,Ce,CD,Bk,BF,fzU,CA,CN,hL,iL,Bs,Br,BS,map_some,Option.map_none,bind_none,none_or,length_map]
 have vD:(opM EX (m2L (Ab 7) (Ab 9))) (eL ns h as cs td low tb (oI t) (oS o) x10) = some (.val (.fz (.int ((exs h.hands 40 0 o).length:Int))),(eL ns h as cs td low tb (oI t) (oS o) x10)):=BP rfl rfl (XY fr)
 exact (GV (DY (Lz vL vD rfl rfl rfl (CY _)))).trans rfl
theorem OV {ns:List Int} {h:Hs} (ok:h.Ok) {cs low o:List Nat} {td tb:Td} (hz:∀ c∈o,c∈h.ls.map (·.1)) (hl:o.length≤30) {n:Nat} {as:List A} (hb:Bag n as) (hn:n≤10000) {t:Nat} {x10:Slot} (h10:pN x10) :
  ∃ os as' y10,(∀ c∈os,c∈h.ls.map (·.1))∧os.length≤40∧Bag (n + 2) as'∧pN y10∧cM (eL ns h as cs td low tb (oI t) (oS o) x10) = some (.next (eL ns h as' cs td low tb (oI t) (oS os) y10)):=by
 have cm:(AG (opM eqA (m2L (opM Ip (m2L (Ab 8) (Ae (.int 2)))) (Ae (.int 1))))) (eL ns h as cs td low tb (oI t) (oS o) x10) = some (eqD (.int ((t:Int) % 2)) (.int 1),(eL ns h as cs td low tb (oI t) (oS o) x10)):=by
  exact DY (Nn (a:=.fz (.int ((t:Int) % 2))) (b:=.fz (.int 1)) rfl rfl rfl rfl rfl rfl)
 cases hc:eqD (.int ((t:Int) % 2)) (.int 1) with
 | false =>
  rw [hc] at cm
  exact ⟨o,as,x10,hz,by lia,hb.mono (by lia),h10,(GV cm).trans rfl⟩
 | true =>
  rw [hc] at cm
  obtain ⟨d,as1,d0,d1,hb1,tk⟩:=Dx hb (by lia) ((tx o).length + 1:Int) (by lia) (by rw [Ba]; lia)
  rw [Ba] at d1
  obtain ⟨a,rfl⟩:∃ a:Nat,d = a:=⟨d.toNat,by lia⟩
  have vT:(Af Ag (Aa (Ab 2) (Aa (opM Az (m2L (opM Bs (Aa (Ab 9) Ad)) (Ae (.int 1)))) Ad))) (eL ns h as cs td low tb (oI t) (oS o) x10) = some (.val (.fz (.int (a:Int))),(eL ns h as1 cs td low tb (oI t) (oS o) x10)):=call_of rfl rfl rfl tk rfl
  have st10:Ar 10 (Af Ag (Aa (Ab 2) (Aa (opM Az (m2L (opM Bs (Aa (Ab 9) Ad)) (Ae (.int 1)))) Ad))) (eL ns h as cs td low tb (oI t) (oS o) x10) = some (.next (eL ns h as1 cs td low tb (oI t) (oS o) (oI a))):=by
   rcases h10 with rfl | ⟨d10,rfl⟩ <;> exact Be vT rfl
  have l1:=ok.l1
  have l2:=ok.l2
  have lm:(h.ls.map ld).length = h.ls.length:=length_map ..
  obtain ⟨e,as2,g1,g2,hb2,tk2⟩:=Dx hb1 (by lia) ((h.ls.map ld).length:Int) (by lia) (by lia)
  have he:e.toNat < h.ls.length:=by lia
  have e7:=BH (xs:=h.ls.map ld) (i:=e) (k:=e.toNat) (by lia) (by simpa using he)
  simp only [getElem_map] at e7
  have e8:ld (h.ls[e.toNat]) = .tup [.str ⟨#[(h.ls[e.toNat]).1]⟩,.lst (iL (h.ls[e.toNat]).2)]:=rfl
  rw [e8] at e7
  have hmem:(h.ls[e.toNat]).1∈h.ls.map (·.1):=mem_map.mpr ⟨_,getElem_mem he,rfl⟩
  have q1:=N3 (cs:=o) (k:=a) (by lia)
  have q3:=Tf (o:=o) a rfl
  have v1:(opM DE (m2L (Ab 9) (Ab 10))) (eL ns h as1 cs td low tb (oI t) (oS o) (oI a)) = some (.val (.fz (.str (tx (o.take a)))),(eL ns h as1 cs td low tb (oI t) (oS o) (oI a))):=by
   rw [← q1]
   rfl
  have v2:(opM ixA (m2L (opM ixA (m2L (opM ixA (m2L (Ab 1) (Ae (.int 1)))) (Af Ag (Aa (Ab 2) (Aa (opM Bs (Aa (opM ixA (m2L (Ab 1) (Ae (.int 1)))) Ad)) Ad))))) (Ae (.int 0)))) (eL ns h as1 cs td low tb (oI t) (oS o) (oI a)) = some (.val (.fz (.str (tx [(h.ls[e.toNat]).1]))),(eL ns h as2 cs td low tb (oI t) (oS o) (oI a))):=by
   have w2:(Af Ag (Aa (Ab 2) (Aa (opM Bs (Aa (opM ixA (m2L (Ab 1) (Ae (.int 1)))) Ad)) Ad))) (eL ns h as1 cs td low tb (oI t) (oS o) (oI a)) = some (.val (.fz (.int e)),(eL ns h as2 cs td low tb (oI t) (oS o) (oI a))):=call_of rfl rfl rfl tk2 rfl
   have w3:(opM ixA (m2L (opM ixA (m2L (Ab 1) (Ae (.int 1)))) (Af Ag (Aa (Ab 2) (Aa (opM Bs (Aa (opM ixA (m2L (Ab 1) (Ae (.int 1)))) Ad)) Ad))))) (eL ns h as1 cs td low tb (oI t) (oS o) (oI a)) = some (.val (.fz (.tup [.str ⟨#[(h.ls[e.toNat]).1]⟩,.lst (iL (h.ls[e.toNat]).2)])),(eL ns h as2 cs td low tb (oI t) (oS o) (oI a))):=BP (Dl (r1:=.val (.fz (.lst (h.ls.map ld)))) rfl w2) rfl (ixF e7)
   exact BP (Dl (r2:=.val (.fz (.int 0))) w3 rfl) rfl rfl
  have v3:(opM Dn (m2L (Ab 9) (opM Az (m2L (Ab 10) (Ae (.int 1)))))) (eL ns h as2 cs td low tb (oI t) (oS o) (oI a)) = some (.val (.fz (.str (tx (o.drop (a + 1))))),(eL ns h as2 cs td low tb (oI t) (oS o) (oI a))):=by
   rw [← q3]
   rfl
  have k1:(o.take a).length≤30:=by rw [length_take]; lia
  have k2:(o.drop (a + 1)).length≤30:=by rw [length_drop]; lia
  have k3:(o.take a).length + (o.drop (a + 1)).length≤30:=by rw [length_take,length_drop]; lia
  have v12:=E2 v1 v2 (by simp only [length_cons,length_nil]; lia)
  have v123:=E2 v12 v3 (by simp only [length_append,length_cons,length_nil]; lia)
  have st9:=Be (i:=9) v123 rfl
  refine ⟨o.take a ++ [(h.ls[e.toNat]).1] ++ o.drop (a + 1),as2,(oI a),fun c hc=>?_,?_,hb2,.inr ⟨_,rfl⟩,(Lo cm).trans ((Ai st10).trans st9)⟩
  ·rcases mem_append.mp hc with z | z
   ·rcases mem_append.mp z with z | z
    ·exact hz c (List.mem_of_mem_take z)
    ·simp only [List.mem_singleton] at z; subst z; exact hmem
   ·exact hz c (List.mem_of_mem_drop z)
  ·simp only [length_append,length_cons,length_nil]; lia
theorem S3 {ns:List Int} {h:Hs} (ok:h.Ok) {cs low:List Nat} {td tb:Td} (g:Good h cs low td) (eb:tb = (bfs h.hands 301 [(low,0)] 0)) {n:Nat} {as:List A} (hb:Bag n as) (hn:n≤5000) {t:Nat} {x9 x10:Slot} (h9:pN x9) (h10:pN x10) :
  ∃ as' y9 y10,Bag (n + 3) as'∧pN y9∧pN y10∧cL (eL ns h as cs td low tb (oI t) x9 x10) = some (.next (eL ns h as' cs td low tb (oI t) y9 y10)):=by
 have tl:(tD td).length = td.length:=by simp [tD]
 have tp:0 < td.length:=by
  have:=(g.mem ok).mpr (g.low ok)
  obtain ⟨q,hq,_⟩:=mem_map.mp this
  exact List.length_pos_of_mem hq
 have tle:=g.ln
 obtain ⟨d,as1,d0,d1,hb1,tk⟩:=Dx hb (by lia) ((tD td).length:Int) (by lia) (by lia)
 have hd:d.toNat < td.length:=by lia
 have ai:=BH (xs:=tD td) (i:=d) (k:=d.toNat) (by lia) (by lia)
 have eo':(tD td)[d.toNat]'(by lia) = D.str (tx (td[d.toNat]).1):=by simp only [tD,getElem_map]
 rw [eo'] at ai
 have ho:(td[d.toNat]).1∈td.map (·.1):=mem_map.mpr ⟨_,getElem_mem hd,rfl⟩
 generalize (td[d.toNat]).1 = o at ai ho
 have vT:(Af Ag (Aa (Ab 2) (Aa (opM Bs (Aa (Ab 5) Ad)) Ad))) (eL ns h as cs td low tb (oI t) x9 x10) = some (.val (.fz (.int d)),(eL ns h as1 cs td low tb (oI t) x9 x10)):=call_of (by
  have:(opM Bs (Aa (Ab 5) Ad)) (eL ns h as cs td low tb (oI t) x9 x10) = some (.val (.fz (.int ((tD td).length:Int))),(eL ns h as cs td low tb (oI t) x9 x10)):=BP rfl rfl (W2 _)
  exact cons_of (r:=.ref 2) rfl (cons_of this (nil_of _))) rfl rfl tk rfl
 have v9:(opM ixA (m2L (Ab 5) (Af Ag (Aa (Ab 2) (Aa (opM Bs (Aa (Ab 5) Ad)) Ad))))) (eL ns h as cs td low tb (oI t) x9 x10) = some (.val (.fz (.str (tx o))),(eL ns h as1 cs td low tb (oI t) x9 x10)):=BP (Dl (r1:=.ref 5) rfl vT) rfl (ixL ai)
 have st9:Ar 9 (opM ixA (m2L (Ab 5) (Af Ag (Aa (Ab 2) (Aa (opM Bs (Aa (Ab 5) Ad)) Ad))))) (eL ns h as cs td low tb (oI t) x9 x10) = some (.next (eL ns h as1 cs td low tb (oI t) (oS o) x10)):=by
  rcases h9 with rfl | ⟨d9,rfl⟩ <;> exact Be v9 rfl
 have a:=(g.mem ok).mp ho
 have pm:=g.perm a
 have hz:∀ c∈o,c∈h.ls.map (·.1):=fun c hc=>g.zc c (pm.mem_iff.mp hc)
 have ex:=Xu (ns:=ns) ok g eb ho (as:=as1) (t:=t) h10
 obtain ⟨os,as2,y10,hz2,hl2,hb2,k10,ec⟩:=OV (ns:=ns) ok (cs:=cs) (low:=low) (td:=td) (tb:=tb) hz (by rw [pm.length_eq]; exact g.lc) hb1 (by lia) (t:=t) h10
 have er:=QQ (ns:=ns) ok (tb:=tb) g hz2 hl2 (as:=as2) (t:=t) k10
 exact ⟨as2,(oS os),y10,hb2.mono (by lia),.inr ⟨_,rfl⟩,k10,(Ai st9).trans ((Ai ex).trans ((Ai ec).trans er))⟩
theorem P1 (ns:List Int) (hl:ns.length≤63):∃ as',H0 [(.ro,.scr ns)] = some (.fz (.bl true),as'):=by
 obtain ⟨c,c2,t1⟩:=QO ns 0
 obtain ⟨as,q1,hb,t2⟩:=Uc .own c
 obtain ⟨h,as1,ok,hb1,t3⟩:=S0 hb (by lia)
 have v1:(Af AZ (Aa (Ab 0) (Aa (Ae (.int 0)) Ad))) [some (.ro,.scr ns),none,none,none,none,none,none,none,none,none,none] = some (.val (.fz (.int c)),[some (.ro,.scr ns),none,none,none,none,none,none,none,none,none,none]):=call_of rfl rfl rfl t1 rfl
 have v2:(Af Bu (Aa (Af AZ (Aa (Ab 0) (Aa (Ae (.int 0)) Ad))) Ad)) [some (.ro,.scr ns),none,none,none,none,none,none,none,none,none,none] = some (.val (.lst as),[some (.ro,.scr ns),none,none,none,none,none,none,none,none,none,none]):=call_of (cons_of v1 (nil_of _)) rfl rfl t2 rfl
 have v3:(Af B1 (Aa (Af Bu (Aa (Af AZ (Aa (Ab 0) (Aa (Ae (.int 0)) Ad))) Ad)) Ad)) [some (.ro,.scr ns),none,none,none,none,none,none,none,none,none,none] = some (.val (.fz h.d),[some (.ro,.scr ns),none,none,none,none,none,none,none,none,none,none]):=call_of (cons_of v2 (nil_of _)) rfl rfl t3 rfl
 have st1:Ar 1 (Af B1 (Aa (Af Bu (Aa (Af AZ (Aa (Ab 0) (Aa (Ae (.int 0)) Ad))) Ad)) Ad)) [some (.ro,.scr ns),none,none,none,none,none,none,none,none,none,none] = some (.next [some (.ro,.scr ns),some (.own,.fz h.d),none,none,none,none,none,none,none,none,none]):=Be v3 rfl
 obtain ⟨c',c2',t4⟩:=QO ns 1
 obtain ⟨bs,q2,hb2,t5⟩:=Uc .own c'
 have v4:(Af AZ (Aa (Ab 0) (Aa (Ae (.int 1)) Ad))) [some (.ro,.scr ns),some (.own,.fz h.d),none,none,none,none,none,none,none,none,none] = some (.val (.fz (.int c')),[some (.ro,.scr ns),some (.own,.fz h.d),none,none,none,none,none,none,none,none,none]):=call_of rfl rfl rfl t4 rfl
 have v5:(Af Bu (Aa (Af AZ (Aa (Ab 0) (Aa (Ae (.int 1)) Ad))) Ad)) [some (.ro,.scr ns),some (.own,.fz h.d),none,none,none,none,none,none,none,none,none] = some (.val (.lst bs),[some (.ro,.scr ns),some (.own,.fz h.d),none,none,none,none,none,none,none,none,none]):=call_of (cons_of v4 (nil_of _)) rfl rfl t5 rfl
 have st2:Ar 2 (Af Bu (Aa (Af AZ (Aa (Ab 0) (Aa (Ae (.int 1)) Ad))) Ad)) [some (.ro,.scr ns),some (.own,.fz h.d),none,none,none,none,none,none,none,none,none] = some (.next [some (.ro,.scr ns),some (.own,.fz h.d),some (.own,.lst bs),none,none,none,none,none,none,none,none]):=Be v5 rfl
 obtain ⟨d,bs1,d0,d1,hb3,t6⟩:=Dx hb2 (by lia) 8 (by lia) (by lia)
 have rg:(Bt (Af Ag (Aa (Ab 2) (Aa (Ae (.int 8)) Ad)))) [some (.ro,.scr ns),some (.own,.fz h.d),some (.own,.lst bs),none,none,none,none,none,none,none,none] = some (Cu 0 d.toNat,none,[some (.ro,.scr ns),some (.own,.fz h.d),some (.own,.lst bs1),none,none,none,none,none,none,none,none]):=by
  exact Eu (n:=d) (call_of rfl rfl rfl t6 rfl) (by lia) (by lia)
 obtain ⟨cs0,bs2,hl0,hz0,hb4,e4⟩:=V3 (ns:=ns) ok (Cu 0 d.toNat) _ bs1 hb3 (by rw [DZ]; lia)
 rw [DZ] at hl0
 have vC:(A4 (Bt (Af Ag (Aa (Ab 2) (Aa (Ae (.int 8)) Ad)))) 0 D0 (opM ixA (m2L (opM ixA (m2L (opM ixA (m2L (Ab 2) (Ae (.int 1)))) (Af Ag (Aa (Ab 3) (Aa (opM Bs (Aa (opM ixA (m2L (Ab 2) (Ae (.int 1)))) Ad)) Ad))))) (Ae (.int 0))))) [some (.ro,.scr ns),some (.own,.fz h.d),some (.own,.lst bs),none,none,none,none,none,none,none,none] = some (.val (.lst ((cs0.map chD).map A.fz)),[some (.ro,.scr ns),some (.own,.fz h.d),some (.own,.lst bs2),none,none,none,none,none,none,none,none]):=by
  have lm:((Cu 0 d.toNat).length≤LIM) = True:=by
   have hlim:1000≤LIM:=by decide
   rw [DZ]; simp only [eq_iff_iff,iff_true]; lia
  simp only [A4,rg,bind_some,lm,if_true,G2,e4,map_some,Hj]
 have st3:=Be (i:=3) (HD vC (by lia)) rfl
 have st3':Ar 3 (DF CB (Ae (.str (Str.ofString ""))) (m1L (A4 (Bt (Af Ag (Aa (Ab 2) (Aa (Ae (.int 8)) Ad)))) 0 D0 (opM ixA (m2L (opM ixA (m2L (opM ixA (m2L (Ab 2) (Ae (.int 1)))) (Af Ag (Aa (Ab 3) (Aa (opM Bs (Aa (opM ixA (m2L (Ab 2) (Ae (.int 1)))) Ad)) Ad))))) (Ae (.int 0))))))) [some (.ro,.scr ns),some (.own,.fz h.d),some (.own,.lst bs),none,none,none,none,none,none,none,none] = some (.next [some (.ro,.scr ns),some (.own,.fz h.d),some (.own,.lst bs2),(oS cs0),none,none,none,none,none,none,none]):=st3
 obtain ⟨cs,a1,a2,hz,hlc,hln,e5⟩:=S5 .own h ok cs0 hz0 (by lia)
 have vS:(Af Bi (Aa (Ab 1) (Aa (Ab 3) Ad))) [some (.ro,.scr ns),some (.own,.fz h.d),some (.own,.lst bs2),(oS cs0),none,none,none,none,none,none,none] = some (.val (.tup [.fz (.str (tx cs)),.dic (fF (bfs h.hands 301 [(cs,0)] 0))]),[some (.ro,.scr ns),some (.own,.fz h.d),some (.own,.lst bs2),(oS cs0),none,none,none,none,none,none,none]):=call_of rfl rfl rfl e5 rfl
 generalize htd:(bfs h.hands 301 [(cs,0)] 0) = td at hln vS
 have g:Good h cs (lr h.hands 40 cs) td:=⟨hz,by lia,rfl,htd.symm,hln⟩
 generalize lr h.hands 40 cs = low at g
 have st4:K1 [3,4] (Af Bi (Aa (Ab 1) (Aa (Ab 3) Ad))) [some (.ro,.scr ns),some (.own,.fz h.d),some (.own,.lst bs2),(oS cs0),none,none,none,none,none,none,none] = some (.next [some (.ro,.scr ns),some (.own,.fz h.d),some (.own,.lst bs2),(oS cs),some (.own,.dic (fF td)),none,none,none,none,none,none]):=WA vS rfl
 have kf:=NC td
 have sf:=L6 (td:=td) fun q hq=>((g.mem ok).mp (mem_map.mpr ⟨q,hq,rfl⟩)).1
 have st5:Ar 5 (opM Ff (Aa (Ab 4) Ad)) [some (.ro,.scr ns),some (.own,.fz h.d),some (.own,.lst bs2),(oS cs),some (.own,.dic (fF td)),none,none,none,none,none,none] = some (.next [some (.ro,.scr ns),some (.own,.fz h.d),some (.own,.lst bs2),(oS cs),some (.own,.dic (fF td)),some (.own,.lst ((tD td).map A.fz)),none,none,none,none,none]):=by
  refine Be (ρ1:=[some (.ro,.scr ns),some (.own,.fz h.d),some (.own,.lst bs2),(oS cs),some (.own,.dic (fF td)),none,none,none,none,none,none]) (a:=.lst ((tD td).map A.fz)) ?_ rfl
  clear hb hb1 hl ok t1 t2 t3 st1 st2 hb2 t4 t5 hb3 d0 d1 rg vC st3 st3' e4 hb4 hz0 hl0 hz hlc hln t6 vS st4 htd g e5
  try simp only [eL,oI,oS]
  generalize fF td = F at kf sf ⊢
  generalize tD td = T at kf ⊢
  subst kf
  simp only [on1,on2,on3,Ce,CD,Bk,BF,fzU,CA,CN,opM,Aa,Ad,Ab,bind_some,map_some,peeks,peek,Ff,sf,if_true,getElem?_cons_zero,getElem?_cons_succ]
 have stT:=N6 td
 have hn0:(td.map fun q=>tx q.1).isEmpty = false:=by
  cases td with
  | nil =>
   have:=(g.mem ok).mpr (g.low ok)
   simp at this
  | cons _ _=>rfl
 have lst:=g.least ok
 have st6:Ar 6 (opM Je (Aa (Ab 5) Ad)) [some (.ro,.scr ns),some (.own,.fz h.d),some (.own,.lst bs2),(oS cs),some (.own,.dic (fF td)),some (.own,.lst ((tD td).map A.fz)),none,none,none,none,none] = some (.next [some (.ro,.scr ns),some (.own,.fz h.d),some (.own,.lst bs2),(oS cs),some (.own,.dic (fF td)),some (.own,.lst ((tD td).map A.fz)),(oS low),none,none,none,none]):=by
  refine Be (ρ1:=[some (.ro,.scr ns),some (.own,.fz h.d),some (.own,.lst bs2),(oS cs),some (.own,.dic (fF td)),some (.own,.lst ((tD td).map A.fz)),none,none,none,none,none]) (a:=.fz (.str (tx low))) ?_ rfl
  simp only [on1,on2,on3,Ce,CD,Bk,BF,fzU,CA,CN,opM,Aa,Ad,Ab,bind_some,map_some,peeks,peek,Je,C2,BS,stT,hn0,false_eq_true,if_false,lst,getElem?_cons_zero,getElem?_cons_succ]
 have zl:∀ c∈low,c∈h.ls.map (·.1):=fun c hc=>g.zc c ((g.perm (g.low ok)).mem_iff.mp hc)
 obtain ⟨b1,b2,b3,e7⟩:=MY .own .own .own h ok low zl (g.low ok).1
 generalize htb:(bfs h.hands 301 [(low,0)] 0) = tb at e7
 have v7:(Af AL (Aa (Ab 1) (Aa (Ab 6) (Aa (Ae (.int 300)) Ad)))) [some (.ro,.scr ns),some (.own,.fz h.d),some (.own,.lst bs2),(oS cs),some (.own,.dic (fF td)),some (.own,.lst ((tD td).map A.fz)),(oS low),none,none,none,none] = some (.val (.dic (fF tb)),[some (.ro,.scr ns),some (.own,.fz h.d),some (.own,.lst bs2),(oS cs),some (.own,.dic (fF td)),some (.own,.lst ((tD td).map A.fz)),(oS low),none,none,none,none]):=call_of rfl rfl rfl e7 rfl
 have st7:Ar 7 (Af AL (Aa (Ab 1) (Aa (Ab 6) (Aa (Ae (.int 300)) Ad)))) [some (.ro,.scr ns),some (.own,.fz h.d),some (.own,.lst bs2),(oS cs),some (.own,.dic (fF td)),some (.own,.lst ((tD td).map A.fz)),(oS low),none,none,none,none] = some (.next (eL ns h bs2 cs td low tb none none none)):=Be v7 rfl
 obtain ⟨ρ',f1,f2⟩:=En (is:=[8]) (one:=true) (b:=cL) (it:=(Bt (Ae (.int 8)))) (ρ:=(eL ns h bs2 cs td low tb none none none)) (ds:=Cu 0 8) (n:=none) (ρ1:=(eL ns h bs2 cs td low tb none none none))
  (fun t ρ=>∃ (as:List A) (x8 x9 x10:Slot),t≤8∧Bag (100 + 3 * t) as∧pN x8∧pN x9∧pN x10 ∧ ρ = (eL ns h as cs td low tb x8 x9 x10)) (Eu (n:=8) rfl (by decide) (by decide)) ⟨bs2,none,none,none,by lia,hb4.mono (by rw [DZ]; lia),.inl rfl,.inl rfl,.inl rfl,rfl⟩ (fun t d ρ hd hI=>by
   obtain ⟨as,x8,x9,x10,ht,hbg,h8,h9,h10,rfl⟩:=hI
   obtain ⟨rfl,ht2⟩:=GK hd
   obtain ⟨as',y9,y10,hbg2,k9,k10,q⟩:=S3 (ns:=ns) ok g htb.symm hbg (by lia) (t:=t) h9 h10
   refine ⟨(eL ns h as cs td low tb (oI t) x9 x10),_,?_,.inl q,as',(oI t),y9,y10,by lia,hbg2.mono (by lia),.inr ⟨_,rfl⟩,k9,k10,rfl⟩
   rcases h8 with rfl | ⟨d,rfl⟩ <;> rfl)
 obtain ⟨as',x8,x9,x10,_,_,_,_,_,rfl⟩:=f2
 refine ⟨_,AU (ρ:=(eL ns h as' cs td low tb x8 x9 x10)) rfl ?_⟩
 show J8 [some (.ro,.scr ns),none,none,none,none,none,none,none,none,none,none] = _
 unfold J8
 exact (Ai st1).trans ((Ai st2).trans ((Ai st3').trans ((Ai st4).trans ((Ai st5).trans ((Ai st6).trans ((Ai st7).trans ((Ai f1).trans rfl)))))))
end Gk15
end
section
namespace Gk15
open PySem PySem.Spec PyProof.Rows L2 J
noncomputable def Fe (K:Frag) (n:Str) (st:Stmt):Prop:=∃ (f:Addr) (fd:FuncData),PySem.W.nsIn K mainGlobals n = some (some (.ref f))∧Fun K n n st f fd
theorem WT {K:Frag} {n:Str} {st:Stmt} {f:Addr} {oc:Value} {od an:Option Addr} {sl:Array (Option Value)} {kV dc pm cd ct:Value} (a:PySem.W.nsIn K mainGlobals n = some (some (.ref f))) (l:K.lookup f = some ⟨oc,od,.func (PySem.W.fnOf n n (D2 st) (CV st) (Bp st) .none kV dc pm an cd ct),sl⟩) (c:PySem.W.codeIn K cd n = true) (k:PySem.W.keepIn K (.ref f) = true):Fe K n st:=⟨f,_,a,UD l c k⟩
theorem df (P:Program) (w:World) {K:Frag} {h:Heap} {mg:Str→Option Value} {N:Nat} {n:Str} {st:Stmt} {ps:List Str} {sp:Sp} (X:K.In h) (G:h.Ns mainGlobals mg) (e:Fe K n st) (ok:∀ {f fd},Fun K n n st f fd→∀ base,FnOk P w K mg base CX0 N f fd ps sp)
  (hb:∀ (kV doc pm:Value) (an:Option Addr) (cdv ct:Value) (us:List Value),us.length = ps.length→bindArgs (PySem.W.fnOf n n (D2 st) (CV st) (Bp st) .none kV doc pm an cdv ct) ⟨us,[]⟩ = pure (ps.zip us)):∀ base,Def P w K mg base CX0 N n ps sp:=by
 obtain ⟨f,fd,a,F⟩:=e
 exact fun base=>⟨f,fd,PySem.W.mg_of X G a,F.kp,F.binds hb,ok F base⟩
theorem dfL (P:Program) (w:World) {K:Frag} {h:Heap} {mg:Str→Option Value} {N:Nat} {st:Stmt} {ps:List Str} {sp:Sp} (X:K.In h) (G:h.Ns mainGlobals mg) (e:Fe K A8 st) (ok:∀ {f fd},PySem.W.nsIn K mainGlobals A8 = some (some (.ref f))→Fun K A8 A8 st f fd→∀ base,FnOk P w K mg base CX0 N f fd ps sp)
  (hb:∀ (kV doc pm:Value) (an:Option Addr) (cdv ct:Value) (us:List Value),us.length = ps.length→bindArgs (PySem.W.fnOf A8 A8 (D2 st) (CV st) (Bp st) .none kV doc pm an cdv ct) ⟨us,[]⟩ = pure (ps.zip us)):∀ base,Def P w K mg base CX0 N A8 ps sp:=by
 obtain ⟨f,fd,a,F⟩:=e
 exact fun base=>⟨f,fd,PySem.W.mg_of X G a,F.kp,F.binds hb,ok a F base⟩
theorem ar1 {α:Type} {P:List α → Prop} (h:∀ a,P [a]) (us:List α) (e:us.length = 1):P us:=by
 obtain ⟨a,rfl⟩:=U3 e
 exact h a
theorem ar2 {α:Type} {P:List α → Prop} (h:∀ a b,P [a,b]) (us:List α) (e:us.length = 2):P us:=by
 obtain ⟨a,b,rfl⟩:=R3 e
 exact h a b
theorem ar3 {α:Type} {P:List α → Prop} (h:∀ a b c,P [a,b,c]) (us:List α) (e:us.length = 3):P us:=by
 cases us with
 | nil=>cases e
 | cons a t=>exact ar2 (P:=fun t=>P (a :: t)) (h a) t (Nat.succ.inj e)
theorem ar4 {α:Type} {P:List α → Prop} (h:∀ a b c d,P [a,b,c,d]) (us:List α) (e:us.length = 4):P us:=by
 cases us with
 | nil=>cases e
 | cons a t=>exact ar3 (P:=fun t=>P (a :: t)) (h a) t (Nat.succ.inj e)
theorem all_mk {l:PySem.W.OpenLaw} {w:World} {K:Frag} {h:Heap} {mg:Str→Option Value} {fa:Addr} (X:K.In h) (G:h.Ns mainGlobals mg) (hfa:mg "law" = some (.ref fa))
  (e0:Fe K "_law_take" (top 44))
  (e1:Fe K "_law_house" (top 45))
  (e2:Fe K "_law_bag" (top 43))
  (e3:Fe K "_law_are_free" (top 46))
  (e4:Fe K "_law_heap" (top 47))
  (e5:Fe K "_law_short_heap" (top 48))
  (e6:Fe K "_law_cell" (top 42))
  (e7:Fe K "_law_truth" (top 41))
  (e8:Fe K "is_pair" (top 3))
  (e9:Fe K "is_whole" (top 1))
  (e10:Fe K "is_count_of_hands" (top 16))
  (e11:Fe K "is_number_below" (top 2))
  (e12:Fe K "are_numbers_below" (top 5))
  (e13:Fe K "is_list_of_numbers_below" (top 4))
  (e14:Fe K "is_rising_list_below" (top 6))
  (e15:Fe K "is_small_letter" (top 19))
  (e16:Fe K "is_entry" (top 18))
  (e17:Fe K "are_entries" (top 17))
  (e18:Fe K "is_house" (top 15))
  (e19:Fe K "need_house" (top 20))
  (e20:Fe K "letters_of" (top 21))
  (e21:Fe K "is_row" (top 24))
  (e22:Fe K "need_row" (top 25))
  (e23:Fe K "hands_of" (top 22))
  (e24:Fe K "is_hand_in_both" (top 23))
  (e25:Fe K "front_places" (top 37))
  (e26:Fe K "place_of_first" (top 36))
  (e27:Fe K "least_row_of" (top 35))
  (e28:Fe K "least_row" (top 34))
  (e29:Fe K "steps" (top 38))
  (e30:Fe K "seen_by" (top 27))
  (e31:Fe K "seen_by_all" (top 28))
  (e32:Fe K "are_alike" (top 33))
  (e33:Fe K "alike" (top 32))
  (e34:Fe K "place_apart" (top 30))
  (e35:Fe K "seen_apart" (top 29))
  (e36:Fe K "_law_right" (top 49))
  (e37:Fe K "exchanges" (top 39))
  (e38:Fe K "law" (top 50))
  {t_FEWEST_HANDS:Tok} (i_FEWEST_HANDS:PySem.W.nsIn K mainGlobals "FEWEST_HANDS" = some (some (.int 2 t_FEWEST_HANDS)))
  {t_MOST_HANDS:Tok} (i_MOST_HANDS:PySem.W.nsIn K mainGlobals "MOST_HANDS" = some (some (.int 4 t_MOST_HANDS)))
  {t_MOST_LETTERS:Tok} (i_MOST_LETTERS:PySem.W.nsIn K mainGlobals "MOST_LETTERS" = some (some (.int 6 t_MOST_LETTERS)))
  (z_isinstance:PySem.W.nsIn K mainGlobals "isinstance" = some none)
  (z_len:PySem.W.nsIn K mainGlobals "len" = some none)
  (z_all:PySem.W.nsIn K mainGlobals "all" = some none)
  (z_any:PySem.W.nsIn K mainGlobals "any" = some none)
  (z_range:PySem.W.nsIn K mainGlobals "range" = some none)
  (z_list:PySem.W.nsIn K mainGlobals "list" = some none)
  (z_int:PySem.W.nsIn K mainGlobals "int" = some none)
  (z_bool:PySem.W.nsIn K mainGlobals "bool" = some none)
  (z_tuple:PySem.W.nsIn K mainGlobals "tuple" = some none)
  (z_str:PySem.W.nsIn K mainGlobals "str" = some none)
  (z_abs:PySem.W.nsIn K mainGlobals "abs" = some none)
  (z_max:PySem.W.nsIn K mainGlobals "max" = some none)
  (z_min:PySem.W.nsIn K mainGlobals "min" = some none)
  (z_dict:PySem.W.nsIn K mainGlobals "dict" = some none)
  (z_sorted:PySem.W.nsIn K mainGlobals "sorted" = some none)
  (z_set:PySem.W.nsIn K mainGlobals "set" = some none)
  (z_enumerate:PySem.W.nsIn K mainGlobals "enumerate" = some none)
  {c b:Addr} (ht:PySem.W.tabIn K A8 = some (c,b)) (hh:PySem.W.codeHdIn K c b = true)
  : ∃ fd:FuncData,(∀ (s:Shared) (v:Value),BindsTo s fd ⟨[v],[]⟩ [("_law_script",v)])∧∀ base:Heap,K.In base→base.Ns mainGlobals mg→FnOk l.prog w K mg base CX0 14 fa fd ["_law_script"] (spJ K H0 1):=by
 have z {n:Str} (e:PySem.W.nsIn K mainGlobals n = some none):=PySem.W.mg_none_of X G e
 have B:Blt mg K:=⟨z z_isinstance,z z_len,z z_all,z z_any,z z_range,z z_list,z z_int,z z_bool,z z_tuple,z z_str,z z_abs,z z_max,z z_min,z z_dict⟩
 have B2:Blt2 mg:=⟨z z_sorted,z z_set,z z_enumerate⟩
 have DS:GInt mg "FEWEST_HANDS" 2:=⟨⟨_,PySem.W.mg_of X G i_FEWEST_HANDS⟩⟩
 have EK:GInt mg "MOST_HANDS" 4:=⟨⟨_,PySem.W.mg_of X G i_MOST_HANDS⟩⟩
 have DT:GInt mg "MOST_LETTERS" 6:=⟨⟨_,PySem.W.mg_of X G i_MOST_LETTERS⟩⟩
 have AN:=df l.prog w X G e0 (fun F s=>Ko F B B2) fun _ _ _ _ _ _=>ar2 fun _ _=>rfl
 have EB:=df l.prog w X G e1 (fun F s=>Jf F B B2 (AN s)) fun _ _ _ _ _ _=>ar1 fun _=>rfl
 have EA:=df l.prog w X G e2 (fun F s=>LB F B B2) fun _ _ _ _ _ _=>ar1 fun _=>rfl
 have Dr:=df l.prog w X G e3 (fun F s=>G3 F B B2) fun _ _ _ _ _ _=>ar3 fun _ _ _=>rfl
 have B6:=df l.prog w X G e4 (fun F s=>Kn F B B2 (Dr s)) fun _ _ _ _ _ _=>ar3 fun _ _ _=>rfl
 have CQ:=df l.prog w X G e5 (fun F s=>FV F B B2 (B6 s)) fun _ _ _ _ _ _=>ar2 fun _ _=>rfl
 have D1:=df l.prog w X G e6 (fun F s=>Km F B B2) fun _ _ _ _ _ _=>ar2 fun _ _=>rfl
 have ED:=df l.prog w X G e7 (fun F s=>Jh F B B2) fun _ _ _ _ _ _=>ar2 fun _ _=>rfl
 have DH:=df l.prog w X G e8 (fun F s=>MD F B B2) fun _ _ _ _ _ _=>ar1 fun _=>rfl
 have C4:=df l.prog w X G e9 (fun F s=>LH F B B2) fun _ _ _ _ _ _=>ar1 fun _=>rfl
 have Co:=df l.prog w X G e10 (fun F s=>Fi F B B2 (C4 s) DS EK) fun _ _ _ _ _ _=>ar1 fun _=>rfl
 have CT:=df l.prog w X G e11 (fun F s=>FX F B B2 (C4 s)) fun _ _ _ _ _ _=>ar2 fun _ _=>rfl
 have Cn:=df l.prog w X G e12 (fun F s=>Fh F B B2 (CT s)) fun _ _ _ _ _ _=>ar2 fun _ _=>rfl
 have Bx:=df l.prog w X G e13 (fun F s=>DD F B B2 (Cn s)) fun _ _ _ _ _ _=>ar2 fun _ _=>rfl
 have BQ:=df l.prog w X G e14 (fun F s=>Es F B B2 (Bx s)) fun _ _ _ _ _ _=>ar2 fun _ _=>rfl
 have CU:=df l.prog w X G e15 (fun F s=>FY F B B2) fun _ _ _ _ _ _=>ar1 fun _=>rfl
 have FK:=df l.prog w X G e16 (fun F s=>LF F B B2 (BQ s) (DH s) (CU s)) fun _ _ _ _ _ _=>ar2 fun _ _=>rfl
 have D8:=df l.prog w X G e17 (fun F s=>Ir F B B2 (FK s) DT) fun _ _ _ _ _ _=>ar2 fun _ _=>rfl
 have FL:=df l.prog w X G e18 (fun F s=>LG F B B2 (DH s) (Co s) (D8 s)) fun _ _ _ _ _ _=>ar1 fun _=>rfl
 have EE:=df l.prog w X G e19 (fun F s=>Jj F B B2 (FL s)) fun _ _ _ _ _ _=>ar1 fun _=>rfl
 have Cd:=df l.prog w X G e20 (fun F s=>Ji F B B2) fun _ _ _ _ _ _=>ar1 fun _=>rfl
 have HL:=df l.prog w X G e21 (fun F s=>OI F B B2 (EE s) (Cd s)) fun _ _ _ _ _ _=>ar2 fun _ _=>rfl
 have AQ:=df l.prog w X G e22 (fun F s=>LJ F B B2 (HL s)) fun _ _ _ _ _ _=>ar2 fun _ _=>rfl
 have FJ:=df l.prog w X G e23 (fun F s=>LC F B B2 (Cd s)) fun _ _ _ _ _ _=>ar2 fun _ _=>rfl
 have CS:=df l.prog w X G e24 (fun F s=>FW F B B2) fun _ _ _ _ _ _=>ar2 fun _ _=>rfl
 have BI:=df l.prog w X G e25 (fun F s=>Ho F B B2 (FJ s) (CS s)) fun _ _ _ _ _ _=>ar2 fun _ _=>rfl
 have Bw:=dfL l.prog w X G e26 (fun a F s=>GA F a ht hh B B2 (BI s)) fun _ _ _ _ _ _=>ar2 fun _ _=>rfl
 have DJ:=df l.prog w X G e27 (fun F s=>Hq F B B2 (Bw s)) fun _ _ _ _ _ _=>ar2 fun _ _=>rfl
 have E1:=df l.prog w X G e28 (fun F s=>Ks F B B2 (AQ s) (DJ s)) fun _ _ _ _ _ _=>ar2 fun _ _=>rfl
 have Hv:=df l.prog w X G e29 (fun F s=>Qj F B B2 (AQ s) (BI s)) fun _ _ _ _ _ _=>ar2 fun _ _=>rfl
 have C5:=df l.prog w X G e30 (fun F s=>MG F B B2) fun _ _ _ _ _ _=>ar3 fun _ _ _=>rfl
 have Df:=df l.prog w X G e31 (fun F s=>Iw F B B2 (C5 s)) fun _ _ _ _ _ _=>ar2 fun _ _=>rfl
 have EY:=df l.prog w X G e32 (fun F s=>Kq F B B2 (Df s)) fun _ _ _ _ _ _=>ar3 fun _ _ _=>rfl
 have JU:=df l.prog w X G e33 (fun F s=>Qf F B B2 (AQ s) (EY s)) fun _ _ _ _ _ _=>ar3 fun _ _ _=>rfl
 have D9:=df l.prog w X G e34 (fun F s=>Iv F B B2) fun _ _ _ _ _ _=>ar2 fun _ _=>rfl
 have EF:=df l.prog w X G e35 (fun F s=>Jk F B B2 (AQ s) (D9 s) (C5 s)) fun _ _ _ _ _ _=>ar3 fun _ _ _=>rfl
 have EC:=df l.prog w X G e36 (fun F s=>Jg F B B2 (ED s) (E1 s) (Hv s) (JU s) (EF s)) fun _ _ _ _ _ _=>ar4 fun _ _ _ _=>rfl
 have EZ:=df l.prog w X G e37 (fun F s=>Kr F B B2 (AQ s) (Bw s)) fun _ _ _ _ _ _=>ar2 fun _ _=>rfl
 obtain ⟨f,fd,a,F⟩:=e38
 cases hfa.symm.trans (PySem.W.mg_of X G a)
 refine ⟨fd,?_,fun s _ _=>Vd F B B2 (EB s) (EA s) (CQ s) (B6 s) (D1 s) (AN s) (EC s) (EZ s)⟩
 obtain ⟨_,_,_,_,_,_,_,_,_,rfl,_,_⟩:=F.ex
 exact fun s v=>.of_eq rfl
theorem walk {l:PySem.W.OpenLaw} {q:Program} {loose:List Str} {XP:(Str→Option Value)→Heap→Prop} {YP:World→Heap→Prop} {d:DefRec} {K:Params→Frag} (hn:l.most = some 63) (hdf:d.params.defaults = [])
  (hY:∀ (w:World) (h:Heap),YP w h→(K w.params).In h)
  (F:∀ (w:World) (mg:Str→Option Value) (fa:Addr) (h:Heap),(K w.params).In h→h.Ns mainGlobals mg→mg d.name = some (.ref fa) →
   ∃ fd:FuncData,(∀ (s:Shared) (u:Value),BindsTo s fd ⟨[u],[]⟩ [("_law_script",u)])∧∀ base:Heap,(K w.params).In base→base.Ns mainGlobals mg→FnOk l.prog w (K w.params) mg base CX0 14 fa fd ["_law_script"] (spJ (K w.params) H0 1)) (hT:∀ (w:World) (c b:Addr),PySem.W.tabIn (K w.params) A8 = some (c,b)→(∃ d2,(recsOf q).find? (fun e=>e.name == A8) = some d2)∧(K w.params).lookup b = none) :
  PySem.W.WalkO q loose XP YP l.row.toRowW d [] (fun f vs=>PySem.call f vs):=
 L2.TN (n:=63) (k:=14) (x := "_law_script") (CX:=fun _=>CX0) (sp:=fun w=>spJ (K w.params) H0 1) hn (by decide) hdf ⟨rfl,by decide,by decide⟩ hY F (fun _ H a ns hl hO hS=>let ⟨_,e⟩:=P1 ns hl; U1 hl hO hS e) (fun _ _ _ _ _ z=>z) hT
noncomputable def fo (n:Str) (i:Nat) (m:Str) (t:Tok) (c:Addr):Obj:={ cls:=.type "function",data:=.func (PySem.W.fnOf n n (D2 (top i)) (CV (top i)) (Bp (top i)) .none .none .none (.str m t) none (.ref c) .none) }
noncomputable def co (n:Str) (t:Nat) (l k:Int) (r:Nat) (x y:Value) (q:Nat) (u:Int) (v:Nat):Obj:={ cls:=.type "code",data:=.fields #[.str n t,.str n (t + 1),.str "/claim/cut.py" (t + 2),.int l 0,.int k 0,.int 0 0,.int 0 0,.int 3 0,.ref r,.bool true,.int 181 0,.ref (r + 1),.none,x,y,.ref q,.int u 0,.int l 0,.str "/claim/cut.py" v] }
noncomputable def en (P:Params) (n:Str) (t:Tok) (v:Value):DictEntry:=⟨PyData.keyHash P n,.str n t,v⟩
noncomputable def pq:String:="ab"
noncomputable def gE (P:Params):List DictEntry:=(fun (_:pq="ab")=>[en P "__name__" 165 (.str "law_handsapart_k15_whole_alike_three_ways" 478),
 en P "__doc__" 166 .none,
 en P "__package__" 167 .none,
 en P "__loader__" 168 (.builtin "__main__.__loader__#opaque"),
 en P "__spec__" 169 .none,
 en P "__annotations__" 170 (.ref 6),
 en P "__builtins__" 171 (.ref 4),
 en P "__file__" 173 (.str "/claim/cut.py" 172),
 en P "__cached__" 174 .none,
 en P "is_whole" 195 (.ref 21),
 en P "is_number_below" 203 (.ref 28),
 en P "is_pair" 210 (.ref 35),
 en P "is_list_of_numbers_below" 218 (.ref 42),
 en P "are_numbers_below" 224 (.ref 47),
 en P "is_rising_list_below" 230 (.ref 52),
 en P "HandError" 250 (.ref 62),
 en P "NoHouse" 266 (.ref 75),
 en P "NoRow" 282 (.ref 87),
 en P "FEWEST_HANDS" 286 (.int 2 285),
 en P "MOST_HANDS" 288 (.int 4 287),
 en P "MOST_LETTERS" 290 (.int 6 289),
 en P "is_house" 297 (.ref 96),
 en P "is_count_of_hands" 304 (.ref 103),
 en P "are_entries" 310 (.ref 108),
 en P "is_entry" 318 (.ref 115),
 en P "is_small_letter" 325 (.ref 122),
 en P "need_house" 332 (.ref 129),
 en P "letters_of" 338 (.ref 134),
 en P "hands_of" 346 (.ref 141),
 en P "is_hand_in_both" 352 (.ref 146),
 en P "is_row" 358 (.ref 151),
 en P "need_row" 366 (.ref 158),
 en P "seen_by" 374 (.ref 163),
 en P "seen_by_all" 380 (.ref 168),
 en P "seen_apart" 391 (.ref 175),
 en P "place_apart" 400 (.ref 182),
 en P "alike" 411 (.ref 189),
 en P "are_alike" 420 (.ref 196),
 en P "least_row" 428 (.ref 203),
 en P "least_row_of" 438 (.ref 210),
 en P "place_of_first" 447 (.ref 217),
 en P "front_places" 460 (.ref 224),
 en P "steps" 466 (.ref 229),
 en P "exchanges" 477 (.ref 236),
 en P "_law_truth" 487 (.ref 243),
 en P "_law_cell" 495 (.ref 250),
 en P "_law_bag" 502 (.ref 257),
 en P "_law_take" 511 (.ref 264),
 en P "_law_house" 517 (.ref 269),
 en P "_law_are_free" 523 (.ref 274),
 en P "_law_heap" 539 (.ref 281),
 en P "_law_short_heap" 548 (.ref 288),
 en P "_law_right" 559 (.ref 295),
 en P "law" 565 (.ref 300)]) rfl
noncomputable def gD (P:Params):Obj:={ cls:=.type "dict",data:=.dict (gE P).toArray 54 }
noncomputable def Kf:Params→Frag:=fun P=>(nat_lit 3,gD P) ::
 (nat_lit 20,co "is_whole" 189 2 1 15 (.ref 17) (.ref 18) 19 193 194) ::
 (nat_lit 21,fo "is_whole" 1 "handsapart.checks" 187 20) ::
 (nat_lit 27,co "is_number_below" 196 4 2 22 (.ref 24) (.ref 25) 26 201 202) ::
 (nat_lit 28,fo "is_number_below" 2 "handsapart.checks" 187 27) ::
 (nat_lit 34,co "is_pair" 204 6 1 29 (.ref 31) (.ref 32) 33 208 209) ::
 (nat_lit 35,fo "is_pair" 3 "handsapart.checks" 187 34) ::
 (nat_lit 41,co "is_list_of_numbers_below" 211 8 2 36 (.ref 38) (.ref 39) 40 216 217) ::
 (nat_lit 42,fo "is_list_of_numbers_below" 4 "handsapart.checks" 187 41) ::
 (nat_lit 46,co "are_numbers_below" 219 10 2 43 .none .none 45 222 223) ::
 (nat_lit 47,fo "are_numbers_below" 5 "handsapart.checks" 187 46) ::
 (nat_lit 51,co "is_rising_list_below" 225 12 2 48 .none .none 50 228 229) ::
 (nat_lit 52,fo "is_rising_list_below" 6 "handsapart.checks" 187 51) ::
 (nat_lit 95,co "is_house" 291 27 1 90 (.ref 92) (.ref 93) 94 295 296) ::
 (nat_lit 96,fo "is_house" 15 "handsapart.houses" 283 95) ::
 (nat_lit 102,co "is_count_of_hands" 298 31 1 97 (.ref 99) (.ref 100) 101 302 303) ::
 (nat_lit 103,fo "is_count_of_hands" 16 "handsapart.houses" 283 102) ::
 (nat_lit 107,co "are_entries" 305 33 2 104 .none .none 106 308 309) ::
 (nat_lit 108,fo "are_entries" 17 "handsapart.houses" 283 107) ::
 (nat_lit 114,co "is_entry" 311 39 2 109 (.ref 111) (.ref 112) 113 316 317) ::
 (nat_lit 115,fo "is_entry" 18 "handsapart.houses" 283 114) ::
 (nat_lit 121,co "is_small_letter" 319 43 1 116 (.ref 118) (.ref 119) 120 323 324) ::
 (nat_lit 122,fo "is_small_letter" 19 "handsapart.houses" 283 121) ::
 (nat_lit 128,co "need_house" 326 45 1 123 (.ref 125) (.ref 126) 127 330 331) ::
 (nat_lit 129,fo "need_house" 20 "handsapart.houses" 283 128) ::
 (nat_lit 133,co "letters_of" 333 48 1 130 .none .none 132 336 337) ::
 (nat_lit 134,fo "letters_of" 21 "handsapart.houses" 283 133) ::
 (nat_lit 140,co "hands_of" 339 50 2 135 (.ref 137) (.ref 138) 139 344 345) ::
 (nat_lit 141,fo "hands_of" 22 "handsapart.houses" 283 140) ::
 (nat_lit 145,co "is_hand_in_both" 347 52 2 142 .none .none 144 350 351) ::
 (nat_lit 146,fo "is_hand_in_both" 23 "handsapart.houses" 283 145) ::
 (nat_lit 150,co "is_row" 353 54 2 147 .none .none 149 356 357) ::
 (nat_lit 151,fo "is_row" 24 "handsapart.houses" 283 150) ::
 (nat_lit 157,co "need_row" 359 60 2 152 (.ref 154) (.ref 155) 156 364 365) ::
 (nat_lit 158,fo "need_row" 25 "handsapart.houses" 283 157) ::
 (nat_lit 162,co "seen_by" 369 64 3 159 .none .none 161 372 373) ::
 (nat_lit 163,fo "seen_by" 27 "handsapart.seen" 367 162) ::
 (nat_lit 167,co "seen_by_all" 375 67 2 164 .none .none 166 378 379) ::
 (nat_lit 168,fo "seen_by_all" 28 "handsapart.seen" 367 167) ::
 (nat_lit 174,co "seen_apart" 381 69 3 169 (.ref 171) (.ref 172) 173 389 390) ::
 (nat_lit 175,fo "seen_apart" 29 "handsapart.seen" 367 174) ::
 (nat_lit 181,co "place_apart" 392 77 2 176 (.ref 178) (.ref 179) 180 398 399) ::
 (nat_lit 182,fo "place_apart" 30 "handsapart.seen" 367 181) ::
 (nat_lit 188,co "alike" 403 85 3 183 (.ref 185) (.ref 186) 187 409 410) ::
 (nat_lit 189,fo "alike" 32 "handsapart.rows" 401 188) ::
 (nat_lit 195,co "are_alike" 412 89 3 190 (.ref 192) (.ref 193) 194 418 419) ::
 (nat_lit 196,fo "are_alike" 33 "handsapart.rows" 401 195) ::
 (nat_lit 202,co "least_row" 421 91 2 197 (.ref 199) (.ref 200) 201 426 427) ::
 (nat_lit 203,fo "least_row" 34 "handsapart.rows" 401 202) ::
 (nat_lit 209,co "least_row_of" 429 94 2 204 (.ref 206) (.ref 207) 208 436 437) ::
 (nat_lit 210,fo "least_row_of" 35 "handsapart.rows" 401 209) ::
 (nat_lit 216,co "place_of_first" 439 101 2 211 (.ref 213) (.ref 214) 215 445 446) ::
 (nat_lit 217,fo "place_of_first" 36 "handsapart.rows" 401 216) ::
 (nat_lit 223,co "front_places" 448 103 2 218 (.ref 220) (.ref 221) 222 458 459) ::
 (nat_lit 224,fo "front_places" 37 "handsapart.rows" 401 223) ::
 (nat_lit 228,co "steps" 461 112 2 225 .none .none 227 464 465) ::
 (nat_lit 229,fo "steps" 38 "handsapart.rows" 401 228) ::
 (nat_lit 235,co "exchanges" 467 120 2 230 (.ref 232) (.ref 233) 234 475 476) ::
 (nat_lit 236,fo "exchanges" 39 "handsapart.rows" 401 235) ::
 (nat_lit 242,co "_law_truth" 480 129 2 237 (.ref 239) (.ref 240) 241 485 486) ::
 (nat_lit 243,fo "_law_truth" 41 "law_handsapart_k15_whole_alike_three_ways" 478 242) ::
 (nat_lit 249,co "_law_cell" 488 131 2 244 (.ref 246) (.ref 247) 248 493 494) ::
 (nat_lit 250,fo "_law_cell" 42 "law_handsapart_k15_whole_alike_three_ways" 478 249) ::
 (nat_lit 256,co "_law_bag" 496 135 1 251 (.ref 253) (.ref 254) 255 500 501) ::
 (nat_lit 257,fo "_law_bag" 43 "law_handsapart_k15_whole_alike_three_ways" 478 256) ::
 (nat_lit 263,co "_law_take" 503 139 2 258 (.ref 260) (.ref 261) 262 509 510) ::
 (nat_lit 264,fo "_law_take" 44 "law_handsapart_k15_whole_alike_three_ways" 478 263) ::
 (nat_lit 268,co "_law_house" 512 147 1 265 .none .none 267 515 516) ::
 (nat_lit 269,fo "_law_house" 45 "law_handsapart_k15_whole_alike_three_ways" 478 268) ::
 (nat_lit 273,co "_law_are_free" 518 161 3 270 .none .none 272 521 522) ::
 (nat_lit 274,fo "_law_are_free" 46 "law_handsapart_k15_whole_alike_three_ways" 478 273) ::
 (nat_lit 280,co "_law_heap" 524 166 3 275 (.ref 277) (.ref 278) 279 537 538) ::
 (nat_lit 281,fo "_law_heap" 47 "law_handsapart_k15_whole_alike_three_ways" 478 280) ::
 (nat_lit 287,co "_law_short_heap" 540 181 2 282 (.ref 284) (.ref 285) 286 546 547) ::
 (nat_lit 288,fo "_law_short_heap" 48 "law_handsapart_k15_whole_alike_three_ways" 478 287) ::
 (nat_lit 294,co "_law_right" 549 187 4 289 (.ref 291) (.ref 292) 293 557 558) ::
 (nat_lit 295,fo "_law_right" 49 "law_handsapart_k15_whole_alike_three_ways" 478 294) ::
 (nat_lit 299,co "law" 560 194 1 296 .none .none 298 563 564) ::
 (nat_lit 300,fo "law" 50 "law_handsapart_k15_whole_alike_three_ways" 478 299) :: (fun (_:pq="ab")=>[]) rfl
theorem Rg (P:Params):PySem.W.tabIn (Kf P) A8 = some (nat_lit 216,nat_lit 212):=by kernel_rfl
theorem WW (P:Params):PySem.W.codeHdIn (Kf P) (nat_lit 216) (nat_lit 212) = true:=by kernel_rfl
theorem W5 (P:Params):(Kf P).lookup (nat_lit 212) = none:=by kernel_rfl
end Gk15
open PySem PySem.W PyProof.Rows
set_option maxRecDepth 100000 in
set_option maxHeartbeats 0 in
theorem PySem.Challenge.cw_handsapart_k15_whole_alike_three_ways_holds : PySem.Challenge.rw_handsapart_k15_whole_alike_three_ways.Holds := by
 w_on; o_law; o_head (PySem.W.kHook Gk15.Kf (nat_lit 3 :: nat_lit 20 :: nat_lit 21 :: nat_lit 27 :: nat_lit 28 :: nat_lit 34 :: nat_lit 35 :: nat_lit 41 :: nat_lit 42 :: nat_lit 46 :: nat_lit 47 :: nat_lit 51 :: nat_lit 52 :: nat_lit 95 :: nat_lit 96 :: nat_lit 102 :: nat_lit 103 :: nat_lit 107 :: nat_lit 108 :: nat_lit 114 :: nat_lit 115 :: nat_lit 121 :: nat_lit 122 :: nat_lit 128 :: nat_lit 129 :: nat_lit 133 :: nat_lit 134 :: nat_lit 140 :: nat_lit 141 :: nat_lit 145 :: nat_lit 146 :: nat_lit 150 :: nat_lit 151 :: nat_lit 157 :: nat_lit 158 :: nat_lit 162 :: nat_lit 163 :: nat_lit 167 :: nat_lit 168 :: nat_lit 174 :: nat_lit 175 :: nat_lit 181 :: nat_lit 182 :: nat_lit 188 :: nat_lit 189 :: nat_lit 195 :: nat_lit 196 :: nat_lit 202 :: nat_lit 203 :: nat_lit 209 :: nat_lit 210 :: nat_lit 216 :: nat_lit 217 :: nat_lit 223 :: nat_lit 224 :: nat_lit 228 :: nat_lit 229 :: nat_lit 235 :: nat_lit 236 :: nat_lit 242 :: nat_lit 243 :: nat_lit 249 :: nat_lit 250 :: nat_lit 256 :: nat_lit 257 :: nat_lit 263 :: nat_lit 264 :: nat_lit 268 :: nat_lit 269 :: nat_lit 273 :: nat_lit 274 :: nat_lit 280 :: nat_lit 281 :: nat_lit 287 :: nat_lit 288 :: nat_lit 294 :: nat_lit 295 :: nat_lit 299 :: nat_lit 300 :: []) (fun _=>by kernel_rfl)); (case hw=>w_witness2)
 k_fill
 refine Gk15.walk (l:=PySem.Challenge.rw_handsapart_k15_whole_alike_three_ways) rfl rfl (fun w h Y=>PySem.W.kIn_of Y) ?F (fun w c b e=>by
  rw [Gk15.Rg w.params] at e
  cases e
  exact ⟨Option.isSome_iff_exists.mp (by kernel_rfl),Gk15.W5 w.params⟩)
 case F =>
  intro w mg fa h KX G hmg
  refine' Gk15.all_mk KX G hmg ?_ ?_ ?_ ?_ ?_ ?_ ?_ ?_ ?_ ?_ ?_ ?_ ?_ ?_ ?_ ?_ ?_ ?_ ?_ ?_ ?_ ?_ ?_ ?_ ?_ ?_ ?_ ?_ ?_ ?_ ?_ ?_ ?_ ?_ ?_ ?_ ?_ ?_ ?_ ?_ ?_ ?_ ?_ ?_ ?_ ?_ ?_ ?_ ?_ ?_ ?_ ?_ ?_ ?_ ?_ ?_ ?_ ?_ ?_ (Gk15.Rg w.params) (Gk15.WW w.params)
  all_goals first | k_is | (refine' Gk15.WT ?a ?l ?c ?k; (case a=>k_is); (case l=>k_is); (case c=>k_is); (case k=>k_is)) | skip
end
