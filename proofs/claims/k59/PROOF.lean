import PyProof.Rows.All
import Wide.All
import OpenK.AllK
import PySem.Challenge.RW_handsapart_k59_sets_known
open PySem.W (Frag)
open Option (bind_eq_some_iff map_eq_some_iff)
set_option Elab.async false
set_option linter.all false
set_option maxRecDepth 100000
set_option maxHeartbeats 4000000
theorem dK{p:Prop}(h:p:=by decide +kernel):p:=h
section
namespace L2
open PySem PySem.Spec PyProof.Rows
noncomputable abbrev Key:=Sum Int Str
noncomputable def SD:Key->Value->Bool
 | .inl k,v=>Value.isInt k v
 | .inr x,v=>Value.isStrOf x v
noncomputable def WG(w:World):Key->Int
 | .inl k=>hashInt k
 | .inr x=>hashStr w x
theorem Bw:∀{k:Key} {v:Value},SD k v=true->(∃i t,k=Sum.inl i/\v=Value.int i t)\/(∃x t,k=Sum.inr x/\v=Value.str x t)
 | .inl i,v,h=>by
  obtain⟨t,e⟩:=Value.isInt_shape (k:=i) (v:=v) h;exact .inl ⟨i,t,rfl,e⟩
 | .inr x,v,h=>by
  obtain⟨t,e⟩:=Value.isStrOf_shape (x:=x) (v:=v) h;exact .inr ⟨x,t,rfl,e⟩
theorem TC(a b:Int):decide ((Sum.inl a:Key)=Sum.inl b)=(a==b):=by
 by_cases e:a=b
 .subst e; simp
 .have h:¬(Sum.inl a:Key)=Sum.inl b:=fun q=>e (Sum.inl.inj q)
  rw[decide_eq_false h];exact(beq_eq_false_iff_ne.mpr e).symm
theorem TJ(a b:Str):decide ((Sum.inr a:Key)=Sum.inr b)=decide (a=b):=by
 by_cases e:a=b
 .subst e; simp
 .have h:¬(Sum.inr a:Key)=Sum.inr b:=fun q=>e (Sum.inr.inj q)
  rw[decide_eq_false h,decide_eq_false e]
theorem TF(a:Int)(b:Str):decide ((Sum.inl a:Key)=Sum.inr b)=false:=decide_eq_false (fun q=>nomatch q)
theorem TH(a:Str)(b:Int):decide ((Sum.inr a:Key)=Sum.inl b)=false:=decide_eq_false (fun q=>nomatch q)
noncomputable def Nf(prog:Program)(w:World):PySem.KeyKind prog w Key where
 is:=SD
 hash:=WG w
 inj:=fun v a b ha hb=>by
  rcases Bw ha with ⟨i,t,rfl,rfl⟩|⟨x,t,rfl,rfl⟩
  .rcases Bw hb with ⟨j,u,rfl,e⟩|⟨y,u,rfl,e⟩
   .injection e with e1 _; rw[e1]
   .exact nomatch e
  .rcases Bw hb with ⟨j,u,rfl,e⟩|⟨y,u,rfl,e⟩
   .exact nomatch e
   .injection e with e1 _; rw[e1]
 byValue:=fun k v h=>by
  rcases Bw h with ⟨i,t,rfl,rfl⟩|⟨x,t,rfl,rfl⟩<;>rfl
 pyHash:=fun hv h=>by
  rcases Bw hv with ⟨i,t,rfl,rfl⟩|⟨x,t,rfl,rfl⟩
  .exact wpAny_pyHash_int h
  .exact wpAny_pyHash_str h
 eqBool:=fun hu hv h=>by
  rcases Bw hu with ⟨i,t,rfl,rfl⟩|⟨x,t,rfl,rfl⟩
  .rcases Bw hv with ⟨j,u,rfl,rfl⟩|⟨y,u,rfl,rfl⟩
   .rw[TC] at h; exact wpAny_eqBool_int h
   .rw[TF] at h; exact SeqAt.EqAt.int_str i t y u _ _ _ _ h
  .rcases Bw hv with ⟨j,u,rfl,rfl⟩|⟨y,u,rfl,rfl⟩
   .rw[TH] at h; exact SeqAt.EqAt.str_int x t j u _ _ _ _ h
   .rw[TJ] at h; exact wpAny_eqBool_str h
 «strs»:=fun k x t v h=>by
  rcases Bw h with ⟨i,u,rfl,e⟩|⟨y,u,rfl,e⟩
  .exact nomatch e
  .injection e with e1 _
   subst e1;cases v<;>rfl
end L2
namespace L2
open PySem PySem.Spec PyProof.Rows
inductive V where
 | non|bl (b:Bool)|int (i:Int)|str (x:Str)|byt (b:Array UInt8)|flt (b:UInt64)|ref (a:Addr)|ty (n:String)
 deriving DecidableEq
noncomputable def RelV:V->Value->Prop
 | .non,u=>u=Value.none
 | .bl b,u=>u=Value.bool b
 | .int i,u=>∃t,u=Value.int i t
 | .str x,u=>∃t,u=Value.str x t
 | .byt b,u=>∃t,u=Value.bytes b t
 | .flt b,u=>∃t,u=Value.float b t
 | .ref a,u=>u=Value.ref a
 | .ty n,u=>u=Value.type n
noncomputable abbrev Vals:List V->List Value->Prop:=Paired RelV
theorem Vals.length{xs:List V}{us:List Value}(r:Vals xs us):xs.length=us.length:=Paired.length r
theorem Vals.get:∀{xs:List V} {us:List Value} {i:Nat} {x:V},Vals xs us->xs[i]? = some x->∃u,us[i]? = some u/\RelV x u
 | _,_,_,_,.nil,e=>by simp at e
 | _,_,0,_,.cons r _,e=>by simp at e; subst e; exact⟨_,rfl,r⟩
 | _,_,i+1,x,.cons _ t,e=>by
  obtain⟨u,h1,h2⟩:=Vals.get (i:=i) (x:=x) t (by simpa using e);exact⟨u,by simpa using h1,h2⟩
theorem Vals.set{x:V}{u:Value}(r:RelV x u):∀{xs:List V} {us:List Value} (i:Nat),Vals xs us->Vals (xs.set i x) (us.set i u)
 | _,_,_,.nil=>.nil
 | _,_,0,.cons _ t=>.cons r t
 | _,_,i+1,.cons q t=>.cons q (Vals.set r i t)
theorem Vals.append{xs ys:List V}{us ws:List Value}(h:Vals xs us)(s:Vals ys ws):Vals (xs++ys) (us++ws):=by
 induction h with
 | nil=>exact s
 | cons r t ih=>exact .cons r ih
theorem Vals.take:∀{xs:List V} {us:List Value} (n:Nat),Vals xs us->Vals (xs.take n) (us.take n)
 | _,_,0,_=>.nil
 | _,_,_+1,.nil=>.nil
 | _,_,n+1,.cons r t=>.cons r (Vals.take n t)
theorem Vals.drop:∀{xs:List V} {us:List Value} (n:Nat),Vals xs us->Vals (xs.drop n) (us.drop n)
 | _,_,0,r=>r
 | _,_,_+1,.nil=>.nil
 | _,_,n+1,.cons _ t=>Vals.drop n t
noncomputable def SR:Option V->Option Value->Prop
 | some v,some u=>RelV v u
 | none,none=>True
 | _,_=>False
noncomputable def KV{κ:Type}:List (κ×V)->List (κ×Value)->Prop:=Paired fun(p : κ×V) (q : κ×Value)=>p.1=q.1/\RelV p.2 q.2
noncomputable def kV:Key->V
 | .inl i=>.int i
 | .inr x=>.str x
inductive D where
 | non|bl (b:Bool)|int (i:Int)|str (x:Str)|lst (ds:List D)|tup (ds:List D)
mutual
noncomputable def eqS:D->D->Bool
 | .non,.non=>true
 | .bl a,.bl b=>a==b
 | .int a,.int b=>a==b
 | .str a,.str b=>a==b
 | .lst xs,.lst ys=>LU xs ys
 | .tup xs,.tup ys=>LU xs ys
 | _,_=>false
noncomputable def LU:List D->List D->Bool
 | [],[]=>true
 | x::xs,y::ys=>eqS x y&&LU xs ys
 | _,_=>false
end
mutual
theorem KW:∀d,eqS d d=true
 | .non=>rfl
 | .bl a=>by show(a==a)=true; exact beq_self_eq_true a
 | .int a=>by show(a==a)=true; exact beq_self_eq_true a
 | .str a=>by show(a==a)=true; exact beq_self_eq_true a
 | .lst xs=>GX xs
 | .tup xs=>GX xs
theorem GX:∀ds,LU ds ds=true
 | []=>rfl
 | d::ds=>by show(eqS d d&&LU ds ds)=true; rw[KW d,GX ds]; rfl
end
mutual
theorem OO:∀(d e:D),eqS d e=true->d=e
 | .non,e,h=>by cases e<;>first|rfl|exact nomatch h
 | .bl a,e,h=>by
  cases e with
  | bl b=>rw[eq_of_beq (show(a==b)=true from h)]
  | _=>exact nomatch h
 | .int a,e,h=>by
  cases e with
  | int b=>rw[eq_of_beq (show(a==b)=true from h)]
  | _=>exact nomatch h
 | .str a,e,h=>by
  cases e with
  | str b=>rw[eq_of_beq (show(a==b)=true from h)]
  | _=>exact nomatch h
 | .lst xs,e,h=>by
  cases e with
  | lst ys=>rw[J3 xs ys h]
  | _=>exact nomatch h
 | .tup xs,e,h=>by
  cases e with
  | tup ys=>rw[J3 xs ys h]
  | _=>exact nomatch h
theorem J3:∀(xs ys:List D),LU xs ys=true->xs=ys
 | [],ys,h=>by cases ys with|nil=>rfl|cons _ _=>exact nomatch h
 | x::xs,ys,h=>by
  cases ys with
  | nil=>exact nomatch h
  | cons y ys =>
   have h':(eqS x y&&LU xs ys)=true:=h;rw[Bool.and_eq_true] at h';rw[OO x y h'.1,J3 xs ys h'.2]
end
noncomputable instance:DecidableEq D:=fun a b=>decidable_of_iff (eqS a b=true) ⟨OO a b,fun e=>e ▸ KW a⟩
mutual
noncomputable def Dw(w:World):D->Int
 | .int i=>hashInt i
 | .str x=>hashStr w x
 | .tup ds=>reduceHash (Builtin.Tuple.tupleHashOf (G3 w ds))
 | .non=>0xFCA86420
 | .bl _=>0
 | .lst _=>0
noncomputable def G3(w:World):List D->List Int
 | []=>[]
 | d::ds=>Dw w d::G3 w ds
end
inductive HO where
 /-- a list -/
 | lst (xs:List V)
 /-- a tuple (never changes) -/
 | tup (xs:List V)
 /-- a dict whose keys are ints and texts; one whose keys are tuples of ints and texts (the empty one is both) -/
 | dK (kvs:List (Key×V))|dT (kvs:List (D×V))
 /-- a set of ints: its members,its size -/
 | set (S:Int->Bool) (n:Nat)
 /-- an instance of the class at C,its dict at dx,its attributes -/
 | ins (C dx:Addr) (fs:List (Str×V))
 /-- the dict of the instance at x -/
 | own (x:Addr)
 /-- the dict of an exception -/
 | xd (fs:List (Str×V))
 /-- a bound method,f of x -/
 | met (f x:Addr)
 /-- a range object lo,lo+1,.. below hi -/
 | rng (lo hi:Int)
 /-- a thing that is known to the object (the script; a dict while a loop walks it): read,never written while it is so -/
 | frz (o:Obj) (u:HO)
 /-- a code object's table -/
 | tbl (ps:Array Value)
 /-- any other thing,by what is true of its one object (a def of one's own: SetO a S n:=HO.ext fun h=>..) -/
 | ext (φ : Heap->Prop)
noncomputable abbrev Hp:=Addr->Option HO
noncomputable def upd(H:Hp)(a:Addr)(o:HO):Hp:=fun b=>if b=a then some o else H b
theorem AR{H:Hp}{a:Addr}{o:HO}:upd H a o a=some o:=by unfold upd; rw[if_pos rfl]
theorem AE{H:Hp}{a b:Addr}{o:HO}(h:b≠a):upd H a o b=H b:=by unfold upd; rw[if_neg h]
theorem C4{H:Hp}{a b:Addr}{o:HO}(h:H a=some o)(h':H b=none):a≠b:=by
 intro e; subst e; rw[h] at h'; cases h'
inductive Sh:Nat->D->Prop where
 | non {n:Nat}:Sh n .non
 | bl {n:Nat} (b:Bool):Sh n (.bl b)
 | int {n:Nat} (i:Int):Sh n (.int i)
 | str {n:Nat} (x:Str):Sh n (.str x)
 | lst {n:Nat} {ds:List D} (h:∀d∈ds,Sh n d):Sh (n+1) (.lst ds)
 | tup {n:Nat} {ds:List D} (h:∀d∈ds,Sh n d):Sh (n+1) (.tup ds)
inductive KR (H:Hp):V->D->Prop where
 | non:KR H .non .non
 | int (i:Int):KR H (.int i) (.int i)
 | str (x:Str) (hx:x.length<=sizeLine):KR H (.str x) (.str x)
 | tup {a:Addr} {vs:List V} {ds:List D} (h:H a=some (.tup vs)) (hz:vs.length<=sizeLine) (hl:vs.length=ds.length) (hr:∀(i:Nat) v d,vs[i]? = some v->ds[i]? = some d->KR H v d):KR H (.ref a) (.tup ds)
theorem KR.mono{H H':Hp}(t:∀b xs,H b=some (.tup xs)->H' b=some (.tup xs)){v:V}{d:D}(r:KR H v d):KR H' v d:=by
 induction r with
 | non=>exact .non
 | int i=>exact .int i
 | str x hx=>exact .str x hx
 | tup h hz hl _ ih=>exact .tup (t _ _ h) hz hl ih
noncomputable def GV(w:World)(x:D×Value×Value):DictEntry:=⟨Dw w x.1,x.2.1,x.2.2⟩
noncomputable abbrev TK:Str := "law"
noncomputable abbrev Kb:Str := "law.<locals>.<lambda>"
noncomputable abbrev Rq:Str := "place_of_first"
noncomputable abbrev Pn:Str := "place_of_first.<locals>.<lambda>"
noncomputable def Kc:List (Str×Str):=[(TK,Kb),(Rq,Pn)]
noncomputable def Vt(H:Hp)(h:Heap)(a:Addr)(ps:Array Value):Prop:=∃qs:Array Value,h.get? a=some { cls:=.none,data:=.fields qs }/\TriplesOk qs.toList /\
 ∀pos c,codeAmong pos qs.toList=some c->∃c' oc vs t q,c=.ref c'/\H c'=some (.own a)/\h.get? c'=some oc/\oc.data=.fields vs/\vs[1]? = some (.str q t)/\ps[0]? = some (.str q 0)
noncomputable def NF(K:Frag)(H:Hp):Prop:=∀(n q:Str),(n,q)∈Kc->∀c P,PySem.W.tabIn K n=some (c,P)->∃ps,H P=some (.tbl ps)/\ps[0]? = some (.str q 0)
section
variable(P:Program)(w:World)
noncomputable def BV(H:Hp)(h:Heap)(a:Addr):HO->Prop
 | .lst xs=>xs.length<=sizeLine/\∃(its:List Value) (n:Nat),Vals xs its/\h.get? a=some { cls:=.type "list",data:=.seq its.toArray n }
 | .tup xs=>xs.length<=sizeLine/\∃its:List Value,Vals xs its/\IsTup h a its.toArray
 | .dK kvs=>kvs.length<=sizeLine/\(a==sysModules)=false/\∃vs,KV kvs vs/\h.DictOf (Nf P w) a vs
 | .dT kvs=>kvs.length<=sizeLine/\(a==sysModules)=false/\∃xs:List (D×Value×Value),
   Paired (fun(p:D×V) (q:D×Value×Value)=>p.1=q.1/\(Sh 8 p.1/\∃y,KR H y p.1/\RelV y q.2.1)/\RelV p.2 q.2.2) kvs xs /\
   ∃o es ep,h.get? a=some o/\o.ExactDict/\o.data=.dict es ep/\es.toList=xs.map (GV w)/\(xs.map (·.1)).Nodup
 | .set S n=>h.SetOf (intKind P w) a S n
 | .ins C dx fs=>H dx=some (.own a)/\fs.length<=1000/\dx≠a/\h.get? a=some (PySem.W.instObj C dx) /\
   ∃mA,h.Ns1 dx mA/\(∀f,SR (fs.lookup f) (mA f))/\PySem.Within mA (fs.map (·.1))
 | .own _=>∃o,h.get? a=some o
 | .xd fs=>∃mA,h.Ns1 a mA/\∀f,SR (fs.lookup f) (mA f)
 | .rng lo hi=>∃t u v,h.get? a=some { cls:=.type "range",data:=.fields #[.int lo t,.int hi u,.int 1 v] }
 | .frz o u=>h.get? a=some o/\BV H h a u
 | .tbl ps=>Vt H h a ps
 | .met f x=>h.get? a=some (PySem.W.methodObj (.ref f) (.ref x))
 | .ext φ=>φ h/\(∃o,h.get? a=some o)/\∀h1 h2:Heap,φ h1->(∀o,h1.get? a=some o->h2.get? a=some o) -> φ h2
noncomputable def HOk(H:Hp)(h:Heap):Prop:=∀a o,H a=some o->BV P w H h a o
end
section
variable{P:Program}{w:World}{H H':Hp}{h h':Heap}{a:Addr}{o:HO}
theorem BV.lt(x:BV P w H h a o):a<h.objs.size:=by
 cases o with
 | lst xs=>obtain⟨_,_,_,_,e⟩:=x; exact Heap.lt_size e
 | tup xs=>obtain⟨_,_,_,p⟩:=x; exact p.lt
 | dK kvs=>obtain⟨_,_,_,_,o,_,_,e,_⟩:=x; exact Heap.lt_size e
 | dT kvs=>obtain⟨_,_,_,_,o,_,_,e,_⟩:=x; exact Heap.lt_size e
 | set S n=>obtain⟨o,_,_,_,e,_⟩:=x; exact Heap.lt_size e
 | ins C dx fs=>obtain⟨_,_,_,e,_⟩:=x; exact Heap.lt_size e
 | own y=>obtain⟨_,e⟩:=x; exact Heap.lt_size e
 | xd fs=>obtain⟨_,⟨_,_,_,e,_⟩,_⟩:=x; exact Heap.lt_size e
 | rng lo hi=>obtain⟨_,_,_,e⟩:=x; exact Heap.lt_size e
 | frz ob u=>obtain⟨e,_⟩:=x; exact Heap.lt_size e
 | tbl ps=>obtain⟨_,e,_⟩:=x; exact Heap.lt_size e
 | met f y=>exact Heap.lt_size (show h.get? a=some _ from x)
 | ext φ=>obtain⟨_,⟨_,e⟩,_⟩:=x; exact Heap.lt_size e
theorem Paired.mapP{α β:Type}{F G:α -> β -> Prop}{l₁:List α}{l₂:List β}(h:Paired F l₁ l₂)(f:∀a b,F a b->G a b):Paired G l₁ l₂:=by
 induction h with
 | nil=>exact .nil
 | cons r t ih=>exact .cons (f _ _ r) ih
theorem BV.stay(x:BV P w H h a o)(k:∀b u,(b=a\/H b=some (.own a))->h.get? b=some u->h'.get? b=some u)(ho:∀b,H b=some (.own a)->H' b=some (.own a))(ht:∀b xs,H b=some (.tup xs)->H' b=some (.tup xs)):BV P w H' h' a o:=by
 induction o with
 | lst xs=>obtain⟨z,its,n,r,e⟩:=x; exact⟨z,its,n,r,k _ _ (.inl rfl) e⟩
 | tup xs=>obtain⟨z,its,r,ob,e,c⟩:=x; exact⟨z,its,r,ob,k _ _ (.inl rfl) e,c⟩
 | dK kvs=>obtain⟨z,y,vs,r,ob,es,ep,e,c⟩:=x; exact⟨z,y,vs,r,ob,es,ep,k _ _ (.inl rfl) e,c⟩
 | dT kvs =>
  obtain⟨z,y,xs,r,ob,es,ep,e,c⟩:=x;exact⟨z,y,xs,Paired.mapP r fun p q z=>⟨z.1,⟨z.2.1.1,z.2.1.2.imp fun y yy=>⟨yy.1.mono ht,yy.2⟩⟩,z.2.2⟩,ob,es,ep,k _ _ (.inl rfl) e,c⟩
 | set S n=>obtain⟨ob,es,ep,t,e,c⟩:=x; exact⟨ob,es,ep,t,k _ _ (.inl rfl) e,c⟩
 | ins C dx fs =>
  obtain⟨d,z,ne,e,mA,⟨od,es,ep,e2,c⟩,r⟩:=x;exact⟨ho _ d,z,ne,k _ _ (.inl rfl) e,mA,⟨od,es,ep,k _ _ (.inr d) e2,c⟩,r⟩
 | own y=>obtain⟨ob,e⟩:=x; exact⟨ob,k _ _ (.inl rfl) e⟩
 | xd fs=>obtain⟨mA,⟨od,es,ep,e,c⟩,r⟩:=x; exact⟨mA,⟨od,es,ep,k _ _ (.inl rfl) e,c⟩,r⟩
 | rng lo hi=>obtain⟨t,u,v,e⟩:=x; exact⟨t,u,v,k _ _ (.inl rfl) e⟩
 | frz ob u ih=>obtain⟨e,q⟩:=x; exact⟨k _ _ (.inl rfl) e,ih q⟩
 | tbl ps =>
  obtain⟨qs,e,tr,f⟩:=x;refine⟨qs,k _ _ (.inl rfl) e,tr,fun pos c hc=>?_⟩;obtain⟨c',oc,vs,t,q,e1,e2,e3,e4⟩:=f pos c hc;exact⟨c',oc,vs,t,q,e1,ho _ e2,k _ _ (.inr e2) e3,e4⟩
 | met f y =>
  have e:h.get? a=some (PySem.W.methodObj (.ref f) (.ref y)):=x;show h'.get? a=some (PySem.W.methodObj (.ref f) (.ref y));exact k a _ (.inl rfl) e
 | ext φ=>obtain⟨p,⟨o,e⟩,st⟩:=x; exact⟨st _ _ p fun o q=>k _ _ (.inl rfl) q,⟨o,k _ _ (.inl rfl) e⟩,st⟩
theorem HOk.lt(x:HOk P w H h)(e:H a=some o):a<h.objs.size:=(x a o e).lt
theorem HOk.fresh(x:HOk P w H h)(e:h.objs.size<=a):H a=none:=by
 cases q:H a with
 | none=>rfl
 | some u=>exact absurd (Nat.lt_of_lt_of_le (x.lt q) e) (Nat.lt_irrefl _)
theorem HOk.kept(x:HOk P w H h)(k:∀b u,h.get? b=some u->h'.get? b=some u):HOk P w H h':=fun a o e =>
 (x a o e).stay (fun b u _ q=>k b u q) (fun _ q=>q) fun _ _ q=>q
theorem HOk.laid(x:HOk P w H h)(k:∀b u,h.get? b=some u->h'.get? b=some u)(hp:h.objs.size<=a)(new:BV P w (upd H a o) h' a o):HOk P w (upd H a o) h':=fun b u e=>by
 have hn:=x.fresh hp;by_cases hb:b=a
 .subst hb; rw[AR] at e; cases e; exact new
 .rw[AE hb] at e
  exact(x b u e).stay (fun c v _ q=>k c v q) (fun c q=>by rw[AE (C4 q hn)]; exact q) fun c xs q=>by rw[AE (C4 q hn)]; exact q
end
noncomputable def Rd(H:Hp)(a:Addr)(u:HO):Prop:=H a=some u\/∃o,H a=some (.frz o u)
theorem Rd.ok{P:Program}{w:World}{H:Hp}{h:Heap}{a:Addr}{u:HO}(r:Rd H a u)(x:HOk P w H h):BV P w H h a u:=by
 rcases r with r|⟨o,r⟩
 .exact x a u r
 .obtain⟨_,q⟩:=x a _ r
  exact q
noncomputable def Mut:Option HO->Prop
 | some (.lst _)=>True
 | some (.dK _)=>True
 | some (.dT _)=>True
 | some (.set _ _)=>True
 | some (.ins _ _ _)=>True
 | some (.ext _)=>True
 | _=>False
section
variable{P:Program}{w:World}{H:Hp}{h h':Heap}{x e:Addr}{o':HO}
theorem HOk.write(ok:HOk P w H h)(mu:Mut (H x))(he:e=x\/H e=some (.own x))(k:∀b u,b≠e->h.get? b=some u->h'.get? b=some u)(heo:∃u,h'.get? e=some u)(new:BV P w (upd H x o') h' x o'):HOk P w (upd H x o') h':=fun b u q=>by
 have nown:∀c y,H c=some (.own y)->c≠x:=fun c y r z=>by subst z; rw[r] at mu; exact mu
 have ntup:∀c xs,H c=some (.tup xs)->c≠x:=fun c xs r z=>by subst z; rw[r] at mu; exact mu
 by_cases hb:b=x
 .subst hb; rw[AR] at q; cases q; exact new
 .rw[AE hb] at q
  by_cases hbe:b=e
  .have q':H b=some (.own x):=by
    rcases he with z|z
    .exact absurd (hbe.trans z) hb
    .rw[hbe]; exact z
   rw[q] at q'; cases q';obtain⟨v,hv⟩:=heo;exact⟨v,by rw[hbe]; exact hv⟩
  .refine(ok b u q).stay (fun c v hc r=>k c v ?_ r) (fun c r=>by rw[AE (nown c b r)]; exact r) fun c xs r=>by rw[AE (ntup c xs r)]; exact r
   rcases hc with rfl|hc
   .exact hbe
   .rintro rfl
    rcases he with z|z
    .exact nown c b hc z
    .rw[hc] at z; cases z; exact hb rfl
end
structure Un (fs ex:List Addr) (H H':Hp) (h h':Heap):Prop where
 keep:∀b o,h.get? b=some o->H b=none->b∉fs->b∉ex->h'.get? b=some o
 slot:∀b o,h.get? b=some o->H b=none->b∈fs->b∉ex->∃sl,h'.get? b=some { o with slots:=sl }
 free:∀b o,h.get? b=some o->H b=none->b∉ex->H' b=none
 there:∀b o,h.get? b=some o->b∉ex->∃o',h'.get? b=some o'
 tups:∀b xs,H b=some (.tup xs)->H' b=some (.tup xs)
 frzs:∀b o u,H b=some (.frz o u)->H' b=some (.frz o u)
 tbls:∀b ps,H b=some (.tbl ps)->∃more,H' b=some (.tbl (ps++more))
section
variable{fs fs' ex ex':List Addr}{H H1 H2:Hp}{h h1 h2 h':Heap}{a x e:Addr}{o:HO}
theorem Un.any(u:Un fs ex H H1 h h1){b:Addr}{ob:Obj}(q:h.get? b=some ob)(n:H b=none)(hx:b∉ex):∃sl,h1.get? b=some { ob with slots:=sl }:=by
 by_cases hb:b∈fs
 .exact u.slot b ob q n hb hx
 .exact⟨ob.slots,u.keep b ob q n hb hx⟩
theorem Un.kept(k:∀b u,h.get? b=some u->h'.get? b=some u):Un fs ex H H h h':=
 ⟨fun b ob q _ _ _=>k b ob q,fun b ob q _ _ _=>⟨ob.slots,k b ob q⟩,fun _ _ _ n _=>n,fun b ob q _=>⟨ob,k b ob q⟩,fun _ _ q=>q,fun _ _ _ q=>q,fun _ ps q=>⟨#[],by rw[q]; simp⟩⟩
theorem Un.refl:Un fs ex H H h h:=Un.kept fun _ _ q=>q
theorem Un.laid(k:∀b u,h.get? b=some u->h'.get? b=some u)(hp:h.objs.size<=a)(hn:H a=none):Un fs ex H (upd H a o) h h' where
 keep:=fun b u q _ _ _=>k b u q
 slot:=fun b u q _ _ _=>⟨u.slots,k b u q⟩
 free:=fun b u q n _=>by rw[AE (Nat.ne_of_lt (Nat.lt_of_lt_of_le (Heap.lt_size q) hp))]; exact n
 there:=fun b u q _=>⟨u,k b u q⟩
 tups:=fun b xs q=>by rw[AE (C4 q hn)]; exact q
 frzs:=fun b u xs q=>by rw[AE (C4 q hn)]; exact q
 tbls:=fun b ps q=>⟨#[],by rw[AE (C4 q hn),q]; simp⟩
theorem Un.write(mu:Mut (H x))(he:e=x\/H e=some (.own x))(k:∀b u,b≠e->h.get? b=some u->h'.get? b=some u)(heo:∃u,h'.get? e=some u):Un fs ex H (upd H x o) h h':=by
 have hx:∀b,H b=none->b≠x:=fun b n z=>by subst z; rw[n] at mu; exact mu
 have hb:∀b,H b=none->b≠e:=fun b n z=>by
  subst z;rcases he with r|r
  .exact hx b n r
  .rw[n] at r; cases r
 have hm:∀b u,H b=some u->¬Mut (some u)->b≠x:=fun b u q nm z=>by subst z; rw[q] at mu; exact nm mu
 refine⟨fun b u q n _ _=>k b u (hb b n) q,fun b u q n _ _=>⟨u.slots,k b u (hb b n) q⟩,fun b u q n _=>by rw[AE (hx b n)]; exact n,fun b u q _=>?_,
  fun b xs q=>by rw[AE (hm b _ q fun z=>z)]; exact q,fun b u xs q=>by rw[AE (hm b _ q fun z=>z)]; exact q,fun b ps q=>⟨#[],by rw[AE (hm b _ q fun z=>z),q]; simp⟩⟩
 by_cases hbe:b=e
 .subst hbe; exact heo
 .exact⟨u,k b u hbe q⟩
end
noncomputable def trk(h:Heap)(H:Hp):List Addr:=(List.range h.objs.size).filter fun a=>(H a).isSome
noncomputable def Jc(h:Heap)(H:Hp):Heap:=PySem.W.hideAll h (trk h H)
theorem NO(h:Heap)(H:Hp):(Jc h H).objs.size=h.objs.size:=PySem.W.hideAll_size _ _
theorem OU{h:Heap}{H:Hp}{b:Addr}{o:Obj}(e:h.get? b=some o)(n:H b=none):(Jc h H).get? b=some o:=
 PySem.W.hideAll_get _ e fun hm=>by
  have q:(H b).isSome=true:=(List.mem_filter.mp hm).2;rw[n] at q; simp at q
theorem Rx{h:Heap}{H:Hp}{b:Addr}{o:Obj}(e:(Jc h H).get? b=some o):h.get? b=some o/\H b=none:=by
 have e':h.get? b=some o:=PySem.W.of_hideAll (trk h H) e;refine⟨e',?_⟩;cases q:H b with
 | none=>rfl
 | some x =>
  have hm:b∈trk h H:=List.mem_filter.mpr ⟨List.mem_range.mpr (Heap.lt_size e'),by simp[q]⟩;have z:(Jc h H).get? b=none:=PySem.W.hideAll_none (trk h H) hm;rw[z] at e; cases e
noncomputable def QR(g h:Heap)(L:Addr):List (Addr×Obj):=(List.range h.objs.size).filterMap fun a=>if a=L\/(g.get? a).isSome=true then none else (h.get? a).map fun o=>(a,o)
noncomputable def rest(g h:Heap)(L d:Addr):List (Addr×Obj):=(QR g h L).filter fun p=>decide (p.1≠d)
end L2
namespace L2
open PySem PySem.Spec PyProof.Rows
structure Mod (K:Frag) (mg:Str->Option Value) (base:Heap):Prop where
 kin:K.In base
 glob:base.Ns mainGlobals mg
 blt:∃mb,base.Ns builtinsNs mb/\∀x:Str,x ≠ "__name__" -> mb x=bootBuiltins x
 nolimit:base.NoLimit
 bmain:∃bm ob,mg "__builtins__" = some (.ref bm)/\bm≠builtinsNs/\base.get? bm=some ob/\ob.cls=.type "module" /\ ob.dict=some builtinsNs/\ob.data=.plain
structure Cx where
 prog:Program
 w:World
 K:Frag
 mg:Str->Option Value
 base:Heap
 A:Around
 N:List Str
 s₀:Shared
 H₀:Hp
 env:Env
 outer:List Env
 stack:List Env
 ex:List Addr
 fn:Str->Bool
 calm:Bool
 pn:List (Addr×Obj)
 xe:Value->Shared->Prop
noncomputable def frs(l:List Env):List Addr:=l.filterMap (·.frame)
noncomputable abbrev Cx.fs(X:Cx):List Addr:=frs X.outer
noncomputable def Vis(sc:Scope)(x:Str):Prop:=sc.names.lookup x=some .local\/sc.names.lookup x=some .cell\/sc.names.lookup x=some .free
noncomputable def Loc(sc:Scope)(x:Str):Prop:=sc.names.lookup x=some .local\/sc.names.lookup x=some .cell
noncomputable def Look(env:Env)(h:Heap)(m:Str->Option Value)(x:Str)(u:Value):Prop:=
 (env.kindOf x=some .local/\m x=some u)\/((env.kindOf x=some .cell\/env.kindOf x=some .free)/\∃c,env.cells.lookup x=some c/\h.IsCell c (some u))
structure Cx.Ok (X:Cx):Prop where
 mod:Mod X.K X.mg X.base
 kind:X.env.scope.kind=.function
 glob:X.env.globals=mainGlobals
 blt:X.env.builtins=builtinsNs
 above:X.s₀.heap.objs.size<=X.env.locals
 inj:∀x y c,X.env.cells.lookup x=some c->X.env.cells.lookup y=some c->x=y
 has:∀x,(X.env.kindOf x=some .cell\/X.env.kindOf x=some .free)->∃c,X.env.cells.lookup x=some c
 cab:∀x c,X.fn x=true->X.env.cells.lookup x=some c->X.s₀.heap.objs.size<=c
 hd:X.calm=true->X.A.handled=none
 frames:X.A.frames=some X.stack
 stk:X.stack=X.outer\/(X.stack=X.env::X.outer/\X.env.frame=some X.env.locals)
 exf:∀b∈X.ex,b≠X.env.locals/\∀x c,X.env.cells.lookup x=some c->c≠b
 bs:∀b o,X.base.get? b=some o->X.s₀.heap.get? b=some o/\X.H₀ b=none
 bsz:X.base.objs.size<=X.s₀.heap.objs.size
 noex:∀b o,X.base.get? b=some o->b∉X.ex
 exfs:∀b∈X.ex,b∉X.fs
 funs:X.s₀.heap.FunFrames X.base X.outer
 frf:∀b∈X.fs,X.H₀ b=none
 tb:NF X.K X.H₀
structure Inv (X:Cx) (pins:List (Addr×Obj)) (σ:List (Option V)) (H:Hp) (s:Shared):Prop where
 ok:X.Ok
 os:s.os=X.s₀.os
 bare:AllBare s.gens
 base:Un X.fs X.ex X.H₀ H X.s₀.heap s.heap
 loc:∃m,s.heap.Ns X.env.locals m/\∀(i:Nat) (x:Str) (v:V),X.N[i]? = some x -> σ[i]? = some (some v)->Vis X.env.scope x->∃u,RelV v u/\Look X.env s.heap m x u
 cell:∀x c,X.env.cells.lookup x=some c->∃v,s.heap.IsCell c v
 free:H X.env.locals=none
 freeC:∀x c,X.env.cells.lookup x=some c->H c=none
 pin:∀p∈X.pn++pins,s.heap.get? p.1=some p.2/\H p.1=none/\p.1≠X.env.locals/\p.1∉X.fs/\∀v,p.2.data≠.cell v
 hok:HOk X.prog X.w H s.heap
 len : σ.length=X.N.length
section
variable{X:Cx}{pins:List (Addr×Obj)}{σ:List (Option V)}{H H':Hp}{s:Shared}{h':Heap}
theorem Cx.Ok.nofr(ok:X.Ok){b:Addr}{o:Obj}(e:X.base.get? b=some o):b∉X.fs:=fun hb=>by
 have:=(ok.funs.mem hb).1;rw[e] at this; cases this
theorem NF.grow{K:Frag}{H H':Hp}(x:NF K H)(h:∀b ps,H b=some (.tbl ps)->∃more,H' b=some (.tbl (ps++more))):NF K H':=fun n q hm c P e=>by
 obtain⟨ps,e1,e2⟩:=x n q hm c P e;obtain⟨more,e3⟩:=h P ps e1;refine⟨ps++more,e3,?_⟩;have hl:0<ps.size:=by
  cases hs:ps[0]? with
  | none=>rw[hs] at e2; cases e2
  | some v=>exact(Array.getElem?_eq_some_iff.mp hs).1
 rw[Array.getElem?_append_left hl];exact e2
theorem Inv.tabs(I:Inv X pins σ H s):NF X.K H:=I.ok.tb.grow I.base.tbls
theorem Inv.bs(I:Inv X pins σ H s):∀b o,X.base.get? b=some o->s.heap.get? b=some o/\H b=none:=fun b o e =>
 ⟨I.base.keep b o (I.ok.bs b o e).1 (I.ok.bs b o e).2 (I.ok.nofr e) (I.ok.noex b o e),I.base.free b o (I.ok.bs b o e).1 (I.ok.bs b o e).2 (I.ok.noex b o e)⟩
theorem Inv.bk(I:Inv X pins σ H s):∀b o,X.base.get? b=some o->s.heap.get? b=some o:=fun b o e=>(I.bs b o e).1
theorem Inv.mod(I:Inv X pins σ H s):Mod X.K X.mg X.base:=I.ok.mod
theorem Inv.kIn(I:Inv X pins σ H s):X.K.In s.heap:=I.ok.mod.kin.keeps I.bk
theorem Inv.lt(I:Inv X pins σ H s):X.env.locals<s.heap.objs.size:=let⟨_,hn,_⟩:=I.loc; hn.lt
theorem Inv.sz(I:Inv X pins σ H s):X.s₀.heap.objs.size<=s.heap.objs.size:=Nat.le_trans I.ok.above (Nat.le_of_lt I.lt)
theorem Inv.nofs(I:Inv X pins σ H s){a:Addr}(h:s.heap.objs.size<=a):a∉X.fs:=fun hb=>by
 obtain⟨_,o,ho,_⟩:=I.ok.funs.mem hb;exact absurd (Nat.lt_of_lt_of_le (Heap.lt_size ho) (Nat.le_trans I.sz h)) (Nat.lt_irrefl _)
theorem Inv.cne(I:Inv X pins σ H s):∀x c,X.env.cells.lookup x=some c->c≠X.env.locals:=fun x c e z=>by
 obtain⟨v,o,ho,hd⟩:=I.cell x c e;obtain⟨m,⟨o',es,ep,ho',hd',_⟩,_⟩:=I.loc;rw[z,ho'] at ho; cases ho; rw[hd'] at hd; cases hd
theorem Inv.funs(I:Inv X pins σ H s):s.heap.FunFrames X.base X.outer:=by
 have all:∀(l:List Env),(∀b∈frs l,b∈X.fs)->X.s₀.heap.FunFrames X.base l->s.heap.FunFrames X.base l:=by
  intro l;induction l with
  | nil=>intro _ _; trivial
  | cons env r ih =>
   intro hs hl;obtain⟨hk,⟨L,o,hf,hn,ho,hd⟩,hr⟩:=hl;have hL:L∈X.fs:=hs L (by unfold frs; rw[List.filterMap_cons,hf]; exact List.mem_cons_self);obtain⟨sl,e⟩:=I.base.slot L o ho (I.ok.frf L hL) hL fun z=>I.ok.exfs L z hL;exact⟨hk,⟨L,_,hf,hn,e,hd⟩,ih (fun b hb=>hs b (by unfold frs; rw[List.filterMap_cons,hf]; exact List.mem_cons_of_mem _ hb)) hr⟩
 exact all X.outer (fun _ hb=>hb) I.ok.funs
theorem Inv.stack(I:Inv X pins σ H s):s.heap.FunFrames X.base X.stack:=by
 rcases I.ok.stk with e|⟨e,hf⟩
 .rw[e]; exact I.funs
 .rw[e]
  obtain⟨m,hn,_⟩:=I.loc;refine .cons (by rw[I.ok.kind]; decide) hf hn ?_ I.funs;exact Heap.get?_none_of_le (Nat.le_trans I.ok.bsz I.ok.above)
theorem Inv.stkSub(I:Inv X pins σ H s):∀b∈frs X.stack,b∈X.env.locals::X.fs:=fun b hb=>by
 rcases I.ok.stk with e|⟨e,hf⟩
 .rw[e] at hb; exact List.mem_cons_of_mem _ hb
 .rw[e] at hb
  unfold frs at hb;rw[List.filterMap_cons,hf] at hb;exact hb
theorem Inv.stkFree(I:Inv X pins σ H s):∀b∈frs X.stack,H b=none:=fun b hb=>by
 rcases List.mem_cons.mp (I.stkSub b hb) with e|hb
 .rw[e]; exact I.free
 .obtain⟨_,o,ho,_⟩:=I.ok.funs.mem hb
  exact I.base.free b o ho (I.ok.frf b hb) fun z=>I.ok.exfs b z hb
theorem Inv.step{g':Array GenState}{t':Nat}{d':Drawn}{ch:List Addr}(I:Inv X pins σ H s)(hch:∀b∈ch,(b∈X.ex\/X.s₀.heap.objs.size<=b)/\b≠X.env.locals/\(∀x c,X.env.cells.lookup x=some c->c≠b)/\∀p∈X.pn++pins,p.1≠b)(keep:∀b o,b≠X.env.locals->b∉X.fs->b∉ch->s.heap.get? b=some o->H b=none->h'.get? b=some o)(slot:∀b o,b≠X.env.locals->b∈X.fs->b∉ch->s.heap.get? b=some o->H b=none->∃sl,h'.get? b=some { o with slots:=sl })(free:∀b o,b∉ch->s.heap.get? b=some o->H b=none->H' b=none)(there:∀b o,b∉ch->s.heap.get? b=some o->∃o',h'.get? b=some o')(tups:∀b xs,H b=some (.tup xs)->H' b=some (.tup xs))(frzs:∀b o u,H b=some (.frz o u)->H' b=some (.frz o u))(tbls:∀b ps,H b=some (.tbl ps)->∃more,H' b=some (.tbl (ps++more)))(ns:∀m,s.heap.Ns X.env.locals m->h'.Ns X.env.locals m)(hok:HOk X.prog X.w H' h')(hg:AllBare g'):
  Inv X pins σ H' { s with heap:=h',gens:=g',drawn:=d',toks:=t' }:=by
 have neL:∀b o,X.s₀.heap.get? b=some o->b≠X.env.locals:=fun b o e=>Nat.ne_of_lt (Nat.lt_of_lt_of_le (Heap.lt_size e) I.ok.above);have neC:∀b o,X.s₀.heap.get? b=some o->b∉X.ex->b∉ch:=fun b o e hx hb=>by
  rcases(hch b hb).1 with z|z
  .exact hx z
  .exact absurd (Nat.lt_of_lt_of_le (Heap.lt_size e) z) (Nat.lt_irrefl _)
 have cellK:∀x c,X.env.cells.lookup x=some c->∀v,s.heap.IsCell c v->h'.IsCell c v:=fun x c e v ⟨o,ho,hd⟩=>by
  have nch:c∉ch:=fun z=>(hch c z).2.2.1 x c e rfl;by_cases hc:c∈X.fs
  .obtain⟨sl,q⟩:=slot c o (I.cne x c e) hc nch ho (I.freeC x c e)
   exact⟨_,q,hd⟩
  .exact⟨o,keep c o (I.cne x c e) hc nch ho (I.freeC x c e),hd⟩
 refine⟨I.ok,I.os,hg,⟨fun b o e n hb hx=>?_,fun b o e n hb hx=>?_,fun b o e n hx=>?_,fun b o e hx=>?_,fun b xs e=>tups b xs (I.base.tups b xs e),fun b o xs e=>frzs b o xs (I.base.frzs b o xs e),fun b ps e=>?_⟩,?_,fun x c e=>?_,?_,fun x c e=>?_,fun p hp=>?_,hok,I.len⟩
 .exact keep b o (neL b o e) hb (neC b o e hx) (I.base.keep b o e n hb hx) (I.base.free b o e n hx)
 .obtain⟨sl,e1⟩:=I.base.slot b o e n hb hx
  obtain⟨sl',e2⟩:=slot b _ (neL b o e) hb (neC b o e hx) e1 (I.base.free b o e n hx);exact⟨sl',e2⟩
 .obtain⟨o',e1⟩:=I.base.there b o e hx
  exact free b o' (neC b o e hx) e1 (I.base.free b o e n hx)
 .obtain⟨o',e1⟩:=I.base.there b o e hx
  exact there b o' (neC b o e hx) e1
 .obtain⟨m1,e1⟩:=I.base.tbls b ps e
  obtain⟨m2,e2⟩:=tbls b _ e1;exact⟨m1++m2,by rw[e2,Array.append_assoc]⟩
 .obtain⟨m,hn,hl⟩:=I.loc
  refine⟨m,ns m hn,fun i x v e1 e2 e3=>?_⟩;obtain⟨u,r,l⟩:=hl i x v e1 e2 e3;refine⟨u,r,?_⟩;rcases l with l|⟨k,c,e,z⟩
  .exact .inl l
  .exact .inr ⟨k,c,e,cellK x c e _ z⟩
 .obtain⟨v,z⟩:=I.cell x c e
  exact⟨v,cellK x c e v z⟩
 .obtain⟨m,⟨o,_,_,ho,_⟩,_⟩:=I.loc
  exact free _ o (fun z=>(hch _ z).2.1 rfl) ho I.free
 .obtain⟨v,o,ho,hd⟩:=I.cell x c e
  exact free c o (fun z=>(hch c z).2.2.1 x c e rfl) ho (I.freeC x c e)
 .obtain⟨e,n,ne,nf,d⟩:=I.pin p hp
  have nch:p.1∉ch:=fun z=>(hch p.1 z).2.2.2 p hp rfl;exact⟨keep p.1 p.2 ne nf nch e n,free p.1 p.2 nch e n,ne,nf,d⟩
theorem Inv.un{t':Nat}(I:Inv X pins σ H s)(u:Un X.fs [] H H' s.heap h')(hok:HOk X.prog X.w H' h'):Inv X pins σ H' { s with heap:=h',toks:=t' }:=by
 obtain⟨m,⟨o,es,ep,ho,r⟩,_⟩:=id I.loc;obtain⟨sl,hL⟩:=u.any ho I.free (by simp);exact I.step (g':=s.gens) (d':=s.drawn) (ch:=[]) (fun _ z=>nomatch z) (fun b o _ hb _ e n=>u.keep b o e n hb (by simp)) (fun b o _ hb _ e n=>u.slot b o e n hb (by simp)) (fun b o _ e n=>u.free b o e n (by simp)) (fun b o _ e=>u.there b o e (by simp)) u.tups u.frzs u.tbls (fun m' hm=>by
  obtain⟨o',es',ep',ho',r'⟩:=hm;rw[ho] at ho'; cases ho';exact⟨_,es',ep',hL,r'⟩) hok I.bare
theorem Inv.call{g':Array GenState}{t':Nat}{d':Drawn}{ch:List Addr}(I:Inv X pins σ H s)(u:Un (frs X.stack) ch H H' s.heap h')(hok:HOk X.prog X.w H' h')(hg:AllBare g')(hch:∀b∈ch,(b∈X.ex\/X.s₀.heap.objs.size<=b)/\b≠X.env.locals/\(∀x c,X.env.cells.lookup x=some c->c≠b)/\∀p∈X.pn++pins,p.1≠b):
  Inv X pins σ H' { s with heap:=h',gens:=g',drawn:=d',toks:=t' }:=by
 obtain⟨m,⟨o,es,ep,ho,r⟩,_⟩:=id I.loc;obtain⟨sl,hL⟩:=u.any ho I.free fun z=>(hch _ z).2.1 rfl;exact I.step (ch:=ch) hch (fun b o hL hb hc e n=>u.keep b o e n (fun z=>(List.mem_cons.mp (I.stkSub b z)).elim hL hb) hc) (fun b o _ _ hc e n=>u.any e n hc) (fun b o hc e n=>u.free b o e n hc) (fun b o hc e=>u.there b o e hc) u.tups u.frzs u.tbls (fun m' hm=>by
  obtain⟨o',es',ep',ho',r'⟩:=hm;rw[ho] at ho'; cases ho';exact⟨_,es',ep',hL,r'⟩) hok hg
theorem Inv.turned{t':Nat}{it:Addr}(I:Inv X pins σ H s)(k:∀b o,b≠it->s.heap.get? b=some o->h'.get? b=some o)(hn:H it=none)(hL:it≠X.env.locals)(h1:it∈X.ex\/X.s₀.heap.objs.size<=it)(h2:∀x c,X.env.cells.lookup x=some c->c≠it)(h3:∀p∈X.pn++pins,p.1≠it):Inv X pins σ H { s with heap:=h',toks:=t' }:=by
 have nit:∀b u,H b=some u->b≠it:=fun b u e z=>by rw[z,hn] at e; cases e
 refine I.step (g':=s.gens) (d':=s.drawn) (ch:=[it]) (fun b hb=>?_) (fun b o _ _ hc e _=>k b o (fun z=>hc (by simp[z])) e) (fun b o _ _ hc e _=>⟨o.slots,k b o (fun z=>hc (by simp[z])) e⟩) (fun _ _ _ _ n=>n)
  (fun b o hc e=>⟨o,k b o (fun z=>hc (by simp[z])) e⟩) (fun _ _ e=>e) (fun _ _ _ e=>e) (fun b ps e=>⟨#[],by rw[e]; simp⟩) (fun m hm=>?_) (fun b u e=>?_) I.bare
 .have e:b=it:=by simpa using hb
  subst e;exact⟨h1,hL,h2,h3⟩
 .obtain⟨o,es,ep,ho,r⟩:=hm
  exact⟨o,es,ep,k _ o (Ne.symm hL) ho,r⟩
 .refine(I.hok b u e).stay (fun c v hc q=>k c v ?_ q) (fun _ q=>q) fun _ _ q=>q
  rcases hc with z|z
  .rw[z]; exact nit b u e
  .exact nit c _ z
theorem Inv.tok(I:Inv X pins σ H s)(t:Nat):Inv X pins σ H { s with toks:=t }:=I.un (h':=s.heap) (t':=t) Un.refl I.hok
theorem Inv.kept{t':Nat}(I:Inv X pins σ H s)(k:∀b u,s.heap.get? b=some u->h'.get? b=some u):Inv X pins σ H { s with heap:=h',toks:=t' }:=I.un (Un.kept k) (I.hok.kept k)
theorem Inv.laid{a:Addr}{o:HO}{t':Nat}(I:Inv X pins σ H s)(k:∀b u,s.heap.get? b=some u->h'.get? b=some u)(hp:s.heap.objs.size<=a)(new:BV X.prog X.w (upd H a o) h' a o):
  Inv X pins σ (upd H a o) { s with heap:=h',toks:=t' }:=I.un (Un.laid k hp (I.hok.fresh hp)) (I.hok.laid k hp new)
theorem Inv.write{x e:Addr}{o:HO}{t':Nat}(I:Inv X pins σ H s)(mu:Mut (H x))(he:e=x\/H e=some (.own x))(k:∀b u,b≠e->s.heap.get? b=some u->h'.get? b=some u)(heo:∃u,h'.get? e=some u)(new:BV X.prog X.w (upd H x o) h' x o):Inv X pins σ (upd H x o) { s with heap:=h',toks:=t' }:=I.un (Un.write mu he k heo) (I.hok.write mu he k heo new)
theorem Inv.pins_of{pins':List (Addr×Obj)}(I:Inv X pins σ H s)(h:∀p∈pins',s.heap.get? p.1=some p.2/\H p.1=none/\p.1≠X.env.locals/\p.1∉X.fs/\∀v,p.2.data≠.cell v):Inv X pins' σ H s:=
 ⟨I.ok,I.os,I.bare,I.base,I.loc,I.cell,I.free,I.freeC,fun p hp=>(List.mem_append.mp hp).elim (fun z=>I.pin p (List.mem_append_left _ z)) (h p),I.hok,I.len⟩
theorem Lc{N:List Str}(hN:N.Nodup){i j:Nat}{x:Str}(a:N[i]? = some x)(b:N[j]? = some x):i=j:=by
 obtain⟨h1,e1⟩:=List.getElem?_eq_some_iff.mp a;obtain⟨h2,e2⟩:=List.getElem?_eq_some_iff.mp b;exact(List.getElem_inj hN).mp (e1.trans e2.symm)
theorem Ow{M:Model}{A:Around}{E:Value->Shared->Prop}{i:Nat}{x:Str}{v:V}{u:Value}{Q:Unit->Shared->Prop}(I:Inv X pins σ H s)(hN:X.N.Nodup)(hi:X.N[i]? = some x)(hx:Loc X.env.scope x)(r:RelV v u)(h:∀s',Inv X pins (σ.set i (some v)) H s'->(∃a,Heap.SameBut a s.heap s'.heap/\(a=X.env.locals\/X.env.cells.lookup x=some a))->Q () s')(hf:X.fn x=true\/X.env.scope.names.lookup x=some .local:=by first|exact .inl rfl|exact .inr rfl|assumption):wpAny M A (storeName X.env x u) Q E s:=by
 obtain⟨m,hn,hl⟩:=id I.loc;have hcls:(X.env.scope.kind==.class || (X.env.scope.kind==.module&&X.env.locals != X.env.globals))=false:=by rw[I.ok.kind]; rfl
 have hiσ:i<σ.length:=by rw[I.len]; exact(List.getElem?_eq_some_iff.mp hi).1
 have cne:=I.cne;have tracked:∀{a:Addr} {h':Heap},(∃o,s.heap.get? a=some o/\H a=none)->Heap.SameBut a s.heap h'->HOk X.prog X.w H h':=fun {a h'} ha hs b ob e=>by
  obtain⟨_,_,hfree⟩:=ha;refine(I.hok b ob e).stay (fun c w' hc q=>(hs.2 c ?_).trans q) (fun _ q=>q) fun _ _ q=>q;rintro rfl;rcases hc with rfl|hc
  .rw[hfree] at e; cases e
  .rw[hfree] at hc; cases hc
 rcases hx with hk|hk
 .refine wpAny_storeName_local hk hn (fun h' hn' hs=>?_) hcls
  obtain⟨oL,_,_,hoL,_⟩:=id hn;refine h _ ⟨I.ok,I.os,I.bare,⟨fun b o e n hb hx=>?_,fun b o e n hb hx=>?_,I.base.free,fun b o e hx=>?_,I.base.tups,I.base.frzs,I.base.tbls⟩,⟨_,hn',fun j y v' e1 e2 e3=>?_⟩,fun y c e=>?_,I.free,I.freeC,fun p hp=>?_,tracked ⟨oL,hoL,I.free⟩ hs,by simpa using I.len⟩ ⟨_,hs,.inl rfl⟩
  .exact(hs.2 b (Nat.ne_of_lt (Nat.lt_of_lt_of_le (Heap.lt_size e) I.ok.above))).trans (I.base.keep b o e n hb hx)
  .obtain⟨sl,e1⟩:=I.base.slot b o e n hb hx
   exact⟨sl,(hs.2 b (Nat.ne_of_lt (Nat.lt_of_lt_of_le (Heap.lt_size e) I.ok.above))).trans e1⟩
  .obtain⟨o',e1⟩:=I.base.there b o e hx
   exact⟨o',(hs.2 b (Nat.ne_of_lt (Nat.lt_of_lt_of_le (Heap.lt_size e) I.ok.above))).trans e1⟩
  .by_cases hj:j=i
   .subst hj
    rw[hi] at e1; cases e1;rw[List.getElem?_set_self hiσ] at e2;cases e2;exact⟨u,r,.inl ⟨hk,by simp⟩⟩
   .rw[List.getElem?_set_ne (Ne.symm hj)] at e2
    obtain⟨u',r',q⟩:=hl j y v' e1 e2 e3;refine⟨u',r',?_⟩;rcases q with ⟨k,e⟩|⟨k,c,e,z⟩
    .refine .inl ⟨k,?_⟩
     have:y≠x:=fun e=>hj (Lc hN e1 (e ▸ hi));simp[this,e]
    .exact .inr ⟨k,c,e,z.sameBut hs (cne y c e)⟩
  .obtain⟨w',z⟩:=I.cell y c e
   exact⟨w',z.sameBut hs (cne y c e)⟩
  .obtain⟨e,n,ne,nf,d⟩:=I.pin p hp
   exact⟨(hs.2 p.1 ne).trans e,n,ne,nf,d⟩
 .have hfn:X.fn x=true:=by
   rcases hf with z|z
   .exact z
   .rw[z] at hk; cases hk
  obtain⟨c,hc⟩:=I.ok.has x (.inl hk);obtain⟨w',z⟩:=I.cell x c hc;refine wpAny_storeName_cell I.ok.kind hk hc z (fun h' hc' hs=>?_);obtain⟨oc,hoc,hocd⟩:=id z;refine h { s with heap:=h' } ⟨I.ok,I.os,I.bare,⟨fun b o e n hb hx=>?_,fun b o e n hb hx=>?_,I.base.free,fun b o e hx=>?_,I.base.tups,I.base.frzs,I.base.tbls⟩,⟨m,hn.sameBut hs (Ne.symm (cne x c hc)),fun j y v' e1 e2 e3=>?_⟩,fun y c' e=>?_,I.free,I.freeC,fun p hp=>?_,tracked ⟨oc,hoc,I.freeC x c hc⟩ hs,by simpa using I.len⟩ ⟨c,hs,.inr hc⟩
  .exact(hs.2 b (Nat.ne_of_lt (Nat.lt_of_lt_of_le (Heap.lt_size e) (I.ok.cab x c hfn hc)))).trans (I.base.keep b o e n hb hx)
  .obtain⟨sl,e1⟩:=I.base.slot b o e n hb hx
   exact⟨sl,(hs.2 b (Nat.ne_of_lt (Nat.lt_of_lt_of_le (Heap.lt_size e) (I.ok.cab x c hfn hc)))).trans e1⟩
  .obtain⟨o',e1⟩:=I.base.there b o e hx
   exact⟨o',(hs.2 b (Nat.ne_of_lt (Nat.lt_of_lt_of_le (Heap.lt_size e) (I.ok.cab x c hfn hc)))).trans e1⟩
  .by_cases hj:j=i
   .subst hj
    rw[hi] at e1; cases e1;rw[List.getElem?_set_self hiσ] at e2;cases e2;exact⟨u,r,.inr ⟨.inl hk,c,hc,hc'⟩⟩
   .rw[List.getElem?_set_ne (Ne.symm hj)] at e2
    obtain⟨u',r',q⟩:=hl j y v' e1 e2 e3;refine⟨u',r',?_⟩;rcases q with q|⟨k,c',e,z'⟩
    .exact .inl q
    .refine .inr ⟨k,c',e,z'.sameBut hs ?_⟩
     rintro rfl;exact hj (Lc hN e1 (I.ok.inj _ _ _ e hc ▸ hi))
  .by_cases hcc:c'=c
   .subst hcc; exact⟨_,hc'⟩
   .obtain⟨w2,z2⟩:=I.cell y c' e
    exact⟨w2,z2.sameBut hs hcc⟩
  .obtain⟨e,n,ne,nf,d⟩:=I.pin p hp
   refine⟨(hs.2 p.1 ?_).trans e,n,ne,nf,d⟩;intro q;rw[q,hoc] at e;have q':oc=p.2:=Option.some.inj e;exact d w' (by rw[<- q']; exact hocd)
theorem DY{M:Model}{A:Around}{E:Value->Shared->Prop}{i:Nat}{x:Str}{v:V}{u:Value}{Q:Unit->Shared->Prop}(I:Inv X pins σ H s)(hN:X.N.Nodup)(hi:X.N[i]? = some x)(hx:Loc X.env.scope x)(r:RelV v u)(h:∀s',Inv X pins (σ.set i (some v)) H s'->Q () s')(hf:X.fn x=true\/X.env.scope.names.lookup x=some .local:=by first|exact .inl rfl|exact .inr rfl|assumption):wpAny M A (storeName X.env x u) Q E s:=
 Ow I hN hi hx r (fun s' I' _=>h s' I') hf
theorem Inv.call'{s':Shared}{ch:List Addr}(I:Inv X pins σ H s)(ho:s'.os=s.os)(u:Un (frs X.stack) ch H H' s.heap s'.heap)(hok:HOk X.prog X.w H' s'.heap)(hg:AllBare s'.gens)(hch:∀b∈ch,(b∈X.ex\/X.s₀.heap.objs.size<=b)/\b≠X.env.locals/\(∀x c,X.env.cells.lookup x=some c->c≠b)/\∀p∈X.pn++pins,p.1≠b):Inv X pins σ H' s':=by
 obtain⟨h',g',d',t',o'⟩:=s';have e:o'=s.os:=ho;subst e;exact I.call (g':=g') (t':=t') (d':=d') u hok hg hch
end
noncomputable abbrev XK:=Value->Option Addr->Hp->Prop
noncomputable abbrev St:=List (Option V)
noncomputable abbrev VK:=V->Hp->Prop
noncomputable abbrev TE:=St->Hp->VK->Prop
noncomputable abbrev TT:=St->Hp->(Bool->Hp->Prop)->Prop
noncomputable abbrev TA:=St->Hp->(List V->Hp->Prop)->Prop
structure Ends where
 nx:St->Hp->Prop
 rt:VK
 bk:St->Hp->Prop:=fun _ _=>False
 ct:St->Hp->Prop:=fun _ _=>False
noncomputable abbrev TS:=Ends->St->Hp->Prop
noncomputable def EP(X:Cx)(pins:List (Addr×Obj))(σ:St)(Q:VK)(u:Value)(s':Shared):Prop:=∃v H',Inv X pins σ H' s'/\RelV v u/\Q v H'
noncomputable def TP(X:Cx)(pins:List (Addr×Obj))(σ:St)(Q:Bool->Hp->Prop)(b:Bool)(s':Shared):Prop:=∃H',Inv X pins σ H' s'/\Q b H'
noncomputable def AP(X:Cx)(pins:List (Addr×Obj))(σ:St)(Q:List V->Hp->Prop)(us:List Value)(s':Shared):Prop:=∃vs H',Inv X pins σ H' s'/\Vals vs us/\Q vs H'
noncomputable def SP(X:Cx)(pins:List (Addr×Obj))(D:Ends)(f:Flow)(s':Shared):Prop:=
 match f with
 | .next=>∃σ' H',Inv X pins σ' H' s'/\D.nx σ' H'
 | .brk=>∃σ' H',Inv X pins σ' H' s'/\D.bk σ' H'
 | .cont=>∃σ' H',Inv X pins σ' H' s'/\D.ct σ' H'
 | .ret u=>∃v σ' H',Inv X pins σ' H' s'/\RelV v u/\D.rt v H'
noncomputable def PE(X:Cx)(e:Expr)(t:TE):Prop:=
 ∀(pins:List (Addr×Obj)) (s:Shared) (σ:St) (H:Hp) (Q:VK),Inv X pins σ H s->t σ H Q->wpAny (model X.prog X.w) X.A (eval e X.env) (EP X pins σ Q) X.xe s
noncomputable def PT(X:Cx)(e:Expr)(t:TT):Prop:=
 ∀(pins:List (Addr×Obj)) (s:Shared) (σ:St) (H:Hp) (Q:Bool->Hp->Prop),Inv X pins σ H s->t σ H Q->wpAny (model X.prog X.w) X.A (isTrue e X.env (eval e X.env)) (TP X pins σ Q) X.xe s
noncomputable def PW(X:Cx)(e:Expr)(t:TT):Prop:=
 ∀(whole:Sem Value) (pins:List (Addr×Obj)) (s:Shared) (σ:St) (H:Hp) (Q:Bool->Hp->Prop),Inv X pins σ H s->t σ H Q->wpAny (model X.prog X.w) X.A (isTrue e X.env whole) (TP X pins σ Q) X.xe s
theorem PW.pt{X:Cx}{e:Expr}{t:TT}(h:PW X e t):PT X e t:=h _
noncomputable def PA(X:Cx)(es:List Expr)(t:TA):Prop:=
 ∀(pos:Pos) (pins:List (Addr×Obj)) (s:Shared) (σ:St) (H:Hp) (Q:List V->Hp->Prop),Inv X pins σ H s->t σ H Q->wpAny (model X.prog X.w) X.A (spliced (backTo pos (starEach es X.env))) (AP X pins σ Q) X.xe s
noncomputable def PS(X:Cx)(st:Stmt)(t:TS):Prop:=
 ∀(pins:List (Addr×Obj)) (s:Shared) (σ:St) (H:Hp) (D:Ends),Inv X pins σ H s->t D σ H->wpAny (model X.prog X.w) X.A (exec st X.env) (SP X pins D) X.xe s
noncomputable def PSs(X:Cx)(st:List Stmt)(t:TS):Prop:=
 ∀(pins:List (Addr×Obj)) (s:Shared) (σ:St) (H:Hp) (D:Ends),Inv X pins σ H s->t D σ H->wpAny (model X.prog X.w) X.A (execs st X.env) (SP X pins D) X.xe s
theorem thn{α:Type}{t:Sem α}{Q Q':α -> Shared->Prop}{M:Model}{A:Around}{E:Value->Shared->Prop}{s:Shared}(h:wpAny M A t Q E s)(hQ:∀a s,Q a s->Q' a s):wpAny M A t Q' E s:=wpAny_mono h hQ fun _ _ x=>x
end L2
namespace L2
open PySem PySem.Spec PyProof.Rows
section
variable{X:Cx}
theorem bin{a b:Expr}{ta tb:TE}(ha:PE X a ta)(hb:PE X b tb){pins:List (Addr×Obj)}{s:Shared}{σ:St}{H:Hp}{R:V->V->Hp->Prop}(I:Inv X pins σ H s)(h:ta σ H fun x H1=>tb σ H1 fun y H2=>R x y H2){α:Type}{Q:α -> Shared->Prop}{f:Value->Value->Sem α}(hf:∀v u s2 x y H2,Inv X pins σ H2 s2->RelV x v->RelV y u->R x y H2->wpAny (model X.prog X.w) X.A (f v u) Q X.xe s2):
  wpAny (model X.prog X.w) X.A (eval a X.env) (fun v s₁=>wpAny (model X.prog X.w) X.A (eval b X.env) (fun u s₂=>wpAny (model X.prog X.w) X.A (f v u) Q X.xe s₂) X.xe s₁) X.xe s:=by
 refine thn (ha pins s σ H _ I h) fun v s1 yy=>?_;obtain⟨x,H1,I1,r1,q1⟩:=yy;refine thn (hb pins s1 σ H1 _ I1 q1) fun u s2 yy=>?_;obtain⟨y,H2,I2,r2,q2⟩:=yy;exact hf v u s2 x y H2 I2 r1 r2 q2
noncomputable def Ox(i:Nat):TE:=fun σ H Q=>∃v,σ[i]? = some (some v)/\Q v H
noncomputable def tC(v:V):TE:=fun _ H Q=>Q v H
theorem Iz{i:Nat}{x:Str}{pos:Pos}(hN:X.N[i]? = some x)(hv:Vis X.env.scope x)(hd:(x==("__debug__" : Str))=false:=by decide)(hcd:(x==("__classdict__" : Str))=false:=by decide):PE X (.Name x pos) (Ox i):=by
 intro pins s σ H Q I h;obtain⟨v,e,h⟩:=h;obtain⟨m,hn,hl⟩:=I.loc;obtain⟨u,r,l⟩:=hl i x v hN e hv;have fin:EP X pins σ Q u s:=⟨v,H,I,r,h⟩;rcases l with ⟨hk,hm⟩|⟨hk,c,hc,hcell⟩
 .exact wpAny_Name (wpAny_loadName_local I.ok.kind hk hn hm fin) hd
 .rcases hk with hk|hk
  .exact wpAny_Name (wpAny_loadName_cell I.ok.kind hk hc hcell fin) hd
  .exact wpAny_Name (wpAny_loadName_free I.ok.kind hk hc hcell fin hcd) hd
theorem Ur{i j pos}:PE X (.Constant (.int i) j pos) (tC (.int i)):=fun _ _ _ H _ I h=>wpAny_Constant_int ⟨.int i,H,I.tok _,⟨_,rfl⟩,h⟩
theorem VV{b j pos}:PE X (.Constant (.bool b) j pos) (tC (.bl b)):=fun _ _ _ H _ I h=>Constant_bool ⟨.bl b,H,I,rfl,h⟩
theorem Uz{j pos}:PE X (.Constant .none j pos) (tC .non):=fun _ _ _ H _ I h=>Constant_none ⟨.non,H,I,rfl,h⟩
theorem UC{x j pos}:PE X (.Constant (.str x) j pos) (tC (.str x)):=fun _ _ _ H _ I h=>Calls.Constant_str ⟨.str x,H,I.tok _,⟨_,rfl⟩,h⟩
noncomputable def Gl(X:Cx)(x:Str):Prop:=X.env.kindOf x=some .globalImplicit
theorem HG{E:Value->Shared->Prop}{pins:List (Addr×Obj)}{s:Shared}{σ:St}{H:Hp}{x:Str}{u:Value}{pos:Pos}{Q:Value->Shared->Prop}(I:Inv X pins σ H s)(hg:Gl X x)(hm:X.mg x=some u)(h:Q u s)(hd:(x==("__debug__" : Str))=false:=by decide):wpAny (model X.prog X.w) X.A (eval (.Name x pos) X.env) Q E s:=
 Calls.Name_function_global I.ok.kind hg (Calls.loadGlobal_global (by rw[I.ok.glob]; exact I.mod.glob.keeps I.bk) hm h) hd
theorem Kd{E:Value->Shared->Prop}{pins:List (Addr×Obj)}{s:Shared}{σ:St}{H:Hp}{x:Str}{u:Value}{pos:Pos}{Q:Value->Shared->Prop}(I:Inv X pins σ H s)(hg:Gl X x)(hm:X.mg x=none)(hv:bootBuiltins x=some u)(h:Q u s)(hn:x ≠ "__name__" := by decide)(hd:(x==("__debug__" : Str))=false:=by decide):wpAny (model X.prog X.w) X.A (eval (.Name x pos) X.env) Q E s:=by
 obtain⟨mb,h1,h2⟩:=I.mod.blt;exact Calls.Name_function_global I.ok.kind hg (Calls.loadGlobal_builtin (by rw[I.ok.glob]; exact I.mod.glob.keeps I.bk) hm (by rw[I.ok.blt]; exact h1.keeps I.bk) ((h2 x hn).trans hv) h) hd
theorem GF{x:Str}{v:V}{u:Value}{pos:Pos}(hg:Gl X x)(hm:X.mg x=some u)(r:RelV v u)(hd:(x==("__debug__" : Str))=false:=by decide):PE X (.Name x pos) (tC v):=
 fun _ _ _ H _ I h=>HG I hg hm ⟨v,H,I,r,h⟩ hd
theorem Fz{x:Str}{v:V}{u:Value}{pos:Pos}(hg:Gl X x)(hm:X.mg x=none)(hv:bootBuiltins x=some u)(r:RelV v u)(hn:x ≠ "__name__" := by decide)(hd:(x==("__debug__" : Str))=false:=by decide):PE X (.Name x pos) (tC v):=
 fun _ _ _ H _ I h=>Kd I hg hm hv ⟨v,H,I,r,h⟩ hn hd
variable{a b:Expr}{ta tb:TE}{pos:Pos}
noncomputable def PC(X:Cx)(op:CmpOp)(a b:Expr)(t:TE):Prop:=
 ∀(pins:List (Addr×Obj)) (s:Shared) (σ:St) (H:Hp) (Q:VK),Inv X pins σ H s->t σ H Q ->
  wpAny (model X.prog X.w) X.A (eval a X.env) (fun v s₁=>wpAny (model X.prog X.w) X.A (eval b X.env) (fun u s₂=>wpAny (model X.prog X.w) X.A (compareOp op v u) (EP X pins σ Q) X.xe s₂) X.xe s₁) X.xe s
noncomputable def tB(t:TE):TT:=fun σ H Q=>t σ H fun x H1=>∃c,x=.bl c/\Q c H1
theorem Uq{op:CmpOp}{t:TE}(h:PC X op a b t)(h1:behindInMarks op b=false:=by first|exact nobehind _ (by decide) (by decide)|rfl):PE X (.Compare a [op] [b] pos) t:=fun pins s σ H Q I hw=>wpAny_Compare1 (h pins s σ H Q I hw) h1
theorem P9{e:Expr}{t:TE}(h:PE X e t)(he:∀whole,isTrue e X.env whole=(do let v <- whole; standAt e.pos; holding [v] (truthy v)):=by intro _; rfl):PT X e (tB t):=by
 intro pins s σ H Q I hw;refine isTrue_plain (thn (h pins s σ H _ I hw) fun v s1 ⟨x,H1,I1,r1,q1⟩=>?_) (he _);obtain⟨d,rfl,q⟩:=q1;cases r1;exact wpAny_truthy_bool ⟨H1,I1,q⟩
variable{tA tB':TT}{rest:List Expr}
noncomputable def WO(t u:TT):TT:=fun σ H Q=>t σ H fun c H1=>if c=true then u σ H1 Q else Q false H1
noncomputable def tOr(t u:TT):TT:=fun σ H Q=>t σ H fun c H1=>if c=true then Q true H1 else u σ H1 Q
noncomputable def WR(t:TT):TT:=fun σ H Q=>t σ H fun c H1=>Q (!c) H1
theorem RV(ha:PT X a tA):PW X (.BoolOp .And [a] pos) tA:=by
 intro wh pins s σ H Q I h;refine isTrue_and (thn (ha pins s σ H Q I h) fun c s1 e=>?_);cases c with
 | true=>exact isTrue_and_nil e
 | false=>exact e
theorem UM(ha:PT X a tA):PW X (.BoolOp .Or [a] pos) tA:=by
 intro wh pins s σ H Q I h;refine isTrue_or (thn (ha pins s σ H Q I h) fun c s1 e=>?_);cases c with
 | false=>exact isTrue_or_nil e
 | true=>exact e
theorem UL(ha:PT X a tA)(hb:PW X (.BoolOp .And (b::rest) pos) tB'):PW X (.BoolOp .And (a::b::rest) pos) (WO tA tB'):=by
 intro wh pins s σ H Q I h;refine isTrue_and (thn (ha pins s σ H _ I h) fun c s1 yy=>?_);obtain⟨H1,I1,q1⟩:=yy;cases c with
 | true=>exact hb wh pins s1 σ H1 Q I1 q1
 | false=>exact⟨H1,I1,q1⟩
theorem V0(ha:PT X a tA)(hb:PW X (.BoolOp .Or (b::rest) pos) tB'):PW X (.BoolOp .Or (a::b::rest) pos) (tOr tA tB'):=by
 intro wh pins s σ H Q I h;refine isTrue_or (thn (ha pins s σ H _ I h) fun c s1 yy=>?_);obtain⟨H1,I1,q1⟩:=yy;cases c with
 | true=>exact⟨H1,I1,q1⟩
 | false=>exact hb wh pins s1 σ H1 Q I1 q1
theorem P7(ha:PT X a tA):PT X (.UnaryOp .Not a pos) (WR tA):=by
 intro pins s σ H Q I h;exact isTrue_not (ha pins s σ H (fun c H1=>Q (!c) H1) I h)
noncomputable def Wd(ta tb:TE):TE:=fun σ H Q=>ta σ H fun x H1=>∃c,x=.bl c/\if c=true then tb σ H1 Q else Q (.bl false) H1
noncomputable def Wh(ta:TE):TE:=fun σ H Q=>ta σ H fun x H1=>∃c,x=.bl c/\Q (.bl (!c)) H1
theorem UB{op}{t:TE}(h:PE X a t):PE X (.BoolOp op [a] pos) t:=fun pins s σ H Q I hw=>BoolOp_one (h pins s σ H Q I hw)
theorem Uo(ha:PE X a ta)(hb:PE X (.BoolOp .And (b::rest) pos) tb):PE X (.BoolOp .And (a::b::rest) pos) (Wd ta tb):=by
 intro pins s σ H Q I h;refine BoolOp_and (thn (ha pins s σ H _ I h) fun v s1 yy=>?_);obtain⟨x,H1,I1,r1,q1⟩:=yy;obtain⟨c,rfl,q1⟩:=q1;cases r1;refine wpAny_truthy_bool ?_;cases c with
 | true=>exact hb pins s1 σ H1 Q I1 q1
 | false=>exact⟨.bl false,H1,I1,rfl,q1⟩
theorem UA(ha:PE X a ta):PE X (.UnaryOp .Not a pos) (Wh ta):=by
 intro pins s σ H Q I h;refine UnaryOp_ (thn (ha pins s σ H _ I h) fun v s1 yy=>?_);obtain⟨x,H1,I1,r1,q1⟩:=yy;obtain⟨c,rfl,q1⟩:=q1;cases r1;exact not_of (wpAny_truthy_bool ⟨.bl (!c),H1,I1,rfl,q1⟩)
end
end L2
namespace L2
open PySem PySem.Spec PyProof.Rows
noncomputable def SqL(K:Frag)(H:Hp)(a:Addr)(xs:List V):Prop:=
 Rd H a (.lst xs) \/
  ∃(o:Obj) (its:Array Value) (n:Nat),K.lookup a=some o/\o.cls=.type "list" /\ o.dict=none/\o.data=.seq its n/\its.size<=sizeLine/\Vals xs its.toList
noncomputable def SqT(K:Frag)(H:Hp)(a:Addr)(xs:List V):Prop:=
 Rd H a (.tup xs) \/
  ∃(o:Obj) (its:Array Value) (n:Nat),K.lookup a=some o/\o.cls=.type "tuple" /\ o.data=.seq its n/\its.size<=sizeLine/\Vals xs its.toList
noncomputable def Wv:Value->Option V
 | .none=>some .non
 | .bool b=>some (.bl b)
 | .int i _=>some (.int i)
 | .str x _=>some (.str x)
 | .bytes b _=>some (.byt b)
 | .float b _=>some (.flt b)
 | .ref a=>some (.ref a)
 | .type n=>some (.ty n)
 | _=>none
theorem RelV.abs{x:V}{u:Value}(r:RelV x u):Wv u=some x:=by
 cases x with
 | non=>cases r; rfl
 | bl _=>cases r; rfl
 | int _=>obtain⟨t,rfl⟩:=r; rfl
 | str _=>obtain⟨t,rfl⟩:=r; rfl
 | byt _=>obtain⟨t,rfl⟩:=r; rfl
 | flt _=>obtain⟨t,rfl⟩:=r; rfl
 | ref _=>cases r; rfl
 | ty _=>cases r; rfl
theorem RelV.inj{x y:V}{u:Value}(r:RelV x u)(q:RelV y u):x=y:=Option.some.inj (r.abs.symm.trans q.abs)
theorem Vals.inj{xs ys:List V}{us:List Value}(h:Vals xs us):Vals ys us->xs=ys:=by
 induction h generalizing ys with
 | nil=>intro q; cases q; rfl
 | cons r t ih =>
  intro q;cases q with
  | cons r' t'=>rw[r.inj r',ih t']
section
variable{X:Cx}{pins:List (Addr×Obj)}{σ:St}{H:Hp}{s:Shared}{a:Addr}{xs ys:List V}
theorem Inv.list(I:Inv X pins σ H s)(h:SqL X.K H a xs):∃its:List Value,Vals xs its/\PlainL s.heap a its.toArray/\xs.length<=sizeLine:=by
 rcases h with h|⟨o,its,n,hk,hc,hd,hs,hz,r⟩
 .obtain⟨z,its,n,r,e⟩:=h.ok I.hok
  exact⟨its,r,⟨_,n,e,rfl,rfl,rfl⟩,z⟩
 .refine⟨its.toList,r,⟨o,n,I.kIn a o hk,hc,hd,by simpa using hs⟩,?_⟩
  have e:=r.length;simp only[Array.length_toList] at e;lia
theorem Inv.tuple(I:Inv X pins σ H s)(h:SqT X.K H a xs):∃its:List Value,Vals xs its/\IsTup s.heap a its.toArray/\xs.length<=sizeLine:=by
 rcases h with h|⟨o,its,n,hk,hc,hs,hz,r⟩
 .obtain⟨z,its,r,p⟩:=h.ok I.hok
  exact⟨its,r,p,z⟩
 .refine⟨its.toList,r,⟨o,I.kIn a o hk,hc,n,by simpa using hs⟩,?_⟩
  have e:=r.length;simp only[Array.length_toList] at e;lia
theorem Inv.list_inj(I:Inv X pins σ H s)(h:SqL X.K H a xs)(h':SqL X.K H a ys):xs=ys:=by
 obtain⟨its,r,⟨o,n,e,_,_,d⟩,_⟩:=I.list h;obtain⟨its',r',⟨o',n',e',_,_,d'⟩,_⟩:=I.list h';rw[e] at e'; cases e';rw[d] at d';injection d' with d1 _;have:its=its':=by simpa using congrArg Array.toList d1
 subst this;exact r.inj r'
theorem Inv.tuple_inj(I:Inv X pins σ H s)(h:SqT X.K H a xs)(h':SqT X.K H a ys):xs=ys:=by
 obtain⟨its,r,⟨o,e,_,n,d⟩,_⟩:=I.tuple h;obtain⟨its',r',⟨o',e',_,n',d'⟩,_⟩:=I.tuple h';rw[e] at e'; cases e';rw[d] at d';injection d' with d1 _;have:its=its':=by simpa using congrArg Array.toList d1
 subst this;exact r.inj r'
end
noncomputable abbrev Cx.wish(X:Cx)(E:Value->Shared->Prop):Cx:={ X with xe:=E }
noncomputable abbrev Cx.nox(X:Cx):Cx:=X.wish fun _ _=>False
theorem Cx.Ok.wish{X:Cx}(ok:X.Ok)(E:Value->Shared->Prop):(X.wish E).Ok:=
 ⟨ok.mod,ok.kind,ok.glob,ok.blt,ok.above,ok.inj,ok.has,ok.cab,ok.hd,ok.frames,ok.stk,ok.exf,ok.bs,ok.bsz,ok.noex,ok.exfs,ok.funs,ok.frf,ok.tb⟩
theorem Cx.Ok.unwish{X:Cx}{E:Value->Shared->Prop}(ok:(X.wish E).Ok):X.Ok:=
 ⟨ok.mod,ok.kind,ok.glob,ok.blt,ok.above,ok.inj,ok.has,ok.cab,ok.hd,ok.frames,ok.stk,ok.exf,ok.bs,ok.bsz,ok.noex,ok.exfs,ok.funs,ok.frf,ok.tb⟩
section
variable{X:Cx}{pins:List (Addr×Obj)}{σ:St}{H:Hp}{s:Shared}{E:Value->Shared->Prop}
theorem Inv.wish(I:Inv X pins σ H s)(E:Value->Shared->Prop):Inv (X.wish E) pins σ H s:=⟨I.ok.wish E,I.os,I.bare,I.base,I.loc,I.cell,I.free,I.freeC,I.pin,I.hok,I.len⟩
theorem Inv.unwish(I:Inv (X.wish E) pins σ H s):Inv X pins σ H s:=⟨I.ok.unwish,I.os,I.bare,I.base,I.loc,I.cell,I.free,I.freeC,I.pin,I.hok,I.len⟩
theorem SP.unwish{D:Ends}{f:Flow}{s':Shared}(h:SP (X.wish E) pins D f s'):SP X pins D f s':=by
 cases f with
 | next=>obtain⟨σ',H',I,q⟩:=h; exact⟨σ',H',I.unwish,q⟩
 | brk=>obtain⟨σ',H',I,q⟩:=h; exact⟨σ',H',I.unwish,q⟩
 | cont=>obtain⟨σ',H',I,q⟩:=h; exact⟨σ',H',I.unwish,q⟩
 | ret u=>obtain⟨v,σ',H',I,r,q⟩:=h; exact⟨v,σ',H',I.unwish,r,q⟩
theorem PSs.nox{st:List Stmt}{t:TS}(h:PSs X.nox st t):PSs X st t:=fun pins s σ H D I hw =>
 wpAny_mono (h pins s σ H D (I.wish _) hw) (fun _ _ q=>q.unwish) fun _ _ z=>False.elim z
end
section
variable{X:Cx}{st:Stmt}{rest:List Stmt}{t u:TS}{e:Expr}{te:TE}{pos:Pos}
noncomputable def SM:TS:=fun D σ H=>D.nx σ H
noncomputable def Wm(t u:TS):TS:=fun D σ H=>t { D with nx:=u D } σ H
theorem RP:PSs X [] SM:=fun _ _ σ H _ I h=>wpAny_execs_nil ⟨σ,H,I,h⟩
theorem Lp(h1:PS X st t)(h2:PSs X rest u):PSs X (st::rest) (Wm t u):=by
 intro pins s σ H D I h;refine wpAny_execs_cons (thn (h1 pins s σ H { D with nx:=u D } I h) fun f s1 q=>?_);cases f with
 | next =>
  obtain⟨σ',H',I',q⟩:=q;exact h2 pins s1 σ' H' D I' q
 | ret v=>exact q
 | brk=>exact q
 | cont=>exact q
theorem RQ(h1:PS X st t):PSs X [st] t:=by
 intro pins s σ H D I h;refine wpAny_execs_cons (thn (h1 pins s σ H D I h) fun f s1 q=>?_);cases f with
 | next=>exact wpAny_execs_nil q
 | ret v=>exact q
 | brk=>exact q
 | cont=>exact q
theorem Inv.quiet{pins:List (Addr×Obj)}{σ:St}{H:Hp}{s:Shared}(I:Inv X pins σ H s):interactive X.env=false:=by simp[interactive,I.ok.kind]
noncomputable def LC(te:TE):TS:=fun D σ H=>te σ H fun _ H1=>D.nx σ H1
theorem GG(he:PE X e te)(hs:swapsWith e none pos.line X.env=pure false:=by rfl):PS X (.Expr e pos) (LC te):=by
 intro pins s σ H D I h;exact wpAny_Expr_any (thn (he pins s σ H _ I h) fun v s1 ⟨x,H1,I1,r1,q1⟩=>⟨σ,H1,I1,q1⟩) I.quiet hs
noncomputable def Wk(te:TE):TS:=fun D σ H=>te σ H D.rt
theorem P0(he:PE X e te):PS X (.Return (some e) pos) (Wk te):=by
 intro pins s σ H D I h;exact wpAny_Return_some (thn (he pins s σ H _ I h) fun v s1 ⟨x,H1,I1,r1,q1⟩=>⟨x,σ,H1,I1,r1,q1⟩)
noncomputable def U8(c:TT)(t u:TS):TS:=fun D σ H=>c σ H fun b H1=>if b=true then t D σ H1 else u D σ H1
theorem PY{c:Expr}{a b:List Stmt}{tc:TT}(hc:PT X c tc)(ha:PSs X a t)(hb:PSs X b u):PS X (.If c a b pos) (U8 tc t u):=by
 intro pins s σ H D I h;refine wpAny_If (thn (hc pins s σ H _ I h) fun d s1 yy=>?_);obtain⟨H1,I1,q1⟩:=yy;cases d with
 | true=>exact ha pins s1 σ H1 D I1 q1
 | false=>exact hb pins s1 σ H1 D I1 q1
end
noncomputable abbrev TG:=V->St->Hp->(St->Hp->Prop)->Prop
noncomputable abbrev TGs:=List V->St->Hp->(St->Hp->Prop)->Prop
noncomputable def PG(X:Cx)(target:Expr)(t:TG):Prop:=
 ∀(pins:List (Addr×Obj)) (s:Shared) (σ:St) (H:Hp) (v:V) (u:Value) (Q:St->Hp->Prop),Inv X pins σ H s->RelV v u->t v σ H Q ->
  wpAny (model X.prog X.w) X.A (assign target X.env u) (fun _ s'=>∃σ' H',Inv X pins σ' H' s'/\Q σ' H') X.xe s
noncomputable abbrev SS:=V->V->V->Hp->(Hp->Prop)->Prop
noncomputable def Vq(X:Cx)(t:SS):Prop:=
 ∀(pins:List (Addr×Obj)) (s:Shared) (σ:St) (H:Hp) (o i v:V) (ov iv u:Value) (Q:Hp->Prop),Inv X pins σ H s->RelV o ov->RelV i iv->RelV v u->t o i v H Q ->
  wpAny (model X.prog X.w) X.A (setItem ov iv u) (fun _ s'=>∃H',Inv X pins σ H' s'/\Q H') X.xe s
noncomputable abbrev TIp:=V->V->Hp->VK->Prop
noncomputable def PIp(X:Cx)(op:Operator)(t:TIp):Prop:=
 ∀(pins:List (Addr×Obj)) (s:Shared) (σ:St) (H:Hp) (x y:V) (v u:Value) (Q:VK),Inv X pins σ H s->RelV x v->RelV y u->t x y H Q ->
  wpAny (model X.prog X.w) X.A (inplaceOp op v u) (EP X pins σ Q) X.xe s
section
variable{X:Cx}{pos:Pos}
noncomputable def FK(i:Nat):TG:=fun v σ H Q=>Q (σ.set i (some v)) H
theorem Nl{i:Nat}{x:Str}(hN:X.N.Nodup)(hi:X.N[i]? = some x)(hx:Loc X.env.scope x)(hf:X.fn x=true\/X.env.scope.names.lookup x=some .local:=by first|exact .inl rfl|exact .inr rfl|assumption):PG X (.Name x pos) (FK i):=by
 intro pins s σ H v u Q I r h;exact wpAny_assign_Name (DY I hN hi hx r (fun s' I'=>⟨_,H,I',h⟩) hf)
noncomputable def WA:TGs:=fun vs σ H Q=>vs=[]/\Q σ H
noncomputable def VC(t:TG)(u:TGs):TGs:=fun vs σ H Q=>∃v r,vs=v::r/\t v σ H fun σ' H'=>u r σ' H' Q
noncomputable def WB(K:Frag)(n:Nat)(t:TGs):TG:=fun v σ H Q=>∃a xs,v=.ref a/\SqT K H a xs/\xs.length=n/\t xs σ H Q
noncomputable def VD(to ti:TE)(t:SS):TG:=fun v σ H Q=>to σ H fun o H1=>ti σ H1 fun i H2=>t o i v H2 fun H3=>Q σ H3
theorem UE{o i:Expr}{to ti:TE}{t:SS}(ho:PE X o to)(hi:PE X i ti)(hs:Vq X t)(ha:∀v,assign (.Subscript o i pos) X.env v=(do
   let ov <- holding [v] (eval o X.env)
   let iv <- holding [v,ov] (eval i X.env)
   standAt pos
   holding [v,ov,iv] (setItem ov iv v)
   release [v,ov,iv] []):=by intro _; rfl):PG X (.Subscript o i pos) (VD to ti t):=by
 intro pins s σ H v u Q I r h;rw[ha];refine wpAny_bind (wpAny_holding (thn (ho pins s σ H _ I h) fun ov s1 yy=>?_));obtain⟨x,H1,I1,r1,q1⟩:=yy;refine wpAny_bind (wpAny_holding (thn (hi pins s1 σ H1 _ I1 q1) fun iv s2 yy=>?_));obtain⟨y,H2,I2,r2,q2⟩:=yy;refine wpAny_bind (wpAny_standAt (wpAny_bind (wpAny_holding (thn (hs pins s2 σ H2 x y v ov iv u _ I2 r1 r2 r q2) fun _ s3 yy=>?_))));obtain⟨H3,I3,q3⟩:=yy;exact wpAny_release ⟨σ,H3,I3,q3⟩
noncomputable def MQ(te:TE)(g:TG):TS:=fun D σ H=>te σ H fun x H1=>g x σ H1 D.nx
theorem PX{tg e:Expr}{te:TE}{g:TG}(he:PE X e te)(hg:PG X tg g)(hs:swapsWithSole [tg] e pos.line X.env=pure false:=by rfl)(hw:swappedStores [tg] e X.env=pure none:=by rfl)(h1:(assignEach [tg] X.env).map (·.2)=[assign tg X.env]:=by rfl):PS X (.Assign [tg] e pos) (MQ te g):=by
 intro pins s σ H D I h;refine wpAny_Assign_stores (thn (he pins s σ H _ I h) fun v s1 yy=>?_) hs hw;obtain⟨x,H1,I1,r1,q1⟩:=yy;rw[h1];exact thn (hg pins s1 σ H1 x v _ I1 r1 q1) fun _ s2 q=>q
theorem UK{i:Nat}{x:Str}{e:Expr}{te:TE}{pos':Pos}(hN:X.N.Nodup)(hi:X.N[i]? = some x)(hx:Loc X.env.scope x)(he:PE X e te)(hs:swapsWith e (some (.Name x pos')) pos.line X.env=pure false:=by rfl)(hf:X.fn x=true\/X.env.scope.names.lookup x=some .local:=by first|exact .inl rfl|exact .inr rfl|assumption):
  PS X (.Assign [.Name x pos'] e pos) (MQ te (FK i)):=by
 intro pins s σ H D I h;refine wpAny_Assign_Name (thn (he pins s σ H _ I h) fun v s1 yy=>?_) hs;obtain⟨y,H1,I1,r1,q1⟩:=yy;exact DY I1 hN hi hx r1 (fun s2 I2=>⟨_,H1,I2,q1⟩) hf
noncomputable def WQ(i:Nat)(te:TE)(ti:TIp):TS:=fun D σ H=>∃x,σ[i]? = some (some x)/\te σ H fun y H1=>ti x y H1 fun z H2=>D.nx (σ.set i (some z)) H2
theorem UI{i:Nat}{x:Str}{e:Expr}{te:TE}{op:Operator}{ti:TIp}{pos':Pos}(hN:X.N.Nodup)(hi:X.N[i]? = some x)(hx:Loc X.env.scope x)(he:PE X e te)(ho:PIp X op ti)(hf:X.fn x=true\/X.env.scope.names.lookup x=some .local:=by first|exact .inl rfl|exact .inr rfl|assumption):
  PS X (.AugAssign (.Name x pos') op e pos) (WQ i te ti):=by
 intro pins s σ H D I h;obtain⟨v,e1,h⟩:=h;obtain⟨m,hn,hl⟩:=I.loc;have vis:Vis X.env.scope x:=by rcases hx with k|k; exact .inl k; exact .inr (.inl k)
 obtain⟨u,r,l⟩:=hl i x v hi e1 vis;refine wpAny_AugAssign_Name ?_;have go:wpAny (model X.prog X.w) X.A (eval e X.env) (fun w s₂=>wpAny (model X.prog X.w) X.A (inplaceOp op u w) (fun r s₃=>wpAny (model X.prog X.w) X.A (storeName X.env x r) (fun _=>SP X pins D .next) X.xe s₃) X.xe s₂) X.xe s:=by
  refine thn (he pins s σ H _ I h) fun w s1 yy=>?_;obtain⟨y,H1,I1,r1,q1⟩:=yy;refine thn (ho pins s1 σ H1 v y u w _ I1 r r1 q1) fun z s2 yy=>?_;obtain⟨zv,H2,I2,r2,q2⟩:=yy;exact DY I2 hN hi hx r2 (fun s3 I3=>⟨_,H2,I3,q2⟩) hf
 rcases l with ⟨hk,hm⟩|⟨hk,c,hc,hcell⟩
 .exact wpAny_loadName_local I.ok.kind hk hn hm go
 .rcases hk with hk|hk
  .exact wpAny_loadName_cell I.ok.kind hk hc hcell go
  .rcases hx with k|k
   .have:X.env.scope.names.lookup x=some .free:=hk
    rw[k] at this; cases this
   .have:X.env.scope.names.lookup x=some .free:=hk
    rw[k] at this; cases this
noncomputable def ipI(f:Int->Int->Int):TIp:=fun x y H Q=>∃i j,x=.int i/\y=.int j/\Q (.int (f i j)) H
theorem Ti:PIp X .Add (ipI fun i j=>i+j):=by
 intro pins s σ H x y v u Q I r1 r2 h;obtain⟨i,j,e1,e2,q⟩:=h;subst e1; subst e2;obtain⟨t,rfl⟩:=r1;obtain⟨t',rfl⟩:=r2;exact iadd_int ⟨.int _,H,I.tok _,⟨_,rfl⟩,q⟩
end
section
variable{X:Cx}{pos:Pos}
noncomputable def Qz(c:TT)(tb:TS):TS:=fun D σ H=>∃W:Nat->St->Hp->Prop,(∃m,W m σ H)/\∀m σ H,W m σ H ->
 c σ H fun b H1=>if b=true then ∃N:St->Hp->Prop,(∀σ' H',N σ' H'->∃m',m'<m/\W m' σ' H')/\tb { D with nx:=N,ct:=N,bk:=D.nx } σ H1 else D.nx σ H1
theorem P5{c:Expr}{body:List Stmt}{tc:TT}{tb:TS}(hp:PassesOwn (model X.prog X.w) X.A X.env X.xe)(hc:PT X c tc)(hb:PSs X body tb):PS X (.While c body [] pos) (Qz tc tb):=by
 intro pins s σ H D I h;obtain⟨W,⟨m0,w0⟩,turn⟩:=h;refine wpAny_While (codeAny_whileLoop (fun n s'=>∃σ' H',Inv X pins σ' H' s'/\W n σ' H') ?_ m0 ⟨σ,H,I,w0⟩);rintro n s1 ⟨σ1,H1,I1,w1⟩;refine wpAny_passesOwn hp (thn (hc pins s1 σ1 H1 _ I1 (turn n σ1 H1 w1)) fun b s2 yy=>?_);obtain⟨H2,I2,q2⟩:=yy;cases b with
 | true =>
  obtain⟨N,hN,q2⟩:=q2;rw[if_pos rfl];refine wpAny_passesOwn hp (thn (hb pins s2 σ1 H2 _ I2 q2) fun f s3 q3=>?_);cases f with
  | next =>
   obtain⟨σ3,H3,I3,n3⟩:=q3;obtain⟨m',hm,w3⟩:=hN σ3 H3 n3;exact⟨m',hm,σ3,H3,I3,w3⟩
  | cont =>
   obtain⟨σ3,H3,I3,n3⟩:=q3;obtain⟨m',hm,w3⟩:=hN σ3 H3 n3;exact⟨m',hm,σ3,H3,I3,w3⟩
  | brk=>exact q3
  | ret v=>exact q3
 | false =>
  rw[if_neg Bool.false_ne_true];exact wpAny_execs_nil ⟨σ1,H2,I2,q2⟩
end
structure It where
 go:Nat->Hp->Prop
 yld:Nat->Hp->V->Hp->Prop
 stop:Nat->Hp->Prop
noncomputable def Eu(X:Cx)(pins:List (Addr×Obj))(H:Hp)(b:Addr):Prop:=
 H b=none/\b≠X.env.locals/\b∉X.fs/\(b∈X.ex\/X.s₀.heap.objs.size<=b)/\(∀x c,X.env.cells.lookup x=some c->c≠b)/\∀p∈X.pn++pins,p.1≠b
theorem Inv.fpOk{X:Cx}{pins:List (Addr×Obj)}{σ:St}{H H':Hp}{s:Shared}{b:Addr}(I:Inv X pins σ H s)(hb:s.heap.objs.size<=b)(hn:H' b=none):Eu X pins H' b:=by
 refine⟨hn,Nat.ne_of_gt (Nat.lt_of_lt_of_le I.lt hb),I.nofs hb,.inr (Nat.le_trans I.sz hb),fun x c e z=>?_,fun p hp z=>?_⟩
 .obtain⟨v,q⟩:=I.cell x c e
  exact absurd (Nat.lt_of_lt_of_le q.lt (by rw[z]; exact hb)) (Nat.lt_irrefl _)
 .exact absurd (Nat.lt_of_lt_of_le (Heap.lt_size (I.pin p hp).1) (by rw[z]; exact hb)) (Nat.lt_irrefl _)
structure Turn (P:Program) (w:World) (K:Frag) (tg:Expr) (J:It) (fp:List Addr) (it:Addr) (tn:Nat->Heap->Prop):Prop where
 mem:it∈fp
 obj:∀i h,tn i h->∀b∈fp,∃o,h.get? b=some o/\∀v,o.data≠.cell v
 keep:∀i h h',tn i h->(∀b∈fp,∀o,h.get? b=some o->h'.get? b=some o)->tn i h'
 item:∀(X:Cx),X.prog=P->X.w=w->X.K=K->X.calm=true->∀(i:Nat) (pins:List (Addr×Obj)) (s:Shared) (σ:St) (H:Hp) (E:Value->Shared->Prop),Inv X pins σ H s->(∀b∈fp,Eu X pins H b)->tn i s.heap->J.go i H ->
  wpAny (model P w) X.A (pyNext (.ref it)) (fun r s1=>∃u,r=some u /\
   wpAny (model P w) X.A (letOwnedTupleGo tg (.ref it) u) (fun _ s2=>∃x H',Inv X pins σ H' s2/\RelV x u/\J.yld i H x H'/\tn (i+1) s2.heap/\∀b∈fp,H' b=none) E s1) E s
 done:∀(X:Cx),X.prog=P->X.w=w->X.K=K->X.calm=true->∀(i:Nat) (pins:List (Addr×Obj)) (s:Shared) (σ:St) (H:Hp) (E:Value->Shared->Prop),Inv X pins σ H s->(∀b∈fp,Eu X pins H b)->tn i s.heap->J.stop i H ->
  wpAny (model P w) X.A (pyNext (.ref it)) (fun r s1=>r=none/\Inv X pins σ H s1) E s
 self:∀(A:Around) (i:Nat) (s:Shared) (Q:Value->Shared->Prop) (E:Value->Shared->Prop),tn i s.heap->Q (.ref it) s->wpAny (model P w) A (pyIter (.ref it)) Q E s
noncomputable abbrev TI:=St->Hp->(It->Hp->Prop)->Prop
noncomputable def PIE(X:Cx)(pins:List (Addr×Obj))(σ:St)(tg:Expr)(R:It->Hp->Prop)(itv:Value)(s2:Shared):Prop:=
 ∃(it:Addr) (fp:List Addr) (tn:Nat->Heap->Prop) (J:It) (H':Hp),itv=.ref it/\Inv X pins σ H' s2/\Turn X.prog X.w X.K tg J fp it tn/\tn 0 s2.heap/\(∀b∈fp,Eu X pins H' b)/\R J H'
noncomputable def PI(X:Cx)(tg iter:Expr)(wi:TI):Prop:=
 ∀(pins:List (Addr×Obj)) (s:Shared) (σ:St) (H:Hp) (R:It->Hp->Prop),Inv X pins σ H s->wi σ H R ->
  wpAny (model X.prog X.w) X.A (eval iter X.env) (fun v s1=>wpAny (model X.prog X.w) X.A (pyIter v) (PIE X pins σ tg R) X.xe s1) X.xe s
theorem K2{M:Model}{A:Around}{E:Value->Shared->Prop}{s:Shared}{tg:Expr}{it:Addr}{u:Value}{o:Obj}{n:String}{vs:Array Value}{Q:Unit->Shared->Prop}(ho:s.heap.get? it=some o)(hc:o.cls=.type n)(hd:o.data=.fields vs)(hn:["enumerate","zip","dict_itemiterator","dict_reverseitemiterator","odict_iterator","itertools.zip_longest","itertools.pairwise"].contains n=false)(hQ:Q () s):wpAny M A (letOwnedTupleGo tg (.ref it) u) Q E s:=by
 unfold letOwnedTupleGo;cases tg<;>first
  | exact wpAny_pure hQ
  | (cases u<;>first
    | exact wpAny_pure hQ
    | (refine wpAny_bind (wpAny_load ho ?_)
       rw[hc,hd];show wpAny M A (if (["enumerate","zip","dict_itemiterator","dict_reverseitemiterator","odict_iterator","itertools.zip_longest","itertools.pairwise"].contains n&&vs[0]? == some (rawInt _))=true then _ else _) Q E s;rw[if_neg (by intro h; rw[hn,Bool.false_and] at h; cases h)];exact wpAny_pure hQ))
noncomputable def Itl(K:Frag)(a:Addr):It:=
 ⟨fun i H=>∃xs x,SqL K H a xs/\xs[i]? = some x,fun i H x H'=>H'=H/\∀xs,SqL K H a xs->xs[i]? = some x,fun i H=>∃xs,SqL K H a xs/\xs.length<=i⟩
noncomputable def Itt(K:Frag)(a:Addr):It:=
 ⟨fun i H=>∃xs x,SqT K H a xs/\xs[i]? = some x,fun i H x H'=>H'=H/\∀xs,SqT K H a xs->xs[i]? = some x,fun i H=>∃xs,SqT K H a xs/\xs.length<=i⟩
noncomputable def Itr(lo:Int)(n:Nat):It:=⟨fun i _=>i<n,fun i H x H'=>H'=H/\x=.int (lo+i),fun i _=>n<=i⟩
theorem Oy{P:Program}{w:World}{K:Frag}{tg:Expr}(a it:Addr):Turn P w K tg (Itl K a) [it] it (fun i h=>h.IsListIter it a i) where
 mem:=by simp
 obj:=fun i h st b hb=>by
  have e:b=it:=by simpa using hb
  subst e;obtain⟨o,e,c,d⟩:=st;exact⟨o,e,fun v z=>by rw[d] at z; cases z⟩
 keep:=fun i h h' st k=>st.at fun o e=>k it (by simp) o e
 item:=by
  intro X hP hw hK hc i pins s σ H E I hf st hg;subst hP hw hK;obtain⟨xs,x,hq,hx⟩:=hg;obtain⟨its,rv,p,hz⟩:=I.list hq;obtain⟨u,hu,ru⟩:=rv.get hx;obtain⟨f0,f1,f2,f3,f4,f5⟩:=hf it (by simp);refine wpAny_pyNext_list_item st p.isList (x:=u) (by simpa using hu) fun h' st' sb=>?_;have I1:Inv X pins σ H { s with heap:=h' }:=I.turned (t':=s.toks) (fun b o hb e=>(sb.2 b hb).trans e) f0 f1 f3 f4 f5;obtain⟨o,e,c,d⟩:=id st';exact⟨u,rfl,K2 (s:={ s with heap:=h' }) e c d (by decide) ⟨x,H,I1,ru,⟨rfl,fun ys hy=>by rw[I.list_inj hy hq]; exact hx⟩,st',fun b hb=>(hf b hb).1⟩⟩
 done:=by
  intro X hP hw hK hc i pins s σ H E I hf st hg;subst hP hw hK;obtain⟨xs,hq,hx⟩:=hg;obtain⟨its,rv,p,hz⟩:=I.list hq;obtain⟨f0,f1,f2,f3,f4,f5⟩:=hf it (by simp);have hl:=rv.length;exact wpAny_pyNext_list_end (I.ok.hd hc) st p.isList (by simp; lia) fun h' eb=>⟨rfl,I.turned (t':=s.toks) (fun b o hb e=>eb b o hb e) f0 f1 f3 f4 f5⟩
 self:=fun _ _ _ _ _ st h=>wpAny_pyIter_listiter st h
theorem MX{P:Program}{w:World}{K:Frag}{tg:Expr}(a it:Addr):Turn P w K tg (Itt K a) [it] it (fun i h=>h.IsTupleIter it a i) where
 mem:=by simp
 obj:=fun i h st b hb=>by
  have e:b=it:=by simpa using hb
  subst e;obtain⟨o,e,c,d⟩:=st;exact⟨o,e,fun v z=>by rw[d] at z; cases z⟩
 keep:=fun i h h' st k=>st.at fun o e=>k it (by simp) o e
 item:=by
  intro X hP hw hK hc i pins s σ H E I hf st hg;subst hP hw hK;obtain⟨xs,x,hq,hx⟩:=hg;obtain⟨its,rv,p,hz⟩:=I.tuple hq;obtain⟨u,hu,ru⟩:=rv.get hx;obtain⟨f0,f1,f2,f3,f4,f5⟩:=hf it (by simp);refine wpAny_pyNext_tuple_item st (show s.heap.IsTuple a its.toArray from p) (x:=u) (by simpa using hu) fun h' st' sb=>?_;have I1:Inv X pins σ H { s with heap:=h' }:=I.turned (t':=s.toks) (fun b o hb e=>(sb.2 b hb).trans e) f0 f1 f3 f4 f5;obtain⟨o,e,c,d⟩:=id st';exact⟨u,rfl,K2 (s:={ s with heap:=h' }) e c d (by decide) ⟨x,H,I1,ru,⟨rfl,fun ys hy=>by rw[I.tuple_inj hy hq]; exact hx⟩,st',fun b hb=>(hf b hb).1⟩⟩
 done:=by
  intro X hP hw hK hc i pins s σ H E I hf st hg;subst hP hw hK;obtain⟨xs,hq,hx⟩:=hg;obtain⟨its,rv,p,hz⟩:=I.tuple hq;obtain⟨f0,f1,f2,f3,f4,f5⟩:=hf it (by simp);have hl:=rv.length;exact wpAny_pyNext_tuple_end (I.ok.hd hc) st (show s.heap.IsTuple a its.toArray from p) (by simp; lia) fun h' eb=>⟨rfl,I.turned (t':=s.toks) (fun b o hb e=>eb b o hb e) f0 f1 f3 f4 f5⟩
 self:=fun _ _ _ _ _ st h=>wpAny_pyIter_tupleiter st h
theorem MW{P:Program}{w:World}{K:Frag}{tg:Expr}(it:Addr)(lo:Int)(n:Nat):Turn P w K tg (Itr lo n) [it] it (fun i h=>IsRangeIter h it (lo+(i:Nat)*1) ((n:Int)-(i:Nat)) 1) where
 mem:=by simp
 obj:=fun i h st b hb=>by
  have e:b=it:=by simpa using hb
  subst e;exact⟨_,st,fun v z=>by
   have z':Data.fields _=Data.cell v:=z;cases z'⟩
 keep:=fun i h h' st k=>k it (by simp) _ st
 item:=by
  intro X hP hw hK hc i pins s σ H E I hf st hg;subst hP hw hK;obtain⟨f0,f1,f2,f3,f4,f5⟩:=hf it (by simp);have W:=Walks.range (prog:=X.prog) (w:=X.w) (I.ok.hd hc) it lo 1 n;refine W.item i s _ _ hg st fun v h' tk hv st' kk=>?_;obtain⟨t,rfl⟩:=hv;have I1:Inv X pins σ H { s with heap:=h',toks:=tk }:=I.turned (fun b o hb e=>kk b o (by simpa using hb) e) f0 f1 f3 f4 f5;refine⟨_,rfl,K2 (s:={ s with heap:=h',toks:=tk }) (n := "range_iterator") st' rfl rfl (by decide) ⟨.int (lo+i),H,I1,⟨t,?_⟩,⟨rfl,rfl⟩,st',fun b hb=>(hf b hb).1⟩⟩;rw[Int.mul_one]
 done:=by
  intro X hP hw hK hc i pins s σ H E I hf st hg;subst hP hw hK;obtain⟨f0,f1,f2,f3,f4,f5⟩:=hf it (by simp);exact wpAny_pyNext_range_end (I.ok.hd hc) st (by have:n<=i:=hg; lia) fun h' eb=>⟨rfl,I.turned (t':=s.toks) (fun b o hb e=>eb b o hb e) f0 f1 f3 f4 f5⟩
 self:=fun _ _ _ _ _ st h=>wpAny_pyIter_rangeiter st h
end L2
namespace L2
open PySem PySem.Spec PyProof.Rows
section
variable{X:Cx}{tg:Expr}
theorem Qb{pins:List (Addr×Obj)}{σ:St}{H:Hp}{s:Shared}{R:It->Hp->Prop}{E:Value->Shared->Prop}{lo hi:Int}{t u v:Tok}{tk:Nat}(I:Inv X pins σ H s)(h1 : -(2 ^ 62)<=lo)(h2:lo<2 ^ 62)(h3 : -(2 ^ 62)<=hi)(h4:hi<2 ^ 62)(q:R (Itr lo (hi-lo).toNat) H):wpAny (model X.prog X.w) X.A (pyIter (.ref s.heap.objs.size)) (PIE X pins σ tg R) E { s with heap:=s.heap.push { cls:=.type "range",data:=.fields #[.int lo t,.int hi u,.int 1 v] },toks:=tk }:=by
 refine wpAny_pyIter_range (IsRange.new ..) (small_one h1 h2 h3 h4) ?_;have I1:Inv X pins σ H { s with heap:=s.heap.push { cls:=.type "range",data:=.fields #[.int lo t,.int hi u,.int 1 v] },toks:=tk }:=I.kept fun b o e=>Heap.get?_push_of_some _ e;refine⟨(s.heap.push { cls:=.type "range",data:=.fields #[.int lo t,.int hi u,.int 1 v] }).objs.size,[(s.heap.push { cls:=.type "range",data:=.fields #[.int lo t,.int hi u,.int 1 v] }).objs.size],_,_,H,rfl,
  I1.kept (t':=tk) fun b o e=>Heap.get?_push_of_some _ e,MW _ lo (hi-lo).toNat,?_,fun b hb=>?_,q⟩
 .have e1:lo+((0:Nat):Int)*1=lo:=by simp
  have e2:(((hi-lo).toNat:Nat):Int)-((0:Nat):Int)=Builtin.Range.rangeSize lo hi 1:=by rw[rangeSize_one]; split<;>lia
  show IsRangeIter _ _ (lo+((0:Nat):Int)*1) ((((hi-lo).toNat:Nat):Int)-((0:Nat):Int)) 1;rw[e1,e2];exact Heap.get?_push_size _ rfl
 .have e:b=(s.heap.push { cls:=.type "range",data:=.fields #[.int lo t,.int hi u,.int 1 v] }).objs.size:=by simpa using hb
  subst e;exact I1.fpOk (Nat.le_refl _) (I1.hok.fresh (Nat.le_refl _))
noncomputable def OV(ta:TA):TI:=fun σ H R=>ta σ H fun vs H1=>∃j:Int,vs=[.int j]/\-(2 ^ 62)<=j/\j<2 ^ 62/\R (Itr 0 j.toNat) H1
theorem Oc{a:Expr}{ta:TA}{p pos:Pos}(hg:Gl X "range")(hm:X.mg "range" = none)(ha:PA X [a] ta)(hs:starEach [a] X.env=[(false,eval a X.env)]:=by rfl):PI X tg (.Call (.Name "range" p) [a] [] pos) (OV ta):=by
 intro pins s σ H R I h;refine Call_ (Kd I hg hm boot_range (PyProof.Rows.callWith_type1 (thn (ha pos pins s σ H _ I h) fun us s1 ⟨vs,H1,I1,r1,q1⟩=>?_) hs rfl));obtain⟨j,e,q1,q2,q⟩:=q1;subst e;cases r1 with
 | cons r rr =>
  cases rr;obtain⟨t,rfl⟩:=r;exact call_range_1 (Qb I1 (by lia) (by lia) q1 q2 (by simpa using q))
noncomputable def Wf(wi:TI)(g:TG)(tb:TS):TS:=fun D σ H=>wi σ H fun J H1=>∃W:Nat->Nat->St->Hp->Prop,(∃m,W 0 m σ H1)/\∀i m σ H,W i m σ H ->
 (J.stop i H/\D.nx σ H)\/(J.go i H/\∃N:St->Hp->Prop,(∀σ' H',N σ' H'->∃m',m'<m/\W (i+1) m' σ' H')/\∀x H',J.yld i H x H'->g x σ H' fun σ2 H2=>tb { D with nx:=N,ct:=N,bk:=D.nx } σ2 H2)
noncomputable def Hd(fp:List Addr)(h:Heap):List (Addr×Obj):=fp.filterMap fun b=>(h.get? b).map fun o=>(b,o)
theorem C3{fp:List Addr}{h:Heap}{b:Addr}{o:Obj}(hb:b∈fp)(e:h.get? b=some o):(b,o)∈Hd fp h:=List.mem_filterMap.mpr ⟨b,hb,by rw[e]; rfl⟩
theorem N3{fp:List Addr}{h:Heap}{p:Addr×Obj}(hp:p∈Hd fp h):p.1∈fp/\h.get? p.1=some p.2:=by
 obtain⟨b,hb,e⟩:=List.mem_filterMap.mp hp;cases q:h.get? b with
 | none=>rw[q] at e; cases e
 | some o =>
  rw[q] at e;have e':(b,o)=p:=Option.some.inj e;subst e';exact⟨hb,q⟩
theorem Inv.pinned{pins:List (Addr×Obj)}{σ:St}{H:Hp}{s:Shared}{fp:List Addr}(I:Inv X pins σ H s)(hf:∀b∈fp,Eu X pins H b)(ho:∀b∈fp,∃o,s.heap.get? b=some o/\∀v,o.data≠.cell v):Inv X (pins++Hd fp s.heap) σ H s:=
 I.pins_of fun p hp=>(List.mem_append.mp hp).elim (fun z=>I.pin p (List.mem_append_right _ z)) fun z=>by
  obtain⟨hb,e⟩:=N3 z;obtain⟨f0,f1,f2,_⟩:=hf p.1 hb;obtain⟨o,e',d⟩:=ho p.1 hb;rw[e] at e'; cases e';exact⟨e,f0,f1,f2,d⟩
theorem Inv.unpinned{pins pl:List (Addr×Obj)}{σ:St}{H:Hp}{s:Shared}(I:Inv X (pins++pl) σ H s):Inv X pins σ H s:=I.pins_of fun p hp=>I.pin p (List.mem_append_right _ (List.mem_append_left _ hp))
theorem UJ{iter:Expr}{body:List Stmt}{wi:TI}{g:TG}{tb:TS}{pos:Pos}(hp:PassesOwn (model X.prog X.w) X.A X.env X.xe)(hc:X.calm=true)(hi:PI X tg iter wi)(hg:PG X tg g)(hb:PSs X body tb)(hs:∀x,foldedSetIterable iter X.env x=pure x:=by intro _; rfl):PS X (.For tg iter body [] pos) (Wf wi g tb):=by
 intro pins s σ H D I h;refine wpAny_For (thn (hi pins s σ H _ I h) fun v s1 h1=>thn h1 fun itv s2 h2=>?_) hs;obtain⟨it,fp,tn,J,H2,e,I2,T,st2,f2,W,⟨m0,w0⟩,turn⟩:=h2;subst e
 -- what stays true of the iterator's objects through the loop
 have stat:∀{H':Hp},(∀b∈fp,H' b=none)->∀b∈fp,Eu X pins H' b:=fun hn b hb=>⟨hn b hb,(f2 b hb).2⟩;refine codeAny_forLoop_any (fun n s'=>∃i σ' H',Inv X pins σ' H' s'/\tn i s'.heap/\(∀b∈fp,H' b=none)/\W i n σ' H') ?_ m0 ⟨0,σ,H2,I2,st2,fun b hb=>(f2 b hb).1,w0⟩;rintro n s3 ⟨i,σ3,H3,I3,st3,fr3,w3⟩;rcases turn i n σ3 H3 w3 with ⟨stop,qn⟩|⟨go,N,hN,step⟩
 .refine wpAny_passesOwn hp (thn (T.done X rfl rfl rfl hc i pins s3 σ3 H3 X.xe I3 (stat fr3) st3 stop) fun r s4 yy=>?_)
  obtain⟨hr,I4⟩:=yy;subst hr;exact wpAny_execs_nil ⟨σ3,H3,I4,qn⟩
 .refine wpAny_passesOwn hp (thn (T.item X rfl rfl rfl hc i pins s3 σ3 H3 X.xe I3 (stat fr3) st3 go) fun r s4 yy=>?_)
  obtain⟨u,hr,h4⟩:=yy;subst hr;refine wpAny_passesOwn hp (thn h4 fun _ s5 yy=>?_);obtain⟨x,H5,I5,r5,y5,st5,fr5⟩:=yy;have I5':=I5.pinned (stat fr5) (T.obj _ _ st5);refine wpAny_passesOwn hp (thn (hg _ s5 σ3 H5 x u _ I5' r5 (step x H5 y5)) fun _ s6 yy=>?_);obtain⟨σ6,H6,I6,q6⟩:=yy;refine wpAny_passesOwn hp (thn (hb _ s6 σ6 H6 _ I6 q6) fun f s7 q7=>?_);have again:∀{σ7:St} {H7:Hp},Inv X (pins++Hd fp s5.heap) σ7 H7 s7->N σ7 H7->∃m,m<n/\∃i σ' H',Inv X pins σ' H' s7/\tn i s7.heap/\(∀b∈fp,H' b=none)/\W i m σ' H':=fun {σ7 H7} I7 n7=>by
   obtain⟨m',hm,w7⟩:=hN σ7 H7 n7;refine⟨m',hm,i+1,σ7,H7,I7.unpinned,T.keep _ _ _ st5 fun b hb o e=>(I7.pin (b,o) (List.mem_append_right _ (List.mem_append_right _ (C3 hb e)))).1,fun b hb=>?_,w7⟩;obtain⟨o,e,d⟩:=T.obj _ _ st5 b hb;exact(I7.pin (b,o) (List.mem_append_right _ (List.mem_append_right _ (C3 hb e)))).2.1
  cases f with
  | next=>obtain⟨σ7,H7,I7,n7⟩:=q7; exact again I7 n7
  | cont=>obtain⟨σ7,H7,I7,n7⟩:=q7; exact again I7 n7
  | brk=>obtain⟨σ7,H7,I7,q7⟩:=q7; exact⟨σ7,H7,I7.unpinned,q7⟩
  | ret v=>obtain⟨x7,σ7,H7,I7,r7,q7⟩:=q7; exact⟨x7,σ7,H7,I7.unpinned,r7,q7⟩
end
end L2
namespace L2
open PySem PySem.Spec PyProof.Rows
noncomputable abbrev R2:=V->V->Hp->VK->Prop
noncomputable def OpR(X:Cx)(f:Value->Value->Sem Value)(r:R2):Prop:=
 ∀(pins:List (Addr×Obj)) (s:Shared) (σ:St) (H:Hp) (x y:V) (v u:Value) (Q:VK),Inv X pins σ H s->RelV x v->RelV y u->r x y H Q ->
  wpAny (model X.prog X.w) X.A (f v u) (EP X pins σ Q) X.xe s
noncomputable def UnR(X:Cx)(f:Value->Sem Value)(r:V->Hp->VK->Prop):Prop:=
 ∀(pins:List (Addr×Obj)) (s:Shared) (σ:St) (H:Hp) (x:V) (v:Value) (Q:VK),Inv X pins σ H s->RelV x v->r x H Q ->
  wpAny (model X.prog X.w) X.A (f v) (EP X pins σ Q) X.xe s
noncomputable def Dh(X:Cx)(f:Value)(r:List V->Hp->VK->Prop):Prop:=
 ∀(pins:List (Addr×Obj)) (s:Shared) (σ:St) (H:Hp) (xs:List V) (us:List Value) (Q:VK),Inv X pins σ H s->Vals xs us->r xs H Q ->
  wpAny (model X.prog X.w) X.A (call f us) (EP X pins σ Q) X.xe s
noncomputable def Wt(X:Cx)(r:V->Hp->(Bool->Hp->Prop)->Prop):Prop:=
 ∀(pins:List (Addr×Obj)) (s:Shared) (σ:St) (H:Hp) (x:V) (v:Value) (Q:Bool->Hp->Prop),Inv X pins σ H s->RelV x v->r x H Q ->
  wpAny (model X.prog X.w) X.A (truthy v) (TP X pins σ Q) X.xe s
noncomputable def tOp(r:R2)(ta tb:TE):TE:=fun σ H Q=>ta σ H fun x H1=>tb σ H1 fun y H2=>r x y H2 Q
noncomputable def tUn(r:V->Hp->VK->Prop)(ta:TE):TE:=fun σ H Q=>ta σ H fun x H1=>r x H1 Q
noncomputable def rI(C:Int->Int->Prop)(g:Int->Int->V):R2:=fun x y H Q=>∃i j,x=.int i/\y=.int j/\C i j/\Q (g i j) H
noncomputable def rI0(g:Int->Int->V):R2:=fun x y H Q=>∃i j,x=.int i/\y=.int j/\Q (g i j) H
noncomputable def rU(g:Int->V):V->Hp->VK->Prop:=fun x H Q=>∃i,x=.int i/\Q (g i) H
section
variable{X:Cx}{a b c:Expr}{ta tb tc:TE}{pos:Pos}
theorem S0(ha:PE X a ta)(hb:PE X b tb){pins:List (Addr×Obj)}{s:Shared}{σ:St}{H:Hp}{R:V->V->Hp->Prop}(I:Inv X pins σ H s)(h:ta σ H fun x H1=>tb σ H1 fun y H2=>R x y H2){Q:Value->Shared->Prop}{f:Value->Value->Sem Value}(hf:∀v u s2 x y H2,Inv X pins σ H2 s2->RelV x v->RelV y u->R x y H2->wpAny (model X.prog X.w) X.A (f v u) Q X.xe s2):
  wpAny (model X.prog X.w) X.A (eval a X.env) (fun v s₁=>wpAny (model X.prog X.w) X.A (eval b X.env) (fun u s₂=>wpAny (model X.prog X.w) X.A (f v u) Q X.xe s₂) X.xe s₁) X.xe s:=by
 refine thn (ha pins s σ H _ I h) fun v s1 yy=>?_;obtain⟨x,H1,I1,r1,q1⟩:=yy;refine thn (hb pins s1 σ H1 _ I1 q1) fun u s2 yy=>?_;obtain⟨y,H2,I2,r2,q2⟩:=yy;exact hf v u s2 x y H2 I2 r1 r2 q2
theorem VY{op:Operator}{r:R2}(ho:OpR X (binaryOp op) r)(ha:PE X a ta)(hb:PE X b tb):PE X (.BinOp a op b pos) (tOp r ta tb):=by
 intro pins s σ H Q I h;exact wpAny_BinOp (S0 ha hb I h fun v u s2 x y H2 I2 rx ry q=>ho pins s2 σ H2 x y v u Q I2 rx ry q)
theorem VZ{op:UnaryOp}{r:V->Hp->VK->Prop}(ho:UnR X (unaryOp op) r)(ha:PE X a ta):PE X (.UnaryOp op a pos) (tUn r ta):=by
 intro pins s σ H Q I h;exact UnaryOp_ (thn (ha pins s σ H _ I h) fun v s1 ⟨x,H1,I1,r1,q1⟩=>ho pins s1 σ H1 x v Q I1 r1 q1)
theorem opI{f:Value->Value->Sem Value}{C:Int->Int->Prop}{g:Int->Int->Int}(rule:∀(i j:Int) (t u:Tok) (s:Shared) (Q:Value->Shared->Prop) (E:Value->Shared->Prop),C i j->Q (.int (g i j) s.toks) { s with toks:=s.toks+1 }->wpAny (model X.prog X.w) X.A (f (.int i t) (.int j u)) Q E s):
  OpR X f (rI C fun i j=>.int (g i j)):=by
 intro pins s σ H x y v u Q I rx ry h;obtain⟨i,j,rfl,rfl,hc,q⟩:=h;obtain⟨t,rfl⟩:=rx;obtain⟨t',rfl⟩:=ry;exact rule i j t t' s _ _ hc ⟨.int (g i j),H,I.tok _,⟨_,rfl⟩,q⟩
theorem RB{f:Value->Value->Sem Value}{g:Int->Int->Int}(rule:∀(i j:Int) (t u:Tok) (s:Shared) (Q:Value->Shared->Prop) (E:Value->Shared->Prop),Q (.int (g i j) s.toks) { s with toks:=s.toks+1 }->wpAny (model X.prog X.w) X.A (f (.int i t) (.int j u)) Q E s):
  OpR X f (rI0 fun i j=>.int (g i j)):=by
 intro pins s σ H x y v u Q I rx ry h;obtain⟨i,j,rfl,rfl,q⟩:=h;obtain⟨t,rfl⟩:=rx;obtain⟨t',rfl⟩:=ry;exact rule i j t t' s _ _ ⟨.int (g i j),H,I.tok _,⟨_,rfl⟩,q⟩
theorem RA{f:Value->Value->Sem Value}{g:Int->Int->Bool}(rule:∀(i j:Int) (t u:Tok) (s:Shared) (Q:Value->Shared->Prop) (E:Value->Shared->Prop),Q (.bool (g i j)) s->wpAny (model X.prog X.w) X.A (f (.int i t) (.int j u)) Q E s):
  OpR X f (rI0 fun i j=>.bl (g i j)):=by
 intro pins s σ H x y v u Q I rx ry h;obtain⟨i,j,rfl,rfl,q⟩:=h;obtain⟨t,rfl⟩:=rx;obtain⟨t',rfl⟩:=ry;exact rule i j t t' s _ _ ⟨.bl (g i j),H,I,rfl,q⟩
theorem fdB{x y:Int}(h:y.natAbs<1099511627776):Builtin.divisionGoesByPylong x y=false:=PyProof.noPylong_of_log2 (by
 by_cases h0:y.natAbs=0
 .rw[h0]; decide
 .have h1:y.natAbs<2 ^ 40:=by simpa using h
  have:=(Nat.log2_lt h0).mpr h1;omega)
noncomputable def SQ(i j:Int):Prop:=0<j/\j<1099511627776
noncomputable def ND(i j:Int):Prop:=0<=j/\j<=1000000/\i.natAbs<2 ^ 64
noncomputable def QO(i j:Int):Prop:=(-(2 ^ 64)<i/\i<2 ^ 64)\/(-(2 ^ 64)<j/\j<2 ^ 64)
theorem QO.ok{i j:Int}(h:QO i j):IntMulOk i j:=by
 rcases h with ⟨h1,h2⟩|⟨h1,h2⟩
 .exact .of_left (intBits_le_64 h1 h2)
 .exact .of_right (intBits_le_64 h1 h2)
theorem MY(k:Nat):(0:Int)<=2 ^ k:=by
 rw[two_pow_cast];exact Int.natCast_nonneg _
theorem Ud:OpR X (binaryOp .Add) (rI0 fun i j=>.int (i+j)):=RB fun _ _ _ _ _ _ _ q=>add_int q
theorem EY:OpR X (binaryOp .Sub) (rI0 fun i j=>.int (i-j)):=RB fun _ _ _ _ _ _ _ q=>sub_int q
theorem Ga:OpR X (binaryOp .Mult) (rI QO fun i j=>.int (i*j)):=opI fun _ _ _ _ _ _ _ hc q=>mul_int q hc.ok
theorem Ni:OpR X (binaryOp .FloorDiv) (rI SQ fun i j=>.int (i / j)):=opI fun i j _ _ _ _ _ hc q=>by
 have h1:(0:Int)<j:=hc.1;have h2:j<1099511627776:=hc.2;exact floordiv_int (by lia) (by rw[Int.fdiv_eq_ediv_of_nonneg i (by lia)]; exact q) (.inl (fdB (by lia)))
theorem Io:OpR X (binaryOp .Mod) (rI (fun _ j=>0<j) fun i j=>.int (i % j)):=opI fun i j _ _ _ _ _ hc q=>by
 have h1:(0:Int)<j:=hc;exact mod_int' (by lia) (by rw[Int.fmod_eq_emod_of_nonneg i (by lia)]; exact q)
theorem Uj:OpR X (binaryOp .Pow) (rI ND fun i j=>.int (i ^ j.toNat)):=opI fun _ _ _ _ _ _ _ hc q=>pow_int_small hc.1 hc.2.1 hc.2.2 q
theorem Mx:OpR X (binaryOp .LShift) (rI ND fun i j=>.int (i*2 ^ j.toNat)):=opI fun _ _ _ _ _ _ _ hc q=>lshift_int_small hc.1 hc.2.1 hc.2.2 q
theorem Ul:OpR X (binaryOp .RShift) (rI (fun _ j=>0<=j) fun i j=>.int (i / 2 ^ j.toNat)):=opI fun i j _ _ _ _ _ hc q =>
 rshift_int hc (by rw[Int.fdiv_eq_ediv_of_nonneg i (MY _)]; exact q)
theorem Ue:OpR X (binaryOp .BitAnd) (rI0 fun i j=>.int (Builtin.bitAnd i j)):=RB fun _ _ _ _ _ _ _ q=>and_int q
theorem VT:OpR X (binaryOp .BitOr) (rI0 fun i j=>.int (Builtin.bitOr i j)):=RB fun _ _ _ _ _ _ _ q=>or_int q
theorem unI{f:Value->Sem Value}{g:Int->Int}(rule:∀(i:Int) (t:Tok) (s:Shared) (Q:Value->Shared->Prop) (E:Value->Shared->Prop),Q (.int (g i) s.toks) { s with toks:=s.toks+1 }->wpAny (model X.prog X.w) X.A (f (.int i t)) Q E s):
  UnR X f (rU fun i=>.int (g i)):=by
 intro pins s σ H x v Q I rx h;obtain⟨i,rfl,q⟩:=h;obtain⟨t,rfl⟩:=rx;exact rule i t s _ _ ⟨.int (g i),H,I.tok _,⟨_,rfl⟩,q⟩
theorem Vj:UnR X (unaryOp .USub) (rU fun i=>.int (-i)):=unI fun _ _ _ _ _ q=>neg_int q
end
section
variable{X:Cx}{a b c:Expr}{ta tb tc:TE}{pos:Pos}
theorem LX{pins:List (Addr×Obj)}{σ:St}{H:Hp}{s:Shared}{Q:VK}{k k':Bool}(I:Inv X pins σ H s)(q:Q (.bl k) H)(e:k=k'):EP X pins σ Q (.bool k') s:=by
 subst e;exact⟨.bl k,H,I,rfl,q⟩
theorem VS:OpR X (compareOp .Lt) (rI0 fun i j=>.bl (decide (i<j))):=RA fun _ _ _ _ _ _ _ q=>lt_int q
theorem VR:OpR X (compareOp .LtE) (rI0 fun i j=>.bl (decide (i<=j))):=RA fun _ _ _ _ _ _ _ q=>le_int q
theorem VQ:OpR X (compareOp .Gt) (rI0 fun i j=>.bl (decide (j<i))):=RA fun _ _ _ _ _ _ _ q=>gt_int q
theorem VP:OpR X (compareOp .GtE) (rI0 fun i j=>.bl (decide (j<=i))):=RA fun _ _ _ _ _ _ _ q=>ge_int q
theorem N9:OpR X (compareOp .Lt) (fun x y H Q=>∃i j,x=.str i/\y=.str j/\Q (.bl (decide (i.cps.toList<j.cps.toList))) H):=by
 intro pins s σ H x y v u Q I rx ry h;obtain⟨i,j,rfl,rfl,q⟩:=h;obtain⟨t,rfl⟩:=rx;obtain⟨t',rfl⟩:=ry;exact lt_str (LX I q rfl)
theorem N7:OpR X (compareOp .In) (fun x y H Q=>∃i j,x=.str i/\y=.str j/\Q (.bl (!(Builtin.Str.occurrences j i 0 j.length 1).isEmpty)) H):=by
 intro pins s σ H x y v u Q I rx ry h;obtain⟨i,j,rfl,rfl,q⟩:=h;obtain⟨t,rfl⟩:=rx;obtain⟨t',rfl⟩:=ry;exact in_str (LX I q rfl)
theorem OpR.or{f:Value->Value->Sem Value}{r r':R2}(h:OpR X f r)(h':OpR X f r'):OpR X f (fun x y H Q=>r x y H Q\/r' x y H Q):=by
 intro pins s σ H x y v u Q I rx ry q;rcases q with q|q
 .exact h pins s σ H x y v u Q I rx ry q
 .exact h' pins s σ H x y v u Q I rx ry q
theorem Bz(b:Expr){op:CmpOp}(h:op≠.In:=by decide)(h2:op≠.NotIn:=by decide):behindInMarks op b=false:=by
 have e1:(op==CmpOp.In)=false:=by cases op<;>first|rfl|exact absurd rfl h
 have e2:(op==CmpOp.NotIn)=false:=by cases op<;>first|rfl|exact absurd rfl h2
 cases b with
 | Set elts k pos =>
  show(k==0&&(op==.In || op==.NotIn)&&elts.all (constantsAlone 8))=false;rw[e1,e2,Bool.or_self,Bool.and_false,Bool.false_and]
 | _=>rfl
theorem RJ{op:CmpOp}{r:R2}(ho:OpR X (compareOp op) r)(ha:PE X a ta)(hb:PE X b tb)(hm:behindInMarks op b=false):PE X (.Compare a [op] [b] pos) (tOp r ta tb):=by
 intro pins s σ H Q I h;exact wpAny_Compare1 (S0 ha hb I h fun v u s2 x y H2 I2 rx ry q=>ho pins s2 σ H2 x y v u Q I2 rx ry q) hm
noncomputable def SN(t:TE):TT:=fun σ H Q=>t σ H fun x H'=>∃k,x=.bl k/\Q k H'
theorem Nm{op:CmpOp}{r:R2}(ho:OpR X (compareOp op) r)(ha:PE X a ta)(hb:PE X b tb)(hm:behindInMarks op b=false):PT X (.Compare a [op] [b] pos) (SN (tOp r ta tb)):=by
 intro pins s σ H Q I h;refine wpAny_isTrue_Compare1 (thn (ha pins s σ H _ I h) fun v s1 yy=>?_) hm;obtain⟨x,H1,I1,r1,q1⟩:=yy;refine thn (hb pins s1 σ H1 _ I1 q1) fun u s2 yy=>?_;obtain⟨y,H2,I2,r2,q2⟩:=yy;refine thn (ho pins s2 σ H2 x y v u _ I2 r1 r2 q2) fun c s3 yy=>?_;obtain⟨z,H3,I3,r3,k,e,q3⟩:=yy;subst e;cases r3;exact wpAny_truthy_bool ⟨H3,I3,q3⟩
noncomputable def MU(r r':R2)(ta tb tc:TE):TE:=fun σ H Q=>ta σ H fun x H1=>tb σ H1 fun y H2=>r x y H2 fun z H3=>∃k,z=.bl k /\
 (if k=true then tc σ H3 fun w' H4=>r' y w' H4 Q else Q (.bl false) H3)
theorem PL{op op':CmpOp}{r r':R2}(ho:OpR X (compareOp op) r)(ho':OpR X (compareOp op') r')(ha:PE X a ta)(hb:PE X b tb)(hc:PE X c tc)(hm:lastMarks [op,op'] [b,c]=false:=by with_unfolding_all rfl):PE X (.Compare a [op,op'] [b,c] pos) (MU r r' ta tb tc):=by
 intro pins s σ H Q I h;refine Compare_chain (thn (ha pins s σ H _ I h) fun v s1 yy=>?_) hm;obtain⟨x,H1,I1,r1,q1⟩:=yy;refine chain_link (thn (hb pins s1 σ H1 _ I1 q1) fun u s2 yy=>?_);obtain⟨y,H2,I2,r2,q2⟩:=yy;refine thn (ho pins s2 σ H2 x y v u _ I2 r1 r2 q2) fun d s3 yy=>?_;obtain⟨z,H3,I3,r3,k,e,q3⟩:=yy;subst e;cases r3;refine wpAny_truthy_bool ?_;cases k with
 | false=>exact ite_ff ⟨.bl false,H3,I3,rfl,q3⟩
 | true=>exact ite_tt (chain_last (thn (hc pins s3 σ H3 _ I3 q3) fun w' s4 ⟨z',H4,I4,r4,q4⟩=>ho' pins s4 σ H4 y z' u w' Q I4 r2 r4 q4))
theorem P6{op op':CmpOp}{r r':R2}(ho:OpR X (compareOp op) r)(ho':OpR X (compareOp op') r')(ha:PE X a ta)(hb:PE X b tb)(hc:PE X c tc)(hm:lastMarks [op,op'] [b,c]=false:=by with_unfolding_all rfl):PT X (.Compare a [op,op'] [b,c] pos) (SN (MU r r' ta tb tc)):=by
 intro pins s σ H Q I h;refine isTrue_chain (thn (ha pins s σ H _ I h) fun v s1 yy=>?_) hm;obtain⟨x,H1,I1,r1,q1⟩:=yy;refine test_link (thn (hb pins s1 σ H1 _ I1 q1) fun u s2 yy=>?_);obtain⟨y,H2,I2,r2,q2⟩:=yy;refine thn (ho pins s2 σ H2 x y v u _ I2 r1 r2 q2) fun d s3 yy=>?_;obtain⟨z,H3,I3,r3,k,e,q3⟩:=yy;subst e;cases r3;refine wpAny_truthy_bool ?_;cases k with
 | false =>
  obtain⟨k',e',q'⟩:=q3;cases e';exact ite_ff ⟨H3,I3,q'⟩
 | true =>
  refine ite_tt (test_last (thn (hc pins s3 σ H3 _ I3 q3) fun w' s4 ⟨z',H4,I4,r4,q4⟩=>thn (ho' pins s4 σ H4 y z' u w' _ I4 r2 r4 q4) fun d' s5 yy=>?_));obtain⟨z2,H5,I5,r5,k2,e2,q5⟩:=yy;subst e2;cases r5;exact wpAny_truthy_bool ⟨H5,I5,q5⟩
noncomputable def SU(K:Frag)(x:V)(H:Hp)(k:Bool):Prop:=
 match x with
 | .non=>k=false
 | .bl b=>k=b
 | .int i=>k=(i != 0)
 | .str y=>y.length<=sizeLine/\k=((y.length:Int) != 0)
 | .byt y=>y.size<=sizeLine/\k=((y.size:Int) != 0)
 | .ref p=>(∃xs,SqL K H p xs/\k = !xs.isEmpty)\/(∃xs,SqT K H p xs/\k = !xs.isEmpty)\/∃kvs,H p=some (.dK kvs)/\k = !kvs.isEmpty
 | _=>False
theorem Mc{κ:Type}{kvs:List (κ×V)}{vs:List (κ×Value)}(r:KV kvs vs):(!vs.isEmpty) = !kvs.isEmpty:=by
 cases r<;>rfl
theorem Ia{xs:List V}{its:List Value}(r:Vals xs its):(!its.toArray.isEmpty) = !xs.isEmpty:=by
 cases r<;>simp
theorem FZ:(sizeLine:Nat)<2 ^ 63:=by rw[sizeLine_eq]; decide
theorem QC:Wt X (fun x H Q=>∃k,SU X.K x H k/\Q k H):=by
 intro pins s σ H x v Q I rx h;obtain⟨k,e,q⟩:=h;have hl:=FZ;have hs:sizeLine=16777216:=sizeLine_eq;cases x with
 | non =>
  cases rx;have e':k=false:=e;subst e';exact truthy_none ⟨H,I,q⟩
 | bl b =>
  cases rx;have e':k=b:=e;subst e';exact wpAny_truthy_bool ⟨H,I,q⟩
 | int i =>
  obtain⟨t,rfl⟩:=rx;have e':k=(i != 0):=e;subst e';exact PySem.P.truthy_int ⟨H,I,q⟩
 | str y =>
  obtain⟨t,rfl⟩:=rx;obtain⟨hy,e'⟩:y.length<=sizeLine/\k=((y.length:Int) != 0):=e;subst e';exact PySem.P.truthy_str (by lia) ⟨H,I.tok _,q⟩
 | byt y =>
  obtain⟨t,rfl⟩:=rx;obtain⟨hy,e'⟩:y.size<=sizeLine/\k=((y.size:Int) != 0):=e;subst e';exact PySem.W.truthy_bytes (by lia) ⟨H,I.tok _,q⟩
 | ref p =>
  cases rx;have e':(∃xs,SqL X.K H p xs/\k = !xs.isEmpty)\/(∃xs,SqT X.K H p xs/\k = !xs.isEmpty)\/∃kvs,H p=some (.dK kvs)/\k = !kvs.isEmpty:=e;rcases e' with ⟨xs,hx,e'⟩|⟨xs,hx,e'⟩|⟨kvs,hx,e'⟩
  .subst e'
   obtain⟨its,r,pl,hz⟩:=I.list hx;have hlen:=r.length;exact wpAny_truthy_list pl.isList (by simp only[List.size_toArray]; lia) ⟨H,I.tok _,by rw[Ia r]; exact q⟩
  .subst e'
   obtain⟨its,r,pl,hz⟩:=I.tuple hx;have hlen:=r.length;exact truthy_tuple pl (by simp only[List.size_toArray]; lia) ⟨H,I.tok _,by rw[Ia r]; exact q⟩
  .subst e'
   obtain⟨hz,hS,vs,r,m⟩:kvs.length<=sizeLine/\(p==sysModules)=false/\∃vs,KV kvs vs/\s.heap.DictOf (Nf X.prog X.w) p vs:=I.hok p _ hx;have hlen:kvs.length=vs.length:=Paired.length r;exact wpAny_truthy_dict hS m (by lia) ⟨H,I.tok _,by rw[Mc r]; exact q⟩
 | _=>exact(show False from e).elim
theorem P8(ha:PE X a ta)(he:∀whole,isTrue a X.env whole=(do let v <- whole; standAt a.pos; holding [v] (truthy v))):
  PT X a (fun σ H Q=>ta σ H fun x H'=>∃k,SU X.K x H' k/\Q k H'):=by
 intro pins s σ H Q I h;exact isTrue_plain (thn (ha pins s σ H _ I h) fun v s1 ⟨x,H1,I1,r1,q1⟩=>QC pins s1 σ H1 x v Q I1 r1 q1) (he _)
theorem Mv:OpR X (binaryOp .Add) (fun x y H Q=>∃i j,x=.str i/\y=.str j/\i.length+j.length<=sizeLine/\Q (.str (i++j)) H):=by
 intro pins s σ H x y v u Q I rx ry h;obtain⟨i,j,rfl,rfl,hz,q⟩:=h;obtain⟨t,rfl⟩:=rx;obtain⟨t',rfl⟩:=ry;exact add_str (fun t' tk=>⟨.str (i++j),H,I.tok _,⟨_,rfl⟩,q⟩) hz
theorem vals1{x:V}{us:List Value}(r:Vals [x] us):∃u,us=[u]/\RelV x u:=by
 cases r with
 | cons r1 r2=>cases r2; exact⟨_,rfl,r1⟩
theorem vals2{x y:V}{us:List Value}(r:Vals [x,y] us):∃u w',us=[u,w']/\RelV x u/\RelV y w':=by
 cases r with
 | cons r1 r2 =>
  cases r2 with
  | cons r3 r4=>cases r4; exact⟨_,_,rfl,r1,r3⟩
theorem KO:Dh X (.builtin "abs") (fun xs H Q=>∃i,xs=[.int i]/\Q (.int (if i<0 then -i else i)) H):=by
 intro pins s σ H xs us Q I r h;obtain⟨i,rfl,q⟩:=h;obtain⟨u,rfl,t,rfl⟩:=vals1 r;exact call_abs_int fun u tk=>⟨.int (if i<0 then -i else i),H,I.tok _,⟨_,rfl⟩,q⟩
theorem NJ(hc:X.calm=true):Dh X (.builtin "max") (fun xs H Q=>∃i j,xs=[.int i,.int j]/\Q (.int (if j > i then j else i)) H):=by
 intro pins s σ H xs us Q I r h;obtain⟨i,j,rfl,q⟩:=h;obtain⟨u,w',rfl,⟨t,rfl⟩,⟨t',rfl⟩⟩:=vals2 r;refine max_two_ints (I.ok.hd hc) fun h' tk k=>⟨_,H,I.kept k,?_,q⟩;by_cases hj:j > i
 .rw[if_pos hj,if_pos hj]; exact⟨_,rfl⟩
 .rw[if_neg hj,if_neg hj]; exact⟨_,rfl⟩
theorem NK(hc:X.calm=true):Dh X (.builtin "min") (fun xs H Q=>∃i j,xs=[.int i,.int j]/\Q (.int (if j<i then j else i)) H):=by
 intro pins s σ H xs us Q I r h;obtain⟨i,j,rfl,q⟩:=h;obtain⟨u,w',rfl,⟨t,rfl⟩,⟨t',rfl⟩⟩:=vals2 r;refine min_two_ints (I.ok.hd hc) fun h' tk k=>⟨_,H,I.kept k,?_,q⟩;by_cases hj:j<i
 .rw[if_pos hj,if_pos hj]; exact⟨_,rfl⟩
 .rw[if_neg hj,if_neg hj]; exact⟨_,rfl⟩
end
end L2
namespace L2
open PySem PySem.Spec PyProof.Rows
structure ObjM (h:Heap) (x dx C:Addr) (mA:Str->Option Value):Prop where
 obj:h.get? x=some (PySem.W.instObj C dx)
 ns:h.Ns1 dx mA
 ne:dx≠x
theorem NY{h:Heap}{dx:Addr}{mA:Str->Option Value}(n:h.Ns1 dx mA):∃od,h.get? dx=some od/\∀name,PySem.W.lookIn name od=some (mA name):=by
 obtain⟨o,es,ep,ho,hd,hk,_,hm⟩:=n;refine⟨o,ho,fun name=>?_⟩;have e:=hm name;unfold nsFind findBy at e;rw[<- Array.find?_toList] at e;unfold PySem.W.lookIn;rw[hd];dsimp only;split
 .rename_i y q
  rw[q] at e;exact congrArg some e
 .rename_i q
  rw[q] at e;have a:es.toList.any (·.refKey)=false:=by
   rw[List.any_eq_false];intro y hy;obtain⟨z,t,hkey⟩:=hk y (Array.mem_toList_iff.mp hy);simp[DictEntry.refKey,hkey]
  have a':¬es.toList.any (·.refKey)=true:=by rw[a]; exact Bool.false_ne_true
  rw[if_neg a'];exact congrArg some e
theorem ObjM.look{h:Heap}{x dx C:Addr}{mA:Str->Option Value}(I:ObjM h x dx C mA):∃od,PySem.W.InstAt h x (PySem.W.instObj C dx) C (some od)/\∀name,PySem.W.lookIn name od=some (mA name):=
 let⟨od,ho,hl⟩:=NY I.ns
 ⟨od,⟨I.obj,rfl,rfl,ho⟩,hl⟩
section
variable{prog:Program}{w:World}{A:Around}{E:Value->Shared->Prop}{s:Shared}{K:Frag}{x dx C f:Addr}{mA:Str->Option Value}{name:Str}{v:Value}
end
section
variable{P:Program}{w:World}{H H':Hp}{h h':Heap}{a C dx:Addr}{fs fs':List (Str×V)}
theorem Q8(hok:HOk P w H h)(e:H a=some (.ins C dx fs)):∃mA,ObjM h a dx C mA/\(∀f,SR (fs.lookup f) (mA f))/\PySem.Within mA (fs.map (·.1))/\fs.length<=1000/\H dx=some (.own a):=by
 obtain⟨d,z,ne,ob,mA,n,r,q⟩:=(show BV P w H h a (.ins C dx fs) from hok a _ e);exact⟨mA,⟨ob,n,ne⟩,r,q,z,d⟩
end
structure Cls (K:Frag) (C:Addr):Prop where
 pg:PySem.W.plainGet K C Str.empty=true
 hd:PySem.W.hasDictIn K C=true
 po:PySem.W.plainOver K C=true
 sa:PySem.W.findIn K (.ref C) "__setattr__" = some (some (.builtin "object.__setattr__"))
theorem Cls.get{K:Frag}{C:Addr}(c:Cls K C)(f:Str):PySem.W.plainGet K C f=true:=c.pg
section
variable{X:Cx}{pins:List (Addr×Obj)}{σ:St}{H:Hp}{s:Shared}{a C dx:Addr}{fs:List (Str×V)}{f:Str}{v:V}{A:Around}{E:Value->Shared->Prop}
end
section
variable{X:Cx}{o e value:Expr}{f:Str}{pos pos' tpos:Pos}{ta tv:TE}
end
section
variable{X:Cx}{pins:List (Addr×Obj)}{σ:St}{H:Hp}{s:Shared}{A:Around}{E:Value->Shared->Prop}{Q:Value->Shared->Prop}{c:Value}{b:Bool}
inductive TyOf (K:Frag) (H:Hp):V->Value->Prop where
 | non:TyOf K H .non (.type "NoneType")
 | bl (x:Bool):TyOf K H (.bl x) (.type "bool")
 | int (i:Int):TyOf K H (.int i) (.type "int")
 | str (x:Str):TyOf K H (.str x) (.type "str")
 | flt (x:UInt64):TyOf K H (.flt x) (.type "float")
 | lst {a:Addr} {xs:List V} (e:H a=some (.lst xs)):TyOf K H (.ref a) (.type "list")
 | frz {a:Addr} {o:Obj} {xs:List V} (e:H a=some (.frz o (.lst xs))):TyOf K H (.ref a) (.type "list")
 | tup {a:Addr} {xs:List V} (e:H a=some (.tup xs)):TyOf K H (.ref a) (.type "tuple")
 | dK {a:Addr} {kvs:List (Key×V)} (e:H a=some (.dK kvs)):TyOf K H (.ref a) (.type "dict")
 | dT {a:Addr} {kvs:List (D×V)} (e:H a=some (.dT kvs)):TyOf K H (.ref a) (.type "dict")
 | ins {a C dx:Addr} {fs:List (Str×V)} (e:H a=some (.ins C dx fs)) (cl:Cls K C) (ha:PySem.W.findIn K (.ref C) "__class__" = some (some (.builtin "object.__class__")))
   (hn:PySem.W.specialIn K (.builtin "object.__class__") "__get__" = some (some (.builtin "getset_descriptor.__get__"))) (htk:PySem.W.takesIn K (.builtin "object.__class__")=some true)
   (hm:PySem.W.mroIn K C (.type "object")=some true):TyOf K H (.ref a) (.ref C)
theorem NT{x:V}{u t:Value}(I:Inv X pins σ H s)(rx:RelV x u)(ty:TyOf X.K H x t)(e:PySem.W.kitOne X.K t c=some b)(h:∀tk,Q (.bool b) { s with toks:=tk }):
  wpAny (model X.prog X.w) A (call (.builtin "isinstance") [u,c]) Q E s:=by
 cases ty with
 | non=>cases (show u=Value.none from rx); exact PySem.W.kia_one PySem.W.kitx_none I.kIn True.intro e (fun z=>nomatch z) h
 | bl y=>cases (show u=Value.bool y from rx); exact PySem.W.kia_one PySem.W.kitx_bool I.kIn True.intro e (fun z=>nomatch z) h
 | int i=>obtain⟨t,q⟩:=(show ∃t,u=Value.int i t from rx); cases q; exact PySem.W.kia_one PySem.W.kitx_int I.kIn True.intro e (fun z=>nomatch z) h
 | str y=>obtain⟨t,q⟩:=(show ∃t,u=Value.str y t from rx); cases q; exact PySem.W.kia_one PySem.W.kitx_str I.kIn True.intro e (fun z=>nomatch z) h
 | flt y=>obtain⟨t,q⟩:=(show ∃t,u=Value.float y t from rx); cases q; exact PySem.W.kia_one PySem.W.kitx_float I.kIn True.intro e (fun z=>nomatch z) h
 | @lst a xs ea =>
  cases (show u=Value.ref a from rx);obtain⟨_,_,n,_,h1⟩:=(show BV X.prog X.w H s.heap a (.lst xs) from I.hok a _ ea);exact PySem.W.kia_one PySem.W.kitx_list I.kIn ⟨_,h1,rfl⟩ e (fun z=>nomatch z) h
 | @frz a ob xs ea =>
  cases (show u=Value.ref a from rx);obtain⟨_,_,_,n,_,h1⟩:=(show BV X.prog X.w H s.heap a (.frz ob (.lst xs)) from I.hok a _ ea);exact PySem.W.kia_one PySem.W.kitx_list I.kIn ⟨_,h1,rfl⟩ e (fun z=>nomatch z) h
 | @tup a xs ea =>
  cases (show u=Value.ref a from rx);obtain⟨_,_,_,p⟩:=(show BV X.prog X.w H s.heap a (.tup xs) from I.hok a _ ea);obtain⟨o,h1,h2,_⟩:=p;exact PySem.W.kia_one PySem.W.kitx_tuple I.kIn ⟨o,h1,h2⟩ e (fun z=>nomatch z) h
 | @dK a kvs ea =>
  cases (show u=Value.ref a from rx);obtain⟨_,_,vs,_,p⟩:=(show BV X.prog X.w H s.heap a (.dK kvs) from I.hok a _ ea);obtain⟨o,es,ep,h1,h2,_⟩:=p;exact PySem.W.kia_one PySem.W.kitx_dict I.kIn ⟨o,h1,h2.1⟩ e (fun z=>nomatch z) h
 | @dT a kvs ea =>
  cases (show u=Value.ref a from rx);obtain⟨_,_,xs,_,o,es,ep,h1,h2,_⟩:=(show BV X.prog X.w H s.heap a (.dT kvs) from I.hok a _ ea);exact PySem.W.kia_one PySem.W.kitx_dict I.kIn ⟨o,h1,h2.1⟩ e (fun z=>nomatch z) h
 | @ins a C dx fs ea cl ha hn htk hm =>
  cases (show u=Value.ref a from rx);obtain⟨mA,O,_⟩:=Q8 I.hok ea;obtain⟨od,J,_⟩:=O.look;exact PySem.W.kia_one (PySem.W.kitx_own (cl.get _) cl.hd ha hn htk hm) I.kIn J e (fun z=>nomatch z) h
end
end L2
namespace L2
open PySem PySem.Spec PyProof.Rows
structure Room (k:Nat) (A:Around):Prop where
 hd:A.handled=none
 dp:A.depth+3*k+5<recursionLimit
 un:A.units+16*k+200<cLine
theorem Room.mono{j k:Nat}{A:Around}(r:Room k A)(h:j<=k):Room j A:=⟨r.hd,by have:=r.dp; lia,by have:=r.un; lia⟩
theorem Room.deeper{k:Nat}{A:Around}(r:Room (k+1) A)(env:Env):Room k (A.deeper env):=
 ⟨r.hd,by have:=r.dp; show A.depth+1+3*k+5<_; lia,by have:=r.un; show A.units+3+16*k+200<_; lia⟩
theorem Room.depth{k:Nat}{A:Around}(r:Room k A):A.depth<recursionLimit:=by have:=r.dp; lia
theorem Room.units{k:Nat}{A:Around}(r:Room k A):A.units+64<cLine:=by have:=r.un; lia
noncomputable def GN:TA:=fun _ H Q=>Q [] H
noncomputable def B7(ta:TE)(tr:TA):TA:=fun σ H Q=>ta σ H fun x H1=>tr σ H1 fun xs H2=>Q (x::xs) H2
section
variable{X:Cx}{e:Expr}{es:List Expr}{te:TE}{t:TA}{pos:Pos}
theorem Fq:PA X [] GN:=fun _ _ _ _ H Q I h=>Calls.spliced_nil ⟨[],H,I,.nil,h⟩
theorem De(ha:PE X e te)(hr:PA X es t)(hs:starEach (e::es) X.env=(false,eval e X.env)::starEach es X.env:=by rfl):PA X (e::es) (B7 te t):=by
 intro pos pins s σ H Q I h;rw[hs];show wpAny _ _ (spliced ((false,eval e X.env)::backTo pos (starEach es X.env))) _ _ s;refine Calls.spliced_cons (thn (ha pins s σ H _ I h) fun u s1 yy=>?_);obtain⟨x,H1,I1,r1,q1⟩:=yy;exact thn (hr pos pins s1 σ H1 _ I1 q1) fun us s2 ⟨xs,H2,I2,r2,q2⟩=>⟨x::xs,H2,I2,.cons r1 r2,q2⟩
noncomputable def Wo(t:TA):TE:=fun σ H Q=>t σ H fun xs H1=>xs.length<=sizeLine/\∀p,H1 p=none->Q (.ref p) (upd H1 p (.tup xs))
noncomputable def Wg(t:TA):TE:=fun σ H Q=>t σ H fun xs H1=>xs.length<=sizeLine/\∀p,H1 p=none->Q (.ref p) (upd H1 p (.lst xs))
theorem UD{x1}(h:PA X es t):PE X (.Tuple es x1 pos) (Wo t):=by
 intro pins s σ H Q I hq;refine wpAny_Tuple_spliced (thn (h pos pins s σ H _ I hq) fun us s1 ⟨xs,H1,I1,r,z,q⟩=>⟨by rw[<- r.length]; exact z,?_⟩);have hf:H1 s1.heap.objs.size=none:=I1.hok.fresh (Nat.le_refl _);refine⟨.ref s1.heap.objs.size,upd H1 s1.heap.objs.size (.tup xs),I1.laid (t':=s1.toks) (fun b u e=>Heap.get?_push_of_some _ e) (Nat.le_refl _) ?_,rfl,q _ hf⟩;exact⟨z,us,r,⟨_,Heap.get?_push_size _ rfl,rfl,_,rfl⟩⟩
theorem Uy(h:PA X es t):PE X (.List es pos) (Wg t):=by
 intro pins s σ H Q I hq;refine wpAny_List_spliced (thn (h pos pins s σ H _ I hq) fun us s1 ⟨xs,H1,I1,r,z,q⟩=>⟨by rw[<- r.length]; exact z,?_⟩);have hf:H1 s1.heap.objs.size=none:=I1.hok.fresh (Nat.le_refl _);refine⟨.ref s1.heap.objs.size,upd H1 s1.heap.objs.size (.lst xs),I1.laid (t':=s1.toks) (fun b u e=>Heap.get?_push_of_some _ e) (Nat.le_refl _) ?_,rfl,q _ hf⟩;exact⟨z,us,0,r,Heap.get?_push_size _ rfl⟩
end
noncomputable abbrev Sp:=List V->Hp->VK->XK->Prop
noncomputable abbrev CXT:=List Env->Hp->Shared->XK->Value->Shared->Prop
structure Env0 (P:Program) (w:World) (K:Frag) (mg:Str->Option Value) (base:Heap) (A:Around) (outer:List Env) (s:Shared) (H:Hp):Prop where
 frames:A.frames=some outer
 mod:Mod K mg base
 bs:∀b o,base.get? b=some o->s.heap.get? b=some o/\H b=none
 bsz:base.objs.size<=s.heap.objs.size
 funs:s.heap.FunFrames base outer
 frf:∀b∈frs outer,H b=none
 hok:HOk P w H s.heap
 bare:AllBare s.gens
 tb:NF K H
noncomputable def CE(outer:List Env)(P:Program)(w:World)(H:Hp)(s:Shared)(Q:VK)(u:Value)(s':Shared):Prop:=
 ∃v H',s'.os=s.os/\AllBare s'.gens/\Un (frs outer) [] H H' s.heap s'.heap/\HOk P w H' s'.heap/\RelV v u/\Q v H'
noncomputable def CR(CX:CXT)(outer:List Env)(P:Program)(w:World)(H:Hp)(s:Shared)(Q:VK)(E:XK)(r:Result)(s':Shared):Prop:=
 match r with
 | .ok (.ret u)=>CE outer P w H s Q u s'
 | .ok _=>False
 | .error e=>CX outer H s E e s'
structure FnOk (P:Program) (w:World) (K:Frag) (mg:Str->Option Value) (base:Heap) (CX:CXT) (k:Nat) (f:Addr) (fd:FuncData) (ps:List Str) (sp:Sp):Prop where
 len:∀vs H Q E,sp vs H Q E->vs.length=ps.length
 run:∀(A:Around) (outer:List Env) (s:Shared) (H:Hp) (args:Args) (us:List Value) (vs:List V) (Q:VK) (E:XK),Room k A->Env0 P w K mg base A outer s H->BindsTo s fd args (ps.zip us)->Vals vs us->sp vs H Q E ->
  codeAny (model P w) A (.call (.ref f) args) (CR CX outer P w H s Q E) s
section
variable{X:Cx}{pins:List (Addr×Obj)}{σ:St}{H:Hp}{s s':Shared}
theorem Inv.env0(I:Inv X pins σ H s):Env0 X.prog X.w X.K X.mg X.base X.A X.stack s H:=
 ⟨I.ok.frames,I.ok.mod,I.bs,Nat.le_trans I.ok.bsz I.sz,I.stack,I.stkFree,I.hok,I.bare,I.tabs⟩
theorem Inv.after{Q:VK}{u:Value}(I:Inv X pins σ H s)(h:CE X.stack X.prog X.w H s Q u s'):EP X pins σ Q u s':=by
 obtain⟨v,H',os,bare,un,hok,r,q⟩:=h;obtain⟨hh,g,d,t,os'⟩:=s';obtain rfl:os'=s.os:=os;exact⟨v,H',I.call (h':=hh) (g':=g) (d':=d) (t':=t) (ch:=[]) un hok bare (fun b z=>absurd z (by simp)),r,q⟩
end
noncomputable def LB(sp:Sp)(dvs:List V)(E:XK)(t:TA):TE:=fun σ H Q=>t σ H fun vs H1=>sp (vs++dvs) H1 Q E
noncomputable def Binds(K:Frag)(fd:FuncData)(ps:List Str)(ds:List Value):Prop:=
 ∀(s:Shared) (us:List Value),K.In s.heap->(us++ds).length=ps.length->BindsTo s fd ⟨us,[]⟩ (ps.zip (us++ds))
theorem Binds.all{K:Frag}{fd:FuncData}{ps:List Str}(h:∀us:List Value,us.length=ps.length->bindArgs fd ⟨us,[]⟩=pure (ps.zip us)):Binds K fd ps []:=fun s us _ hl=>by
 rw[List.append_nil] at hl |-;exact .of_eq (h us hl)
noncomputable def Passes(CX:CXT)(X:Cx)(E:XK):Prop:=∀(pins:List (Addr×Obj)) (σ:St) (H:Hp) (s:Shared) (e:Value) (s':Shared),Inv X pins σ H s->CX X.stack H s E e s'->X.xe e s'
section
variable{X:Cx}{CX:CXT}{k:Nat}{f C:Addr}{fd:FuncData}{ps:List Str}{sp:Sp}{dvs:List V}{ds:List Value}{E:XK}{x m:Str}{p pos apos:Pos}{e o:Expr}{es:List Expr}{ta:TE}{t:TA}
theorem UQ{pins:List (Addr×Obj)}{σ:St}{H:Hp}{s:Shared}{Q:VK}{us:List Value}{vs:List V}(F:FnOk X.prog X.w X.K X.mg X.base CX k f fd ps sp)(hr:Room k X.A)(hb:Binds X.K fd ps ds)(hd:Vals dvs ds)(hx:Passes CX X E)(I:Inv X pins σ H s)(r:Vals vs us)(h:sp (vs++dvs) H Q E):wpAny (model X.prog X.w) X.A (call (.ref f) us) (EP X pins σ Q) X.xe s:=by
 have r2:Vals (vs++dvs) (us++ds):=r.append hd;have hl:(us++ds).length=ps.length:=by rw[<- r2.length]; exact F.len _ _ _ _ h
 refine wpAny_call (codeAny_mono (F.run X.A X.stack s H ⟨us,[]⟩ (us++ds) (vs++dvs) Q E hr I.env0 (hb s us I.kIn hl) r2 h) fun r s' hq=>?_);cases r with
 | error e=>exact hx pins σ H s e s' I hq
 | ok fl =>
  cases fl with
  | ret u=>exact I.after hq
  | next=>exact False.elim hq
  | brk=>exact False.elim hq
  | cont=>exact False.elim hq
theorem RI(F:FnOk X.prog X.w X.K X.mg X.base CX k f fd ps sp)(hr:Room k X.A)(hg:Gl X x)(hm:X.mg x=some (.ref f))(hk:PySem.W.keepIn X.K (.ref f)=true)(hb:Binds X.K fd ps ds)(hd:Vals dvs ds)(hx:Passes CX X E)(ha:PA X (e::es) t)(hdb:(x==("__debug__" : Str))=false:=by decide)(he:starEach (e::es) X.env=(false,eval e X.env)::starEach es X.env:=by rfl)(hpl:(backTo pos (starEach es X.env)).any (·.1)=false:=by rfl):
  PE X (.Call (.Name x p) (e::es) [] pos) (LB sp dvs E t):=by
 intro pins s σ H Q I h;refine wpAny_Call_Name_kw (HG I hg hm ?_ hdb);refine PySem.W.callWith_K (h₀:=X.base) I.ok.mod.kin hk (thn (ha pos pins s σ H _ I h) fun us s1 ⟨vs,H1,I1,r,q⟩=>⟨I1.kIn,?_⟩) he hpl;exact UQ F hr hb hd hx I1 r q
end
section
variable{X:Cx}{CX:CXT}{k:Nat}{f C:Addr}{fd:FuncData}{ps ks:List Str}{sp:Sp}{E:XK}{x m:Str}{p pos apos kpos:Pos}{e o:Expr}{es:List Expr}{kws:List Keyword}{te ta:TE}{t tk:TA}{nm:Option Str}
variable{g:List Value->List Value->List Value}{gV:List V->List V->List V}
end
structure FnScope (N P:List Str) (sc:Scope):Prop where
 kind:sc.kind=.function
 co:sc.isCoroutine=false
 gen:sc.isGenerator=false
 nd:N.Nodup
 pre:N.take P.length=P
 par:∀x∈P,sc.names.lookup x=some .local\/sc.names.lookup x=some .cell
 nofree:∀y∈sc.names,y.2≠.free
theorem Jt{kindOf:Str->Option NameKind}{x:Str}:∀{binds:List (Str×Value)} {m:Str->Option Value},(∀v,(x,v)∉binds)->bindL kindOf binds m x=m x
 | [],_,_=>rfl
 | (n,v)::r,m,h=>by
  unfold bindL;rw[Jt fun w hw=>h w (List.mem_cons_of_mem _ hw)];split
  .have:x≠n:=by rintro rfl; exact h v List.mem_cons_self
   simp[this]
  .rfl
theorem Jr{kindOf:Str->Option NameKind}{x:Str}:∀{binds:List (Str×Value)} {m:Str->Option Value},(∀v,(x,v)∉binds)->bindC kindOf binds m x=m x
 | [],_,_=>rfl
 | (n,v)::r,m,h=>by
  unfold bindC;rw[Jr fun w hw=>h w (List.mem_cons_of_mem _ hw)];split
  .rfl
  .have:x≠n:=by rintro rfl; exact h v List.mem_cons_self
   simp[this]
theorem Js{kindOf:Str->Option NameKind}{x:Str}{v:Value}:∀{P:List Str} {vs:List Value} {i:Nat} {m:Str->Option Value},P.Nodup->P[i]? = some x->vs[i]? = some v->kindOf x=some .local ->
  bindL kindOf (P.zip vs) m x=some v
 | [],_,_,_,_,h,_,_=>by simp at h
 | _::_,[],_,_,_,_,h,_=>by simp at h
 | p::P,w::vs,0,m,nd,h1,h2,hk=>by
  simp at h1 h2; subst h1; subst h2;show bindL kindOf ((p,w)::P.zip vs) m p=_;unfold bindL;rw[Jt fun v hv=>(List.nodup_cons.mp nd).1 (List.of_mem_zip hv).1,if_pos hk];simp
 | p::P,w::vs,i+1,m,nd,h1,h2,hk=>by
  show bindL kindOf ((p,w)::P.zip vs) m x=_;unfold bindL;exact Js (i:=i) (List.nodup_cons.mp nd).2 (by simpa using h1) (by simpa using h2) hk
theorem Jq{kindOf:Str->Option NameKind}{x:Str}{v:Value}:∀{P:List Str} {vs:List Value} {i:Nat} {m:Str->Option Value},P.Nodup->P[i]? = some x->vs[i]? = some v->kindOf x≠some .local ->
  bindC kindOf (P.zip vs) m x=some v
 | [],_,_,_,_,h,_,_=>by simp at h
 | _::_,[],_,_,_,_,h,_=>by simp at h
 | p::P,w::vs,0,m,nd,h1,h2,hk=>by
  simp at h1 h2; subst h1; subst h2;show bindC kindOf ((p,w)::P.zip vs) m p=_;unfold bindC;rw[Jr fun v hv=>(List.nodup_cons.mp nd).1 (List.of_mem_zip hv).1,if_neg hk];simp
 | p::P,w::vs,i+1,m,nd,h1,h2,hk=>by
  show bindC kindOf ((p,w)::P.zip vs) m x=_;unfold bindC;exact Jq (i:=i) (List.nodup_cons.mp nd).2 (by simpa using h1) (by simpa using h2) hk
noncomputable def start(N:List Str)(vs:List V):St:=vs.map some++List.replicate (N.length-vs.length) none
noncomputable def AS(CX:CXT)(P:Program)(w:World)(K:Frag)(mg:Str->Option Value)(base:Heap)(N:List Str)(qual:Str)(scope:Scope)(f:Addr)(cd:Value)(A:Around)(outer:List Env)(s:Shared)(H:Hp)(E:XK):Cx where
 prog:=P
 w:=w
 K:=K
 mg:=mg
 base:=base
 A:=A.deeper (envOfC qual scope s.heap.objs.size f cd)
 N:=N
 s₀:=s
 H₀:=H
 env:=envOfC qual scope s.heap.objs.size f cd
 outer:=outer
 stack:=envOfC qual scope s.heap.objs.size f cd::outer
 ex:=[]
 calm:=true
 fn:=fun _=>true
 pn:=[]
 xe:=fun e s'=>wpAny (model P w) (A.deeper (envOfC qual scope s.heap.objs.size f cd)) (leaving (envOfC qual scope s.heap.objs.size f cd) e) (fun _ s''=>CX outer H s E e s'') (fun e' s''=>CX outer H s E e' s'') s'
theorem KP{sc:Scope}{n:Nat}{x:Str}(h:sc.names.lookup x=some .cell):∃c,(cellsFrom n sc.names []).lookup x=some c:=by
 have q:=PySem.W.cellsFrom_some sc.names n [] (.inl h);exact Option.isSome_iff_exists.mp q
theorem G4{CX:CXT}{P:Program}{w:World}{K:Frag}{mg:Str->Option Value}{base:Heap}{N ps:List Str}{qual:Str}{scope:Scope}{f:Addr}{cd:Value}{A:Around}{outer:List Env}{s s1:Shared}{H:Hp}{E:XK}{us:List Value}{vs:List V}(S:FnScope N ps scope)(hd:A.handled=none)(e0:Env0 P w K mg base A outer s H)(hl:vs.length=ps.length)(r:Vals vs us)(x:InCallC s s.heap.objs.size (bindL (envOfC qual scope s.heap.objs.size f cd).kindOf (ps.zip us) fun _=>none) (cellsFrom (s.heap.objs.size+1) scope.names []) (bindC (envOfC qual scope s.heap.objs.size f cd).kindOf (ps.zip us) fun _=>none) s1):
  Inv (AS CX P w K mg base N qual scope f cd A outer s H E) [] (start N vs) H s1:=by
 have hpl:ps.length<=N.length:=by have:=congrArg List.length S.pre; rw[List.length_take] at this; lia
 obtain⟨h1,tk,rfl,hk⟩:=x.done;have noA:∀b:Addr,b∉(AS CX P w K mg base N qual scope f cd A outer s H E).ex:=fun b z=>absurd (show b∈([]:List Addr) from z) (by simp);refine⟨⟨e0.mod,S.kind,rfl,rfl,Nat.le_refl _,fun y z c h1 h2=>?_,fun y hy=>?_,fun y c _ h=>?_,fun _=>hd,Around.frames_deeper e0.frames,.inr ⟨rfl,rfl⟩,fun b z=>absurd z (noA b),e0.bs,e0.bsz,fun b _ _=>noA b,fun b z=>absurd z (noA b),e0.funs,e0.frf,e0.tb⟩,
  rfl,e0.bare,Un.kept hk,⟨_,x.toInCall.ns,fun i y v h1 h2 h3=>?_⟩,fun y c h=>⟨_,x.cell y c h⟩,e0.hok.fresh (Nat.le_refl _),fun y c h=>?_,fun p hp=>absurd (show p∈([]:List (Addr×Obj)) from hp) (by simp),e0.hok.kept hk,?_⟩
 .exact name_of_addr x.apart (PySem.mem_of_lookup h1) (PySem.mem_of_lookup h2)
 .have hy:scope.names.lookup y=some .cell\/scope.names.lookup y=some .free:=hy
  rcases hy with hy|hy
  .exact KP hy
  .exact absurd rfl (S.nofree _ (PySem.mem_of_lookup hy))
 .exact Nat.le_of_lt (x.above y c (PySem.mem_of_lookup h))
 .have hi:i<vs.length:=by
   unfold start at h2;by_cases hi:i<vs.length
   .exact hi
   .rw[List.getElem?_append_right (by simpa using hi)] at h2
    rw[List.getElem?_replicate] at h2;split at h2<;>cases h2
  have ha:vs[i]? = some v:=by
   unfold start at h2;rw[List.getElem?_append_left (by simpa using hi),List.getElem?_map] at h2;cases e:vs[i]? with
   | none=>rw[e] at h2; cases h2
   | some a=>rw[e] at h2; cases h2; rfl
  obtain⟨u,hu,rv⟩:=r.get ha;have hp:ps[i]? = some y:=by
   rw[<- S.pre,List.getElem?_take_of_lt (by lia)]; exact h1
  have ndP:ps.Nodup:=by rw[<- S.pre]; exact S.nd.sublist (List.take_sublist _ _)
  refine⟨u,rv,?_⟩;rcases S.par y (List.mem_of_getElem? hp) with k|k
  .exact .inl ⟨k,Js ndP hp hu k⟩
  .obtain⟨c,e⟩:=KP (n:=s.heap.objs.size+1) k
   refine .inr ⟨.inl k,c,e,?_⟩;have q:=x.cell y c e;rw[Jq ndP hp hu (by show scope.names.lookup y≠_; rw[k]; decide)] at q;exact q
 .exact e0.hok.fresh (Nat.le_of_lt (x.above y c (PySem.mem_of_lookup h)))
 .unfold start
  show _=N.length;rw[List.length_append,List.length_map,List.length_replicate];lia
theorem OQ{CX:CXT}{P:Program}{w:World}{K:Frag}{mg:Str->Option Value}{base:Heap}{k:Nat}{f:Addr}{name qual:Str}{params:Arguments}{body:List Stmt}{scope:Scope}{dV kV doc pm cdv ct oc:Value}{an od:Option Addr}{osl:Array (Option Value)}{N ps:List Str}{sp:Sp}(lk:K.lookup f=some ⟨oc,od,.func (PySem.W.fnOf name qual params body scope dV kV doc pm an cdv ct),osl⟩)(hcd:PySem.W.codeIn K cdv qual=true)(S:FnScope N ps scope)(len:∀vs H Q E,sp vs H Q E->vs.length=ps.length)(hbody:∀(A:Around) (outer:List Env) (s:Shared) (H:Hp) (vs:List V) (Q:VK) (E:XK),Room k (A.deeper (envOfC qual scope s.heap.objs.size f cdv))->sp vs H Q E ->
   ∃t,PSs (AS CX P w K mg base N qual scope f cdv A outer s H E) body t/\t { nx:=fun _ H'=>Q .non H',rt:=Q } (start N vs) H):
  FnOk P w K mg base CX (k+1) f (PySem.W.fnOf name qual params body scope dV kV doc pm an cdv ct) ps sp:=by
 refine⟨len,fun A outer s H args us vs Q E hr e0 hb r hsp=>?_⟩;have hl:=len _ _ _ _ hsp;have KX:K.In s.heap:=e0.mod.kin.keeps fun b o e=>(e0.bs b o e).1;have lim:s.heap.NoLimit:=e0.mod.nolimit.keeps fun b o e=>(e0.bs b o e).1;have hkind:∀y∈ps.zip us,scope.names.lookup y.1=some .local\/(scope.names.lookup y.1=some .cell/\((cellsFrom (s.heap.objs.size+1) scope.names []).lookup y.1).isSome=true):=fun⟨n,v⟩ hy=>by
  rcases S.par n (List.of_mem_zip hy).1 with q|q
  .exact .inl q
  .exact .inr ⟨q,PySem.W.cellsFrom_some _ _ _ (.inl q)⟩
 refine codeAny_call_function hr.depth (KX _ _ lk) rfl S.co S.gen rfl (PySem.W.codeRec_of KX hcd) (hb _ _ _ _ ?_);refine wpAny_newFunctionEnv_cells S.kind hkind fun env he s1 x=>?_;subst he;refine⟨lim.keeps x.toInCall.keep,codeAny_func ?_⟩;obtain⟨t,ht,hq⟩:=hbody A outer s H vs Q E (hr.deeper _) hsp;have I:Inv (AS CX P w K mg base N qual scope f cdv A outer s H E) [] (start N vs) H s1:=G4 S hr.hd e0 hl r x;refine wpAny_mono (ht [] s1 (start N vs) H _ I hq) (fun fl s' hs=>?_) fun e s' hs=>hs;have fin:∀{σ':St} {H':Hp} {v:V} {u:Value},Inv (AS CX P w K mg base N qual scope f cdv A outer s H E) [] σ' H' s'->RelV v u->Q v H'->CE outer P w H s Q u s':=
  fun {σ' H' v u} J rv q=>⟨v,H',J.os,J.bare,J.base,J.hok,rv,q⟩
 cases fl with
 | ret u =>
  obtain⟨v,σ',H',J,rv,q⟩:=hs;exact fin J rv q
 | next =>
  obtain⟨σ',H',J,q⟩:=hs;exact fin (v:=V.non) (u:=Value.none) J rfl q
 | brk =>
  obtain⟨_,_,_,q⟩:=hs;exact False.elim q
 | cont =>
  obtain⟨_,_,_,q⟩:=hs;exact False.elim q
end L2
namespace L2
open PySem PySem.Spec PyProof.Rows
section
variable{X:Cx}{x:Str}{p pos:Pos}{e:Expr}{es:List Expr}{t:TA}{id T:String}{r:List V->Hp->VK->Prop}
noncomputable def tCB(r:List V->Hp->VK->Prop)(t:TA):TE:=fun σ H Q=>t σ H fun vs H1=>r vs H1 Q
theorem Iv(hc:Dh X (.builtin id) r)(hg:Gl X x)(hm:X.mg x=none)(hv:bootBuiltins x=some (.builtin id))(ha:PA X (e::es) t)(hn:x ≠ "__name__" := by decide)(hdb:(x==("__debug__" : Str))=false:=by decide)(he:starEach (e::es) X.env=(false,eval e X.env)::starEach es X.env:=by rfl)(hpl:(backTo pos (starEach es X.env)).any (·.1)=false:=by rfl):PE X (.Call (.Name x p) (e::es) [] pos) (tCB r t):=by
 intro pins s σ H Q I h;refine wpAny_Call_Name_kw (Kd I hg hm hv ?_ hn hdb);exact PyProof.Rows.callWith_builtin1 (thn (ha pos pins s σ H _ I h) fun us s1 ⟨vs,H1,I1,r1,q1⟩=>hc pins s1 σ H1 vs us Q I1 r1 q1) he hpl
end
end L2
namespace HT
open PySem PyProof.Rows
section
open PySem.SeqAt
open PySem.AutoSeq1 (wpAny_loadPart')
open PySem.MeetsSeq PySem.MeetsSeq2 PySem.MeetsSeq3
end
section
variable{prog:Program}{w:World}{A:Around}{E:Value->Shared->Prop}{s:Shared}
noncomputable def sIx(n d:Nat):Option Int->Nat
 | none=>d
 | some v=>if v<0 then (v+(n:Int)).toNat else min v.toNat n
theorem Ql(n d:Nat):sIx n d none=d:=rfl
theorem R1(n d k:Nat):sIx n d (some (k:Int))=min k n:=by
 show(if (k:Int)<0 then ((k:Int)+(n:Int)).toNat else min (k:Int).toNat n)=min k n;rw[if_neg (by lia),Int.toNat_natCast]
theorem UR(n d:Nat)(hd:d<=n)(o:Option Int):sIx n d o<=n:=by
 cases o with
 | none=>exact hd
 | some v =>
  show(if v<0 then (v+(n:Int)).toNat else min v.toNat n)<=n;by_cases hv:v<0
  .rw[if_pos hv]; lia
  .rw[if_neg hv]; exact Nat.min_le_right _ _
theorem M7(v:Int)(n d:Nat):(if v<0 then max (v+(n:Int)) 0 else min v (n:Int))=((sIx n d (some v):Nat):Int):=by
 show(if v<0 then max (v+(n:Int)) 0 else min v (n:Int))=(((if v<0 then (v+(n:Int)).toNat else min v.toNat n):Nat):Int);by_cases hv:v<0
 .simp only[if_pos hv]; lia
 .simp only[if_neg hv]; lia
theorem LK(lo hi:Option Int)(n:Nat):Builtin.Slice.sliceAdjust lo hi 1 (n:Int)=(((sIx n 0 lo:Nat):Int),((sIx n n hi:Nat):Int)):=by
 have h1:¬((1:Int)<0):=by lia
 unfold Builtin.Slice.sliceAdjust;simp only[h1,if_false];refine Prod.ext ?_ ?_
 .cases lo with
  | none=>rfl
  | some v=>exact M7 v n 0
 .cases hi with
  | none=>rfl
  | some v=>exact M7 v n n
theorem MB(i j:Nat):Builtin.Slice.slicePlaces (i:Int) (j:Int) 1=j-i:=by
 unfold Builtin.Slice.slicePlaces;have h1:(1:Int) > 0:=by lia
 simp only[h1,if_true,Int.ediv_one];split<;>lia
theorem IM{v:Value}{o:Option Int}{Q:Option Int->Shared->Prop}(p:IsPart v o)(h:Q o s):wpAny (model prog w) A (Builtin.Slice.slicePartIndex v) Q E s:=by
 cases p with
 | none=>exact slicePart_none h
 | int i t=>exact slicePart_int h
theorem Hh{sl:Addr}{vl vu:Value}{lo hi:Option Int}{n:Nat}{Q:Int×Int×Nat->Shared->Prop}(hs:s.heap.IsSliceOf sl vl vu .none)(pl:IsPart vl lo)(pu:IsPart vu hi)(h:Q (((sIx n 0 lo:Nat):Int),1,sIx n n hi-sIx n 0 lo) s):wpAny (model prog w) A (Builtin.Slice.sliceApplied (.ref sl) (pure (n:Int))) Q E s:=by
 obtain⟨os,hos,hcs,hds⟩:=id hs;unfold Builtin.Slice.sliceApplied Builtin.Slice.sliceFields;refine wpAny_bind (wpAny_bind (wpAny_field hos hds (x:=vl) rfl (wpAny_bind (wpAny_field hos hds (x:=vu) rfl (wpAny_bind (wpAny_field hos hds (x:=.none) rfl (wpAny_pure ?_)))))));refine wpAny_bind (slicePart_none ?_);show wpAny _ _ (if ((1:Int)==0)=true then _ else _) _ _ s;rw[if_neg (by decide)];refine wpAny_bind (IM pl (wpAny_bind (IM pu (wpAny_bind (wpAny_pure ?_)))));show wpAny _ _ (match Builtin.Slice.sliceAdjust lo hi 1 (n:Int) with|(lo,hi)=>pure (lo,(1:Int),Builtin.Slice.slicePlaces lo hi 1)) _ _ s;rw[LK lo hi n];show wpAny _ _ (pure (((sIx n 0 lo:Nat):Int),(1:Int),Builtin.Slice.slicePlaces ((sIx n 0 lo:Nat):Int) ((sIx n n hi:Nat):Int) 1)) _ _ s;rw[MB];exact wpAny_pure h
theorem PN(xs:Array Value)(i k:Nat):((List.range k).filterMap fun(m:Nat)=>xs[((i:Int)+(m:Int)*1).toNat]?).toArray=((xs.toList.drop i).take k).toArray:=by
 have e:(fun(m:Nat)=>xs[((i:Int)+(m:Int)*1).toNat]?)=fun m=>xs[i+m]?:=by
  funext m;have:((i:Int)+(m:Int)*1).toNat=i+m:=by lia
  rw[this]
 rw[e];have:=pick_run xs i k;rw[List.filterMap_map] at this;have e2:((fun x=>xs[x]?) ∘ fun x=>i+x)=fun m=>xs[i+m]?:=rfl;rw[e2] at this;rw[this]
theorem Gn{t sl:Addr}{items:Array Value}{vl vu:Value}{lo hi:Option Int}{Q:Value->Shared->Prop}(ht:IsTup s.heap t items)(hs:s.heap.IsSliceOf sl vl vu .none)(pl:IsPart vl lo)(pu:IsPart vu hi)(hw:¬(sIx items.size 0 lo=0/\sIx items.size items.size hi=items.size))(h:Q (.ref s.heap.objs.size) { s with heap:=s.heap.push { cls:=.type "tuple",data:=.seq ((items.toList.drop (sIx items.size 0 lo)).take (sIx items.size items.size hi-sIx items.size 0 lo)).toArray } })(hsz:items.size<=sizeLine):wpAny (model prog w) A (getItem (.ref t) (.ref sl)) Q E s:=by
 have htake:sizeOk (.seq ((items.toList.drop (sIx items.size 0 lo)).take (sIx items.size items.size hi-sIx items.size 0 lo)).toArray):=by
  show((items.toList.drop (sIx items.size 0 lo)).take (sIx items.size items.size hi-sIx items.size 0 lo)).toArray.size<=sizeLine;rw[List.size_toArray,List.length_take,List.length_drop,Array.length_toList];lia
 have hj:sIx items.size items.size hi<=items.size:=UR _ _ (Nat.le_refl _) hi;obtain⟨os,hos,hcs,hds⟩:=id hs;have hTs:s.TypeIs (.ref sl) "slice" := ⟨os,hos,hcs⟩;unfold getItem;try with_reducible refine wpAny_holding ?_
 first|refine wpAny_bind (wpAny_pure ?_)|skip
 refine wpAny_bind (wpAny_sequenceKey ht.typeIs (by decide) ?_);refine wpAny_bind (wpAny_callSpecial?_slot (name:=Str.ofString "__getitem__") ht.typeIs PyProof.Rows.slot_tuple_getitem
  (wpAny_call_entry PyProof.Rows.slot_tuple_getitem ht.typeIs entry_tuple_getitem ?_ (args_tuple_getitem _ _)))
 show wpAny _ _ (Builtin.Tuple.tupleItemsOf (.ref t) >>= _) _ _ s;refine wpAny_bind (tupleItemsOf_ ht ?_);refine wpAny_bind (wpAny_typeOf hTs ?_);rw[if_pos (by decide)];refine wpAny_bind (Hh hs pl pu ?_);have hno:¬((((sIx items.size 0 lo:Nat):Int)==0&&(1:Int)==1&&(sIx items.size items.size hi-sIx items.size 0 lo)==items.size)=true):=by
  intro q;rw[Bool.and_eq_true,Bool.and_eq_true] at q;have q1:((sIx items.size 0 lo:Nat):Int)=0:=eq_of_beq q.1.1;have q2:sIx items.size items.size hi-sIx items.size 0 lo=items.size:=eq_of_beq q.2;exact hw ⟨by lia,by lia⟩
 show wpAny _ _ (if (((sIx items.size 0 lo:Nat):Int)==0&&(1:Int)==1&&(sIx items.size items.size hi-sIx items.size 0 lo)==items.size)=true then _ else _) _ _ s;rw[if_neg hno,PN];first
  | exact wpAny_bind (m:=Builtin.Tuple.tupleExact _) (wpAny_newObj_type (wpAny_pure ⟨_,rfl,wpAny_pure h⟩) htake)
  | exact wpAny_bind (m:=Builtin.Tuple.tupleExact _) (wpAny_newObj_type (wpAny_bind (wpAny_pure (wpAny_pure ⟨_,rfl,wpAny_pure h⟩))) htake)
  | exact wpAny_bind (wpAny_bind (m:=Builtin.Tuple.tupleExact _) (wpAny_newObj_type (wpAny_pure (wpAny_pure ⟨_,rfl,wpAny_pure h⟩)) htake))
  | exact wpAny_bind (wpAny_bind (m:=Builtin.Tuple.tupleExact _) (wpAny_newObj_type (wpAny_pure ⟨_,rfl,wpAny_pure h⟩) htake))
end
end HT
namespace L2
open PySem PySem.Spec PyProof.Rows
noncomputable abbrev TO:=St->Hp->(Option Int->Hp->Prop)->Prop
noncomputable def PO(X:Cx)(e:Option Expr)(t:TO):Prop:=
 ∀(pins:List (Addr×Obj)) (s:Shared) (σ:St) (H:Hp) (Q:Option Int->Hp->Prop),Inv X pins σ H s->t σ H Q ->
  wpAny (model X.prog X.w) X.A (evalPart e X.env) (fun u s'=>∃o H',Inv X pins σ H' s'/\IsPart u o/\Q o H') X.xe s
noncomputable def Sk:TO:=fun _ H Q=>Q none H
noncomputable def Wi(t:TE):TO:=fun σ H Q=>t σ H fun x H1=>∃i,x=.int i/\Q (some i) H1
section
variable{X:Cx}{e:Expr}{te:TE}{lo hi:Option Expr}{tl th:TO}{pos p2:Pos}
theorem RM:PO X none Sk:=by
 intro pins s σ H Q I h;rw[evalPart_none];exact wpAny_pure ⟨none,H,I,.none,h⟩
theorem RN(h:PE X e te):PO X (some e) (Wi te):=by
 intro pins s σ H Q I hw;rw[evalPart_some];refine thn (h pins s σ H _ I hw) fun u s1 yy=>?_;obtain⟨x,H1,I1,r1,q1⟩:=yy;obtain⟨i,rfl,q⟩:=q1;obtain⟨t,rfl⟩:=r1;exact⟨some i,H1,I1,.int i t,q⟩
noncomputable def SlR(X:Cx)(r:V->Option Int->Option Int->Hp->VK->Prop):Prop:=
 ∀(pins:List (Addr×Obj)) (s:Shared) (σ:St) (H:Hp) (x:V) (v vl vu:Value) (lo hi:Option Int) (sl:Addr) (Q:VK),Inv X pins σ H s->RelV x v->s.heap.IsSliceOf sl vl vu .none->IsPart vl lo->IsPart vu hi->r x lo hi H Q ->
  ∃T id,typeLookup (.type T) "__getitem__" = pure (some (.builtin id))/\s.TypeIs v T/\wpAny (model X.prog X.w) X.A (getItem v (.ref sl)) (EP X pins σ Q) X.xe s
noncomputable def tSl(r:V->Option Int->Option Int->Hp->VK->Prop)(te:TE)(tl th:TO):TE:=fun σ H Q=>te σ H fun x H1=>tl σ H1 fun l H2=>th σ H2 fun u H3=>r x l u H3 Q
theorem PM{r:V->Option Int->Option Int->Hp->VK->Prop}(hr:SlR X r)(he:PE X e te)(hl:PO X lo tl)(hu:PO X hi th):PE X (.Subscript e (.Slice lo hi none p2) pos) (tSl r te tl th):=by
 intro pins s σ H Q I h;refine Subscript_ (thn (he pins s σ H _ I h) fun v s1 yy=>?_);obtain⟨x,H1,I1,r1,q1⟩:=yy;refine wpAny_Slice (thn (hl pins s1 σ H1 _ I1 q1) fun vl s2 ⟨l,H2,I2,pl,q2⟩=>thn (hu pins s2 σ H2 _ I2 q2) fun vu s3 yy=>?_);obtain⟨u,H3,I3,pu,q3⟩:=yy;rw[evalPart_none];refine wpAny_pure ?_;have I4:Inv X pins σ H3 { s3 with heap:=s3.heap.push { cls:=.type "slice",data:=.fields #[vl,vu,.none] } }:=I3.kept (t':=s3.toks) fun b ob q=>Heap.get?_push_of_some _ q;obtain⟨T,id,hT,ht,hg⟩:=hr pins { s3 with heap:=s3.heap.push { cls:=.type "slice",data:=.fields #[vl,vu,.none] } } σ H3 x v vl vu l u s3.heap.objs.size Q I4 r1 (Heap.IsSliceOf.new ..) pl pu q3;show wpAny (model X.prog X.w) X.A (subscriptTail e (.Slice lo hi none p2) v (.ref s3.heap.objs.size)) (EP X pins σ Q) X.xe { s3 with heap:=s3.heap.push { cls:=.type "slice",data:=.fields #[vl,vu,.none] } };exact tail_any (ops:=[.ref s3.heap.objs.size,v]) ht hT hg (by with_unfolding_all rfl)
noncomputable def NL(xs:List V)(lo hi:Option Int):List V:=(xs.drop (HT.sIx xs.length 0 lo)).take (HT.sIx xs.length xs.length hi-HT.sIx xs.length 0 lo)
theorem Hl(xs:List V)(lo hi:Option Int):(NL xs lo hi).length<=xs.length:=by
 unfold NL;rw[List.length_take,List.length_drop];lia
noncomputable def V8(K:Frag):V->Option Int->Option Int->Hp->VK->Prop:=fun x lo hi H Q=>∃a xs,x=.ref a/\SqT K H a xs /\
 ¬(HT.sIx xs.length 0 lo=0/\HT.sIx xs.length xs.length hi=xs.length)/\∀p,H p=none->Q (.ref p) (upd H p (.tup (NL xs lo hi)))
theorem UY:SlR X (V8 X.K):=by
 intro pins s σ H x v vl vu lo hi sl Q I rx hs pl pu h;obtain⟨a,xs,rfl,hx,hw,q⟩:=h;cases rx;obtain⟨its,r,ht,hz⟩:=I.tuple hx;have hlen:its.toArray.size=xs.length:=by rw[List.size_toArray]; exact r.length.symm
 refine⟨"tuple",_,PyProof.Rows.slot_tuple_getitem.lookup,ht.typeIs,?_⟩;refine HT.Gn ht hs pl pu (by rw[hlen]; exact hw) ?_ (by rw[hlen]; exact hz);rw[hlen];refine⟨.ref s.heap.objs.size,_,I.laid (t':=s.toks) (o:=.tup (NL xs lo hi)) (fun b ob q=>Heap.get?_push_of_some _ q) (Nat.le_refl _) ?_,rfl,q _ (I.hok.fresh (Nat.le_refl _))⟩;exact⟨Nat.le_trans (Hl xs lo hi) hz,_,(r.drop (HT.sIx xs.length 0 lo)).take (HT.sIx xs.length xs.length hi-HT.sIx xs.length 0 lo),IsTup.new _ _⟩
end
end L2
namespace L2
open PySem PySem.Spec PyProof.Rows
noncomputable def ixN(n:Nat)(i:Int):Option Nat:=if 0<=i then (if i<n then some i.toNat else none) else if -(n:Int)<=i then some (i+n).toNat else none
noncomputable def atI{α:Type}(xs:List α)(i:Int):Option α:=(ixN xs.length i).bind fun j=>xs[j]?
theorem Nc{n:Nat}{i:Int}{j:Nat}(h:ixN n i=some j):seqIndex? i n=some j/\j<n/\-(n:Int)<=i/\i<n:=by
 unfold ixN at h;by_cases h0:0<=i
 .rw[if_pos h0] at h
  by_cases h1:i<n
  .rw[if_pos h1] at h
   have e:i.toNat=j:=Option.some.inj h;exact⟨by rw[seqIndex_of h0 h1,e],by lia,by lia,h1⟩
  .rw[if_neg h1] at h; cases h
 .rw[if_neg h0] at h
  by_cases h1 : -(n:Int)<=i
  .rw[if_pos h1] at h
   have e:(i+n).toNat=j:=Option.some.inj h;exact⟨by rw[seqIndex_neg (by lia) h1,e],by lia,h1,by lia⟩
  .rw[if_neg h1] at h; cases h
theorem Cm{α:Type}{xs:List α}{i:Int}{v:α}(h:atI xs i=some v):∃j,seqIndex? i xs.length=some j/\xs[j]? = some v/\j<xs.length/\-(xs.length:Int)<=i/\i<xs.length:=by
 unfold atI at h;cases e:ixN xs.length i with
 | none=>rw[e] at h; cases h
 | some j =>
  rw[e] at h;obtain⟨h1,h2,h3,h4⟩:=Nc e;exact⟨j,h1,h,h2,h3,h4⟩
theorem OF{α:Type}(xs:List α)(v:α):atI (xs++[v]) (-1)=some v:=by
 have hl:(xs++[v]).length=xs.length+1:=by simp
 have e:ixN (xs++[v]).length (-1)=some xs.length:=by
  unfold ixN;rw[hl,if_neg (by decide),if_pos (by lia)];congr 1;lia
 unfold atI;rw[e];show(xs++[v])[xs.length]? = some v;simp
noncomputable def M4(b:Expr):Prop:=∀o i,subscripted b false o i=operate [o,i] (getItem o i)
noncomputable def IxR(X:Cx)(r:R2):Prop:=
 ∀(value slice:Expr) (pins:List (Addr×Obj)) (s:Shared) (σ:St) (H:Hp) (x y:V) (v u:Value) (Q:VK),Inv X pins σ H s->RelV x v->RelV y u->r x y H Q ->
  subscripted slice false v u=operate [v,u] (getItem v u)->wpAny (model X.prog X.w) X.A (subscriptTail value slice v u) (EP X pins σ Q) X.xe s
noncomputable def MtR(X:Cx)(id:String)(r:V->List V->Hp->VK->Prop):Prop:=
 ∀(pins:List (Addr×Obj)) (s:Shared) (σ:St) (H:Hp) (x:V) (xs:List V) (v:Value) (us:List Value) (Q:VK),Inv X pins σ H s->RelV x v->Vals xs us->r x xs H Q ->
  wpAny (model X.prog X.w) X.A (call (.builtin id) (v::us)) (EP X pins σ Q) X.xe s
section
variable{X:Cx}{a b:Expr}{ta tb:TE}{pos:Pos}
theorem IxR.or{r r':R2}(h:IxR X r)(h':IxR X r'):IxR X (fun x y H Q=>r x y H Q\/r' x y H Q):=by
 intro value slice pins s σ H x y v u Q I rx ry q hs;rcases q with q|q
 .exact h value slice pins s σ H x y v u Q I rx ry q hs
 .exact h' value slice pins s σ H x y v u Q I rx ry q hs
theorem VW{r:R2}(hr:IxR X r)(ha:PE X a ta)(hb:PE X b tb)(hs:M4 b):PE X (.Subscript a b pos) (tOp r ta tb):=by
 intro pins s σ H Q I h;exact Subscript_ (S0 ha hb I h fun v u s2 x y H2 I2 rx ry q=>hr a b pins s2 σ H2 x y v u Q I2 rx ry q (hs _ _))
noncomputable def V3(K:Frag):R2:=fun x y H Q=>∃p xs i v,x=.ref p/\y=.int i/\SqL K H p xs/\atI xs i=some v/\Q v H
noncomputable def V5(K:Frag):R2:=fun x y H Q=>∃p xs i v,x=.ref p/\y=.int i/\SqT K H p xs/\atI xs i=some v/\Q v H
noncomputable def V4:R2:=fun x y H Q=>∃z i c,x=.str z/\y=.int i/\z.length<=sizeLine/\atI z.cps.toList i=some c/\Q (.str ⟨#[c]⟩) H
theorem Rb:IxR X (V3 X.K):=by
 intro value slice pins s σ H x y v u Q I rx ry h hs;obtain⟨p,xs,i,z,rfl,rfl,hq,he,q⟩:=h;cases rx;obtain⟨t,rfl⟩:=ry;obtain⟨its,r,pl,hz⟩:=I.list hq;obtain⟨j,h1,h2,h3,h4,h5⟩:=Cm he;obtain⟨w,ew,rw'⟩:=r.get h2;have hl:=r.length;have hn:=FZ;have fin:EP X pins σ Q w s:=⟨z,H,I,rw',q⟩;by_cases h0:0<=i
 .have hj:i.toNat=j:=by
   rw[seqIndex_of h0 h5] at h1;exact Option.some.inj h1
  exact item_listR pl.isList h0 (by lia) (by rw[hj]; simpa using ew) fin hs
 .have hj:(i+(its.toArray.size:Int)).toNat=j:=by
   rw[seqIndex_neg (by lia) h4] at h1;rw[List.size_toArray,<- hl];exact Option.some.inj h1
  exact subscriptTail_builtinR (x:=w) pl.isList.typeIs slot_list_getitem.lookup
   (wpAny_getItem_list_neg (Q:=fun r s'=>r=w/\EP X pins σ Q r s') pl.isList (by lia) (by rw[List.size_toArray]<;>lia) (by lia) (by rw[hj]; simpa using ew) ⟨rfl,fin⟩) hs
theorem Ts:IxR X (V5 X.K):=by
 intro value slice pins s σ H x y v u Q I rx ry h hs;obtain⟨p,xs,i,z,rfl,rfl,hq,he,q⟩:=h;cases rx;obtain⟨t,rfl⟩:=ry;obtain⟨its,r,pl,hz⟩:=I.tuple hq;obtain⟨j,h1,h2,h3,h4,h5⟩:=Cm he;obtain⟨w,ew,rw'⟩:=r.get h2;have hl:=r.length;have hn:=FZ;have fin:EP X pins σ Q w s:=⟨z,H,I,rw',q⟩;exact subscriptTail_builtinR (x:=w) pl.typeIs slot_tuple_getitem.lookup
  (getItem_tuple (j:=j) (Q:=fun r s'=>r=w/\EP X pins σ Q r s') pl (by lia) (by lia) (by rw[List.size_toArray,<- hl]; exact h1) (by simpa using ew) ⟨rfl,fin⟩) hs
theorem Tq:IxR X V4:=by
 intro value slice pins s σ H x y v u Q I rx ry h hs;obtain⟨z,i,c,rfl,rfl,hz,he,q⟩:=h;obtain⟨t,rfl⟩:=rx;obtain⟨t',rfl⟩:=ry;obtain⟨j,h1,h2,h3,h4,h5⟩:=Cm he;have hl:z.cps.toList.length=z.length:=by simp[Str.length]
 rw[hl] at h1 h4 h5;have hn:=FZ;exact tail_any (typeIs_str s z t) slot_str_getitem.lookup (getItem_str (c:=c) (by
  have e1:decide (i < -(2 ^ 63:Int))=false:=decide_eq_false (by lia);have e2:decide (i ≥ 2 ^ 63)=false:=decide_eq_false (by lia);rw[e1,e2,Bool.or_false]) (by rw[h1]; simpa using h2) ⟨.str ⟨#[c]⟩,H,I.tok _,⟨_,rfl⟩,q⟩) hs
noncomputable def rIx(K:Frag):R2:=fun x y H Q=>V3 K x y H Q\/V5 K x y H Q\/V4 x y H Q
theorem AD:IxR X (rIx X.K):=Rb.or (Ts.or Tq)
theorem Ml(its:List Value)(n j:Nat)(u:Value):Obj.mapSeq (·.setIfInBounds j u) { cls:=.type "list",data:=.seq its.toArray n }={ cls:=.type "list",data:=.seq (its.set j u).toArray n }:=by
 simp[Obj.mapSeq]
theorem Inv.lst{pins:List (Addr×Obj)}{σ:St}{H:Hp}{s:Shared}{p:Addr}{xs:List V}(I:Inv X pins σ H s)(h:H p=some (.lst xs)):
  ∃(its:List Value) (n:Nat),Vals xs its/\s.heap.get? p=some { cls:=.type "list",data:=.seq its.toArray n }/\xs.length<=sizeLine:=by
 obtain⟨z,its,n,r,e⟩:=I.hok p _ h;exact⟨its,n,r,e,z⟩
theorem Inv.lstUpd{pins:List (Addr×Obj)}{σ:St}{H:Hp}{s:Shared}{p:Addr}{xs ys:List V}{its its':List Value}{n n':Nat}{f:Obj->Obj}(I:Inv X pins σ H s)(h:H p=some (.lst xs))(ho:s.heap.get? p=some { cls:=.type "list",data:=.seq its.toArray n })(hf:f { cls:=.type "list",data:=.seq its.toArray n }={ cls:=.type "list",data:=.seq its'.toArray n' })(r:Vals ys its')(hz:ys.length<=sizeLine)(t:Nat):
  Inv X pins σ (upd H p (.lst ys)) { s with heap:=s.heap.update p f,toks:=t }:=by
 have e:(s.heap.update p f).get? p=some { cls:=.type "list",data:=.seq its'.toArray n' }:=by
  rw[Heap.get?_update_self f ho (by rw[hf]<;>rfl),hf]
 refine I.write (x:=p) (e:=p) (by rw[h]; trivial) (.inl rfl) (fun b u hb q=>(Heap.get?_update_other _ _ (Ne.symm hb)).trans q) ⟨_,e⟩ ?_;exact⟨hz,its',n',r,e⟩
noncomputable def SI:V->V->V->Hp->(Hp->Prop)->Prop:=fun o i v H Q=>∃p xs k j,o=.ref p/\i=.int k/\H p=some (.lst xs)/\ixN xs.length k=some j/\Q (upd H p (.lst (xs.set j v)))
theorem set_list:Vq X SI:=by
 intro pins s σ H o i v ov iv u Q I ro ri rv h;obtain⟨p,xs,k,j,rfl,rfl,hp,hj,q⟩:=h;cases ro;obtain⟨t,rfl⟩:=ri;obtain⟨its,n,r,ho,hz⟩:=I.lst hp;obtain⟨h1,h2,h3,h4⟩:=Nc hj;have hl:=r.length;have hn:=FZ;have I':Inv X pins σ (upd H p (.lst (xs.set j v))) { s with heap:=s.heap.update p (Obj.mapSeq (·.setIfInBounds j u)) }:=
  I.lstUpd hp ho (Ml its n j u) (r.set rv j) (by rw[List.length_set]; exact hz) s.toks
 by_cases h0:0<=k
 .have hk:k.toNat=j:=by
   rw[seqIndex_of h0 h4] at h1;exact Option.some.inj h1
  exact PySem.W.ki_setAt ho h0 (by lia) (by rw[List.size_toArray,<- hl]; exact h4) (by rw[hk]; exact⟨_,I',q⟩)
 .have hk:(k+(its.toArray.size:Int)).toNat=j:=by
   rw[seqIndex_neg (by lia) h3] at h1;rw[List.size_toArray,<- hl];exact Option.some.inj h1
  exact PySem.W.ki_setBack ho (by lia) (by rw[List.size_toArray,<- hl]; exact h3) (by lia) (by rw[hk]; exact⟨_,I',q⟩)
noncomputable def FJ:V->Bool
 | .non=>true
 | .bl _=>true
 | .int _=>true
 | .str _=>true
 | _=>false
noncomputable def eqV:V->V->Bool
 | .non,.non=>true
 | .bl a,.bl b=>a==b
 | .bl a,.int b=>(if a then 1 else 0)==b
 | .int a,.bl b=>a==(if b then 1 else 0)
 | .int a,.int b=>a==b
 | .str a,.str b=>a==b
 | _,_=>false
theorem S5{A:Around}{s:Shared}{y x:V}{u v:Value}(ry:RelV y u)(rx:RelV x v)(fy:FJ y=true)(fx:FJ x=true):SeqAt.EqAt A s u v (eqV y x):=by
 cases y with
 | non =>
  cases ry;cases x with
  | non=>cases rx; exact SeqAt.EqAt.same _
  | bl b=>cases rx; exact SeqAt.EqAt.none_bool b
  | int b=>obtain⟨t,rfl⟩:=rx; exact SeqAt.EqAt.none_int b t
  | str b=>obtain⟨t,rfl⟩:=rx; exact SeqAt.EqAt.none_str b t
  | _=>exact absurd (show false=true from fx) Bool.false_ne_true
 | bl a =>
  cases ry;cases x with
  | non=>cases rx; exact SeqAt.EqAt.bool_none a
  | bl b=>cases rx; exact SeqAt.EqAt.bool_bool a b
  | int b=>obtain⟨t,rfl⟩:=rx; exact SeqAt.EqAt.bool_int a b t
  | str b=>obtain⟨t,rfl⟩:=rx; exact SeqAt.EqAt.bool_str a b t
  | _=>exact absurd (show false=true from fx) Bool.false_ne_true
 | int a =>
  obtain⟨t',rfl⟩:=ry;cases x with
  | non=>cases rx; exact SeqAt.EqAt.int_none a t'
  | bl b=>cases rx; exact SeqAt.EqAt.int_bool a t' b
  | int b=>obtain⟨t,rfl⟩:=rx; exact SeqAt.EqAt.int_int a t' b t
  | str b=>obtain⟨t,rfl⟩:=rx; exact SeqAt.EqAt.int_str a t' b t
  | _=>exact absurd (show false=true from fx) Bool.false_ne_true
 | str a =>
  obtain⟨t',rfl⟩:=ry;cases x with
  | non=>cases rx; exact SeqAt.EqAt.str_none a t'
  | bl b=>cases rx; exact SeqAt.EqAt.str_bool a t' b
  | int b=>obtain⟨t,rfl⟩:=rx; exact SeqAt.EqAt.str_int a t' b t
  | str b=>obtain⟨t,rfl⟩:=rx; exact SeqAt.EqAt.str_str a t' b t
  | _=>exact absurd (show false=true from fx) Bool.false_ne_true
 | _=>exact absurd (show false=true from fy) Bool.false_ne_true
noncomputable def eqU(x:V)(u:Value):Bool:=match u with
 | .none=>eqV .non x
 | .bool b=>eqV (.bl b) x
 | .int i _=>eqV (.int i) x
 | .str z _=>eqV (.str z) x
 | _=>false
theorem OP{x y:V}{u:Value}(r:RelV y u)(f:FJ y=true):eqU x u=eqV y x:=by
 cases y with
 | non=>cases r; rfl
 | bl b=>cases r; rfl
 | int i=>obtain⟨t,rfl⟩:=r; rfl
 | str z=>obtain⟨t,rfl⟩:=r; rfl
 | _=>exact absurd (show false=true from f) Bool.false_ne_true
theorem HD{x:V}{xs:List V}{us:List Value}(h:Vals xs us):xs.all FJ=true->us.any (eqU x)=xs.any fun y=>eqV y x:=by
 induction h with
 | nil=>exact fun _=>rfl
 | cons r t ih =>
  intro f;rw[List.all_cons,Bool.and_eq_true] at f;rw[List.any_cons,List.any_cons,OP r f.1,ih f.2]
theorem Fj{A:Around}{s:Shared}{x:V}{v:Value}(rx:RelV x v)(fx:FJ x=true):∀{xs:List V} {us:List Value},Vals xs us->xs.all FJ=true->∀u∈us,SeqAt.EqAt A s u v (eqU x u)
 | _,_,.nil,_=>fun u hu=>by cases hu
 | y::xs,u::us,.cons r t,f=>fun u' hu=>by
  rw[List.all_cons,Bool.and_eq_true] at f;rcases List.mem_cons.mp hu with rfl|hu
  .rw[OP r f.1]; exact S5 r rx f.1 fx
  .exact Fj rx fx t f.2 u' hu
noncomputable def inV(x:V)(xs:List V):Bool:=xs.any fun y=>eqV y x
noncomputable def rIn(K:Frag)(neg:Bool):R2:=fun x y H Q=>∃p xs,y=.ref p/\(SqL K H p xs\/SqT K H p xs)/\FJ x=true/\xs.all FJ=true/\Q (.bl (if neg then !inV x xs else inV x xs)) H
theorem N6:OpR X (compareOp .In) (rIn X.K false):=by
 intro pins s σ H x y v u Q I rx ry h;obtain⟨p,xs,rfl,hq,fx,fs,q⟩:=h;cases ry;rcases hq with hq|hq
 .obtain⟨its,r,pl,hz⟩:=I.list hq
  refine SeqAt.in_listAt (eqU x) pl.isList (fun w hw=>Fj rx fx r fs w (by simpa using hw)) ⟨.bl _,H,I,rfl,?_⟩;rw[show its.toArray.any (eqU x)=its.any (eqU x) by simp,HD r fs];exact q
 .obtain⟨its,r,pl,hz⟩:=I.tuple hq
  refine SeqAt.in_tupleAt (eqU x) pl (fun w hw=>Fj rx fx r fs w (by simpa using hw)) ⟨.bl _,H,I,rfl,?_⟩;rw[show its.toArray.any (eqU x)=its.any (eqU x) by simp,HD r fs];exact q
theorem GC:OpR X (compareOp .NotIn) (rIn X.K true):=by
 intro pins s σ H x y v u Q I rx ry h;obtain⟨p,xs,rfl,hq,fx,fs,q⟩:=h;cases ry;rcases hq with hq|hq
 .obtain⟨its,r,pl,hz⟩:=I.list hq
  refine SeqAt.notIn_listAt (eqU x) pl.isList (fun w hw=>Fj rx fx r fs w (by simpa using hw)) ⟨.bl _,H,I,rfl,?_⟩;rw[show its.toArray.any (eqU x)=its.any (eqU x) by simp,HD r fs];exact q
 .obtain⟨its,r,pl,hz⟩:=I.tuple hq
  refine SeqAt.notIn_tupleAt (eqU x) pl (fun w hw=>Fj rx fx r fs w (by simpa using hw)) ⟨.bl _,H,I,rfl,?_⟩;rw[show its.toArray.any (eqU x)=its.any (eqU x) by simp,HD r fs];exact q
theorem Kl:OpR X (compareOp .NotIn) (fun x y H Q=>∃i j,x=.str i/\y=.str j/\Q (.bl (!(!(Builtin.Str.occurrences j i 0 j.length 1).isEmpty))) H):=by
 intro pins s σ H x y v u Q I rx ry h;obtain⟨i,j,rfl,rfl,q⟩:=h;obtain⟨t,rfl⟩:=rx;obtain⟨t',rfl⟩:=ry;exact notIn_str ⟨.bl _,H,I,rfl,q⟩
theorem JZ:Dh X (.builtin "len") (fun xs H Q=>∃p ys,xs=[.ref p]/\(SqL X.K H p ys\/SqT X.K H p ys)/\Q (.int ys.length) H):=by
 intro pins s σ H xs us Q I r h;obtain⟨p,ys,rfl,hq,q⟩:=h;obtain⟨u,rfl,rx⟩:=vals1 r;cases rx;have hn:=FZ;rcases hq with hq|hq
 .obtain⟨its,r',pl,hz⟩:=I.list hq
  have hlen:=r'.length;exact Calls.call_len_list pl.isList (by simp only[List.size_toArray]<;>lia) ⟨.int ys.length,H,I.tok _,⟨s.toks+1,by rw[List.size_toArray,hlen]⟩,q⟩
 .obtain⟨its,r',pl,hz⟩:=I.tuple hq
  have hlen:=r'.length;exact len_tuple pl (by simp only[List.size_toArray]<;>lia) ⟨.int ys.length,H,I.tok _,⟨s.toks+1,by rw[List.size_toArray,hlen]⟩,q⟩
theorem J0:Dh X (.builtin "len") (fun xs H Q=>∃z,xs=[.str z]/\z.length<=sizeLine/\Q (.int z.length) H):=by
 intro pins s σ H xs us Q I r h;obtain⟨z,rfl,hz,q⟩:=h;obtain⟨u,rfl,t,rfl⟩:=vals1 r;have hn:=FZ;exact len_str (by lia) ⟨.int z.length,H,I.tok _,⟨_,rfl⟩,q⟩
theorem Dh.or{f:Value}{r r':List V->Hp->VK->Prop}(h:Dh X f r)(h':Dh X f r'):Dh X f (fun xs H Q=>r xs H Q\/r' xs H Q):=by
 intro pins s σ H xs us Q I rs q;rcases q with q|q
 .exact h pins s σ H xs us Q I rs q
 .exact h' pins s σ H xs us Q I rs q
noncomputable def tyV(K:Frag)(T:String)(x:V)(H:Hp):Prop:=match x with
 | .str _=>T = "str"
 | .int _=>T = "int"
 | .ref p=>(T = "list" /\ ∃xs,SqL K H p xs)\/(T = "tuple" /\ ∃o,K.lookup p=some o/\o.cls=.type "tuple" /\ o.dict=none) \/
   (T = "dict" /\ ((∃kvs,H p=some (.dK kvs))\/∃kvs,H p=some (.dT kvs)))\/(T = "set" /\ ∃S n,H p=some (.set S n))
 | _=>False
theorem QH{pins:List (Addr×Obj)}{σ:St}{H:Hp}{s:Shared}{T:String}{x:V}{v:Value}(I:Inv X pins σ H s)(r:RelV x v)(ty:tyV X.K T x H):
  s.TypeIs v T/\∀a,v=.ref a->∃ob,s.heap.get? a=some ob/\ob.dict=none:=by
 cases x with
 | str z =>
  obtain⟨t,rfl⟩:=r;cases (show T = "str" from ty);exact⟨typeIs_str s z t,fun _ e=>nomatch e⟩
 | int i =>
  obtain⟨t,rfl⟩:=r;cases (show T = "int" from ty);exact⟨typeIs_int s i t,fun _ e=>nomatch e⟩
 | ref p =>
  cases r;rcases ty with ⟨rfl,xs,hq⟩|⟨rfl,o,hk,hc,hd⟩|⟨rfl,hk⟩|⟨rfl,S,n,hk⟩
  .obtain⟨its,_,pl,_⟩:=I.list hq
   refine⟨pl.isList.typeIs,fun a e=>?_⟩;cases e;obtain⟨o,n,e,c,hd,_⟩:=pl;exact⟨o,e,hd⟩
  .refine⟨⟨o,I.kIn p o hk,hc⟩,fun a e=>?_⟩
   cases e;exact⟨o,I.kIn _ o hk,hd⟩
  .have z:∃o,s.heap.get? p=some o/\o.ExactDict:=by
    rcases hk with ⟨kvs,hk⟩|⟨kvs,hk⟩
    .obtain⟨_,_,_,_,o,_,_,e,ex,_⟩:=I.hok p _ hk
     exact⟨o,e,ex⟩
    .obtain⟨_,_,_,_,o,_,_,e,ex,_⟩:=I.hok p _ hk
     exact⟨o,e,ex⟩
   obtain⟨o,e,ex⟩:=z;refine⟨⟨o,e,ex.1⟩,fun a e2=>?_⟩;cases e2;exact⟨o,e,ex.2.1⟩
  .obtain⟨o,_,_,_,e,ex,_⟩:=I.hok p _ hk
   refine⟨⟨o,e,ex.1⟩,fun a e2=>?_⟩;cases e2;exact⟨o,e,ex.2.1⟩
 | _=>exact False.elim ty
noncomputable def We(K:Frag)(T:String)(r:V->List V->Hp->VK->Prop)(to:TE):TE:=fun σ H Q=>to σ H fun x H1=>tyV K T x H1/\r x [] H1 Q
noncomputable def tBM(K:Frag)(T:String)(r:V->List V->Hp->VK->Prop)(to:TE)(t:TA):TE:=fun σ H Q=>to σ H fun x H1=>tyV K T x H1/\t σ H1 fun xs H2=>r x xs H2 Q
variable{o e:Expr}{es:List Expr}{to:TE}{t:TA}{name:Str}{apos cpos:Pos}{T id:String}{r:V->List V->Hp->VK->Prop}
theorem Up(pa:PlainAttrs T)(slot:Slot T name id)(hty:typeOf (.builtin id)=pure (.type "method_descriptor"))(hm:MtR X id r)(ho:PE X o to)(hbase:attributeBase o name X.env (eval o X.env)=eval o X.env:=by rfl)(hline:(apos.endLine==cpos.line)=true:=by rfl):PE X (.Call (.Attribute o name apos) [] [] cpos) (We X.K T r to):=by
 intro pins s σ H Q I h;refine wpAny_Call_method0_late hbase hline (thn (ho pins s σ H _ I h) fun v s1 yy=>?_);obtain⟨x,H1,I1,r1,ty,q1⟩:=yy;obtain⟨h1,h2⟩:=QH I1 r1 ty;exact⟨T,id,pa,slot,hty,h1,h2,Calls.callWith_builtin rfl (PySem.evalArgs_none (hm pins s1 σ H1 x [] v [] Q I1 r1 .nil q1))⟩
theorem PJ(pa:PlainAttrs T)(slot:Slot T name id)(hty:typeOf (.builtin id)=pure (.type "method_descriptor"))(hm:MtR X id r)(ho:PE X o to)(ha:PA X (e::es) t)(hbase:attributeBase o name X.env (eval o X.env)=eval o X.env:=by rfl)(hfew:((backTo cpos (starEach (e::es) X.env)).all (fun x=>!x.1)&&(backToKw cpos (keywordEach [] X.env)).all (fun x=>x.1.isSome)
   && decide ((e::es).length+([]:List Keyword).length+(if ([]:List Keyword).isEmpty then 0 else 1)<30))=true:=by rfl)(hline:(apos.endLine==cpos.line)=true:=by rfl)(hs:starEach (e::es) X.env=(false,eval e X.env)::starEach es X.env:=by rfl)(hplain:(backTo cpos (starEach es X.env)).any (·.1)=false:=by rfl):
  PE X (.Call (.Attribute o name apos) (e::es) [] cpos) (tBM X.K T r to t):=by
 intro pins s σ H Q I h;refine wpAny_Call_method_late hbase hfew hline rfl (thn (ho pins s σ H _ I h) fun v s1 yy=>?_);obtain⟨x,H1,I1,r1,ty,q1⟩:=yy;obtain⟨h1,h2⟩:=QH I1 r1 ty;refine⟨T,id,pa,slot,hty,h1,h2,?_⟩;have hA:=ha cpos pins s1 σ H1 _ I1 q1;rw[hs] at hA |-;refine Calls.callWith_builtin (by show(false || (backTo cpos (starEach es X.env)).any (·.1))=false; rw[hplain]<;>rfl) (Calls.evalArgs_plain ?_);exact thn hA fun us s2 ⟨vs,H2,I2,r2,q2⟩=>hm pins s2 σ H2 x vs v us Q I2 r1 r2 q2
/- xs.append(e),list.index on a module's tuple .. are MtR facts of 06m -/
end
end L2
namespace L2
open PySem PySem.Spec PyProof.Rows
noncomputable def MtM(X:Cx)(id:String)(r:V->List V->Hp->VK->Prop):Prop:=
 ∀(pins:List (Addr×Obj)) (s:Shared) (σ:St) (H:Hp) (x:V) (xs:List V) (v:Value) (us:List Value) (Q:VK),Inv X pins σ H s->RelV x v->Vals xs us->r x xs H Q ->
  wpAny (model X.prog X.w) X.A (call (.builtin id) (v::us)) (EP X pins σ Q) X.xe s
theorem Vals.one{x:V}{us:List Value}(h:Vals [x] us):∃u,us=[u]/\RelV x u:=by
 cases h with
 | cons r t=>cases t; exact⟨_,rfl,r⟩
theorem Vals.two{x y:V}{us:List Value}(h:Vals [x,y] us):∃u v,us=[u,v]/\RelV x u/\RelV y v:=by
 cases h with
 | cons r t =>
  obtain⟨v,rfl,q⟩:=Vals.one t;exact⟨_,_,rfl,r,q⟩
theorem Vals.zero:∀{us:List Value},Vals [] us->us=[]
 | _,.nil=>rfl
theorem Vals.dropLast{xs:List V}{us:List Value}(h:Vals xs us):Vals xs.dropLast us.dropLast:=by
 induction h with
 | nil=>exact .nil
 | cons r t ih =>
  cases t with
  | nil=>exact .nil
  | cons q t'=>exact .cons r ih
theorem LV{α:Type}(l:List α):l.eraseIdx (l.length-1)=l.dropLast:=by
 induction l with
 | nil=>rfl
 | cons a r ih =>
  cases r with
  | nil=>rfl
  | cons b r =>
   have e:(a::b::r).length-1=((b::r).length-1)+1:=by
    have h1:(a::b::r).length=r.length+2:=rfl;have h2:(b::r).length=r.length+1:=rfl;lia
   rw[e,List.eraseIdx_cons_succ,ih];all_goals rfl
section
variable{X:Cx}{pins:List (Addr×Obj)}{σ:St}{H:Hp}{s:Shared}{l b:Addr}{xs ys zs:List V}
theorem Inv.lset{its its':List Value}{n:Nat}{f:Array Value->Array Value}{t':Nat}(I:Inv X pins σ H s)(hH:H l=some (.lst xs))(e:s.heap.get? l=some { cls:=.type "list",data:=.seq its.toArray n })(hf:f its.toArray=its'.toArray)(hv:Vals ys its')(hz:ys.length<=sizeLine):
  Inv X pins σ (upd H l (.lst ys)) { s with heap:=s.heap.update l (Obj.mapSeq f),toks:=t' }:=by
 have q:=PySem.IsL.update e f;rw[hf] at q;refine I.write (x:=l) (e:=l) (by rw[hH]; exact trivial) (.inl rfl) (fun b' u hb hu=>(Heap.get?_update_other s.heap (Obj.mapSeq f) (Ne.symm hb)).trans hu) ⟨_,q⟩ ?_;exact⟨hz,its',_,hv,q⟩
theorem Inv.lnew{its:List Value}{t':Nat}(I:Inv X pins σ H s)(hv:Vals ys its)(hz:ys.length<=sizeLine):
  Inv X pins σ (upd H s.heap.objs.size (.lst ys)) { s with heap:=s.heap.push { cls:=.type "list",data:=.seq its.toArray },toks:=t' }:=
 I.laid (fun _ _ q=>Heap.get?_push_of_some _ q) (Nat.le_refl _) ⟨hz,its,0,hv,Heap.get?_push_size _ rfl⟩
theorem Inv.fresh(I:Inv X pins σ H s):H s.heap.objs.size=none:=I.hok.fresh (Nat.le_refl _)
theorem Inv.lstM(I:Inv X pins σ H s)(hH:H l=some (.lst xs)):xs.length<=sizeLine/\∃(its:List Value) (n:Nat),Vals xs its/\xs.length=its.length/\s.heap.get? l=some { cls:=.type "list",data:=.seq its.toArray n }:=by
 obtain⟨z,its,n,r,e⟩:=I.hok l _ hH;exact⟨z,its,n,r,r.length,e⟩
theorem Pt{n:Nat}(h:n<=sizeLine):Builtin.List.listTooLong n=false:=by
 unfold Builtin.List.listTooLong;exact decide_eq_false (by lia)
end
section
variable{X:Cx}
noncomputable def Nq:V->List V->Hp->VK->Prop:=fun x vs H Q=>∃l xs y,x=.ref l/\vs=[y]/\H l=some (.lst xs)/\xs.length<sizeLine/\Q .non (upd H l (.lst (xs++[y])))
theorem G9:MtM X "list.append" Nq:=by
 intro pins s σ H x vs v us Q I rx rv h;obtain⟨l,xs,y,rfl,rfl,hH,hz,q⟩:=h;cases rx;obtain⟨u,rfl,ru⟩:=rv.one;obtain⟨z,its,n,r,hl,e⟩:=I.lstM hH;refine call_meets F.slot_list_append ⟨_,e,rfl⟩ F.entry_list_append (F.args_list_append_2 _ _) (PySem.list_append l its.toArray n u (by rw[List.size_toArray]; lia)) ⟨e,?_⟩;refine⟨.non,_,I.lset (its':=its++[u]) hH e (by simp) (r.append (.cons ru .nil)) ?_,rfl,q⟩;rw[List.length_append,List.length_singleton];lia
noncomputable def V7:V->List V->Hp->VK->Prop:=fun x vs H Q=>∃l xs y,x=.ref l/\vs=[]/\H l=some (.lst xs)/\xs[xs.length-1]? = some y/\Q y (upd H l (.lst xs.dropLast))
theorem TZ:MtM X "list.pop" V7:=by
 intro pins s σ H x vs v us Q I rx rv h;obtain⟨l,xs,y,rfl,rfl,hH,hy,q⟩:=h;cases rx;have hus:=rv.zero;subst hus;obtain⟨z,its,n,r,hl,e⟩:=I.lstM hH;obtain⟨u,hu,ru⟩:=r.get hy;have hy':its.toArray[its.toArray.size-1]? = some u:=by
  show its.toArray[its.length-1]? = some u;rw[<- Array.getElem?_toList,<- hl];exact hu
 refine call_meets F.slot_list_pop ⟨_,e,rfl⟩ F.entry_list_pop (F.args_list_pop_1 _) (MeetsSeq.list_pop_last l its.toArray n u hy' (by rw[List.size_toArray]; lia)) ⟨e,?_⟩;refine⟨y,_,I.lset (its':=its.dropLast) hH e ?_ r.dropLast ?_,ru,q⟩
 .show its.toArray.eraseIdxIfInBounds (its.toArray.size-1)=its.dropLast.toArray
  rw[List.size_toArray,List.eraseIdxIfInBounds_toArray,LV]
 .rw[List.length_dropLast]
  lia
noncomputable def UN:R2:=fun x y H Q=>∃l b xs zs,x=.ref l/\y=.ref b/\H l=some (.lst xs)/\H b=some (.lst zs)/\xs.length+zs.length<=sizeLine/\∀p,H p=none->Q (.ref p) (upd H p (.lst (xs++zs)))
theorem Uh:OpR X (binaryOp .Add) UN:=by
 intro pins s σ H x y v u Q I rx ry h;obtain⟨l,b,xs,zs,rfl,rfl,hH,hB,hz,q⟩:=h;cases rx;cases ry;obtain⟨z,its,n,r,hl,e⟩:=I.lstM hH;obtain⟨z2,its2,n2,r2,hl2,e2⟩:=I.lstM hB;refine PySem.P.add_list e e2 ?_ (by rw[List.size_toArray,List.size_toArray]; lia);have ea:its.toArray++its2.toArray=(its++its2).toArray:=by simp
 rw[ea];exact⟨.ref _,_,I.lnew (t':=s.toks) (r.append r2) (by rw[List.length_append]; lia),rfl,q _ I.fresh⟩
end
section
variable{prog:Program}{w:World}{A:Around}{E:Value->Shared->Prop}{s:Shared}
set_option maxRecDepth 100000 in
end
section
variable{X:Cx}
end
end L2
namespace Att
open PySem PySem.W PySem.Calls PyProof.Rows
theorem Hx{P:Params}{h:Heap}:∀(ns:List Int) (vs:List Value),WellAll P h vs (ns.map WData.int)->IntsAre vs ns:=by
 intro ns;induction ns with
 | nil =>
  intro vs w;rw[List.map_nil] at w;cases w;exact .nil
 | cons n ns ih =>
  intro vs w;rw[List.map_cons] at w;cases w with
  | cons a b =>
   cases a;exact .cons _ _ (ih _ b)
theorem Oq{l:OpenLaw}{n:Nat}(hn:l.most=some n){P:Params}{h:Heap}{args:List WData}{vals:List Value}(hpre:l.row.toRowW.claim.pre args=true)(hwl:WellAll P h vals args):
  ∃a vs ns,vals=[Value.ref a]/\args=[WData.list (ns.map WData.int)]/\h.get? a=some { cls:=.type "list",data:=.seq vs.toArray }/\IntsAre vs ns/\ns.length<=n:=by
 have hsh:WShape.hasAll [] args [.list .int]=true:=(pre_splitW hpre).1;have hc:l.pre.holds [] { args:=args }=true:=(pre_splitW hpre).2;obtain⟨d,r,rfl,h1,h2⟩:=hasAllW_cons hsh;obtain rfl:=hasAllW_nil h2;obtain⟨xs,rfl,h3⟩:=hasW_list h1;obtain⟨ns,rfl⟩:=items_int h3;have hlen:ns.length<=n:=by
  unfold OpenLaw.pre at hc;have h4:(WTm.not (.lt (.lit (.int (n:Int))) (.len (.arg 0)))).holds [] { args:=[.list (ns.map .int)] }=true:=by
   have h4:=(holds_andW hc).1;rw[hn] at h4;exact h4
  have h5:=condW_of h4 (w_not (w_lt w_lit (w_len_list (w_arg rfl))));rw[List.length_map] at h5;refine Nat.le_of_not_lt fun q=>?_;have q':(n:Int)<((ns.length:Nat):Int):=by lia
  first
   | (rw[decide_eq_true q'] at h5; exact absurd h5 (by decide))
   | (simp at h5; lia)
 cases hwl with
 | cons w1 w2 =>
  cases w2;cases w1 with
  | list ho hall=>exact⟨_,_,ns,rfl,rfl,ho,Hx ns _ hall,hlen⟩
theorem Od(l:OpenLaw)(args:List WData):l.row.toRowW.claim.post args (.bool true) args=true:=
 postW_of (r:=l.row.toRowW) (X:=(true==true))
  (show WShape.has [] (.bool true) .bool=true by first|rfl|decide|simp[WShape.has,WShape.arms,WShape.armsAll])
  (show(WTm.eq .res (.lit (.bool true))).value [] { args:=args,res:=some (.bool true),after:=args }=some (.bool (true==true)) from w_eq_bool (w_res rfl) w_lit) rfl
theorem KJ{l:OpenLaw}{n:Nat}{q:Program}{loose:List Str}{XP:(Str->Option Value)->Heap->Prop}{YP:World->Heap->Prop}{d:DefRec}(hn:l.most=some n)(hdf:d.params.defaults=[])(call:∀(w:World) (s₀ s₁:Shared) (mg mb:Str->Option Value) (fa:Addr) (o:Obj) (pm cd doc:Value) (a:Addr) (vs:List Value) (ns:List Int),
   Ground q loose [] XP w s₀ mg mb s₁.heap->YP w s₁.heap ->
   s₁.heap.get? fa=some o->o.data=.func (docDef d.name d.params d.body d.scope pm cd doc)->s₁.heap.CodeRec cd d.name->mg d.name=some (.ref fa) ->
   s₁.heap.get? a=some { cls:=.type "list",data:=.seq vs.toArray }->IntsAre vs ns->ns.length<=n->s₁.gens = #[] ->
   codeAny (model l.prog w) callerA (.call (.ref fa) ⟨[.ref a],[]⟩) (fun r s'=>r=.ok (.ret (.bool true))/\OldK s₁.heap s'.heap/\s'.os=s₁.os/\AllBare s'.gens) s₁):
  WalkO q loose XP YP l.row.toRowW d [] (fun f vs=>PySem.call f vs):=by
 intro w s₀ s₁ mg mb G Y fa o pm cd doc dV kV ho hd hcd hD hmg hg args vals as hpre hlay hrd hwl hlo;obtain rfl:dV=.none:=Dflts.none hD hdf;obtain rfl:kV=.none:=Dflts.noKw hD;obtain⟨a,vs,ns,rfl,rfl,hobj,hints,hlen⟩:=Oq hn hpre hwl;refine enter_call (codeAny_mono (call w s₀ s₁ mg mb fa o pm cd doc a vs ns G Y ho (fd_plain hd) hcd hmg hobj hints hlen hg) fun r s' hq=>?_);obtain⟨rfl,h2,h3,h4⟩:=hq;exact⟨.inl ⟨.bool true,.bool true,[],rfl,fun _=>rfl,.bool true,Od l _,fun _=>⟨List.Pairwise.nil,fun _ hm=>(nomatch hm)⟩⟩,h2,h3,h4⟩
section
variable{prog:Program}{w:World}{A:Around}{E:Value->Shared->Prop}{s:Shared}{K:Frag}
end
end Att
namespace L2
open PySem PySem.Spec PyProof.Rows
theorem Oz{vs:List Value}{ns:List Int}(h:IntsAre vs ns):Vals (ns.map V.int) vs:=by
 induction h with
 | nil=>exact .nil
 | cons n t h ih=>exact .cons ⟨t,rfl⟩ ih
noncomputable def QP(H:Hp):Prop:=∀b,H b=none\/(∃o xs,H b=some (.frz o (.lst xs)))\/∃ps,H b=some (.tbl ps)
noncomputable def GO(K:Frag)(b:Addr):Prop:=∃q:Str,∃n:Str,(n,q)∈Kc/\∃c,PySem.W.tabIn K n=some (c,b)
noncomputable def Qa(K:Frag)(b:Addr):Str:=by classical exact if h:GO K b then Classical.choose h else Kb
noncomputable def OA(K:Frag):Prop:=∀(n q n' q':Str) (c c' b:Addr),(n,q)∈Kc->(n',q')∈Kc->PySem.W.tabIn K n=some (c,b)->PySem.W.tabIn K n'=some (c',b)->q=q'
theorem V1{K:Frag}(U:OA K){n q:Str}{c b:Addr}(hm:(n,q)∈Kc)(e:PySem.W.tabIn K n=some (c,b)):Qa K b=q:=by
 have h:GO K b:=⟨q,n,hm,c,e⟩;unfold Qa;rw[dif_pos h];obtain⟨n',hm',c',e'⟩:=Classical.choose_spec h;exact U _ _ _ _ _ _ _ hm' hm e' e
noncomputable def Sn(K:Frag)(H:Hp):Hp:=fun b=>by classical exact if GO K b then some (.tbl #[.str (Qa K b) 0]) else H b
theorem So{K:Frag}{H:Hp}{b:Addr}(h:GO K b):Sn K H b=some (.tbl #[.str (Qa K b) 0]):=if_pos h
theorem LD{K:Frag}{H:Hp}{b:Addr}(h:¬GO K b):Sn K H b=H b:=if_neg h
theorem Po{P:Program}{w:World}{K:Frag}{mg mb:Str->Option Value}{CX:CXT}{k:Nat}{fa a:Addr}{fd:FuncData}{x:Str}{sp:Sp}{s₁:Shared}{vs:List Value}{ns:List Int}(KX:K.In s₁.heap)(hns:s₁.heap.Ns mainGlobals mg)(hb:s₁.heap.Ns builtinsNs mb)(hbb:∀x:Str,x ≠ "__name__" -> mb x=bootBuiltins x)(hlim:s₁.heap.NoLimit)(hg:s₁.gens = #[])(ha:s₁.heap.get? a=some { cls:=.type "list",data:=.seq vs.toArray })(hi:IntsAre vs ns)(hl:ns.length<=sizeLine)(hr:Room k callerA)(F:∀base:Heap,K.In base->base.Ns mainGlobals mg->FnOk P w K mg base CX k fa fd [x] sp)(hbind:∀(s:Shared) (u:Value),BindsTo s fd ⟨[u],[]⟩ [(x,u)])(hsp:∀H:Hp,QP H->SqL K H a (ns.map V.int)->sp [.ref a] H (fun v _=>v=.bl true) fun _ _ _=>False)(hCX:∀H e s',CX [] H s₁ (fun _ _ _=>False) e s'->False)(hT:∀(n q:Str),(n,q)∈Kc->∀c b,PySem.W.tabIn K n=some (c,b)->PySem.W.CodeHd s₁.heap c b/\s₁.heap.get? b=some { cls:=.none,data:=.fields #[] }/\K.lookup b=none)(hU:OA K)(hbm:∃bm ob,mg "__builtins__" = some (.ref bm)/\bm≠builtinsNs/\s₁.heap.get? bm=some ob/\ob.cls=.type "module" /\ ob.dict=some builtinsNs/\ob.data=.plain):
  codeAny (model P w) callerA (.call (.ref fa) ⟨[.ref a],[]⟩) (fun r s'=>r=.ok (.ret (.bool true))/\OldK s₁.heap s'.heap/\s'.os=s₁.os/\AllBare s'.gens) s₁:=by
 have rv:=Oz hi;have lenV:=hi.length;have naT:¬GO K a:=fun⟨q,n,hm,c,e⟩=>by
  obtain⟨_,e2,_⟩:=hT n q hm c a e;rw[ha] at e2; cases e2
 have core:∀H₁:Hp,(∀b,H₁ b=none\/∃o xs,H₁ b=some (.frz o (.lst xs)))->SqL K (Sn K H₁) a (ns.map V.int)->HOk P w H₁ s₁.heap->(∀b,H₁ b≠none->b=a)->(H₁ a≠none->K.lookup a=none) ->
   codeAny (model P w) callerA (.call (.ref fa) ⟨[.ref a],[]⟩) (fun r s'=>r=.ok (.ret (.bool true))/\OldK s₁.heap s'.heap/\s'.os=s₁.os/\AllBare s'.gens) s₁:=by
  intro H₁ hO₁ hS hok₁ hA₁ hK₁;generalize hH:Sn K H₁=H at hS;have hin:∀{b},GO K b->H b=some (.tbl #[.str (Qa K b) 0]):=fun h=>by rw[<- hH]; exact So h
  have hout:∀{b},¬GO K b->H b=H₁ b:=fun h=>by rw[<- hH]; exact LD h
  have hO:QP H:=fun b=>by
   by_cases q:GO K b
   .exact .inr (.inr ⟨_,hin q⟩)
   .rw[hout q]
    exact(hO₁ b).imp id .inl
  have hok:HOk P w H s₁.heap:=fun b u e=>by
   by_cases q:GO K b
   .rw[hin q] at e; cases e
    obtain⟨q1,n,hm,c,ec⟩:=q;exact⟨#[],(hT n q1 hm c b ec).2.1,trivial,fun pos c h=>by cases h⟩
   .rw[hout q] at e
    rcases hO₁ b with z|⟨o,xs,z⟩
    .rw[z] at e; cases e
    .rw[z] at e; cases e
     obtain⟨e1,e2⟩:=hok₁ b _ z;exact⟨e1,e2⟩
  have hA:∀b,H b≠none->b=a\/GO K b:=fun b z=>by
   by_cases q:GO K b
   .exact .inr q
   .rw[hout q] at z; exact .inl (hA₁ b z)
  have base_of:∀{b:Addr} {o:Obj},s₁.heap.get? b=some o->H b=none->(Jc s₁.heap H).get? b=some o:=fun e n=>OU e n;have noA:∀{b:Addr} {o:Obj} {es:Array DictEntry} {ep:Nat},s₁.heap.get? b=some o->o.data=.dict es ep->H b=none:=fun {b o es ep} e d=>by
   cases q:H b with
   | none=>rfl
   | some u =>
    rcases hA b (by rw[q]; simp) with e'|⟨q1,n,hm,c,ec⟩
    .subst e'
     rw[ha] at e; cases e;have d':Data.seq vs.toArray _=Data.dict es ep:=d;cases d'
    .rw[(hT n q1 hm c b ec).2.1] at e; cases e
     have d':Data.fields _=Data.dict es ep:=d;cases d'
  have nsK:∀{b:Addr} {m:Str->Option Value},s₁.heap.Ns b m->(Jc s₁.heap H).Ns b m:=fun {b m} ⟨o,es,ep,e,d,r⟩=>⟨o,es,ep,base_of e (noA e d),d,r⟩;have hKb:K.In (Jc s₁.heap H):=fun b o e=>base_of (KX b o e) (by
   cases q:H b with
   | none=>rfl
   | some u =>
    rcases hA b (by rw[q]; simp) with e'|⟨q1,n,hm,c,ec⟩
    .subst e'
     rw[hout naT] at q;rw[hK₁ (by rw[q]; simp)] at e; cases e
    .rw[(hT n q1 hm c b ec).2.2] at e; cases e)
  have bmK:∃bm ob,mg "__builtins__" = some (.ref bm)/\bm≠builtinsNs/\(Jc s₁.heap H).get? bm=some ob/\ob.cls=.type "module" /\ ob.dict=some builtinsNs/\ob.data=.plain:=by
   obtain⟨bm,ob,m1,m2,m3,m4,m5,m6⟩:=hbm;refine⟨bm,ob,m1,m2,base_of m3 ?_,m4,m5,m6⟩;cases q:H bm with
   | none=>rfl
   | some u =>
    rcases hA bm (by rw[q]; simp) with e'|⟨q1,n,hm,c,ec⟩
    .subst e'
     rw[ha] at m3; cases m3;cases m6
    .rw[(hT n q1 hm c bm ec).2.1] at m3; cases m3
     cases m6
  have hM:Mod K mg (Jc s₁.heap H):=⟨hKb,nsK hns,⟨mb,nsK hb,hbb⟩,let⟨mc,h1,h2⟩:=hlim; ⟨mc,nsK h1,h2⟩,bmK⟩;have e0:Env0 P w K mg (Jc s₁.heap H) callerA [] s₁ H:=⟨rfl,hM,fun b o e=>Rx e,Nat.le_of_eq (NO _ _),trivial,fun b hb=>absurd (show b∈([]:List Addr) from hb) (by simp),hok,.of_eq hg,fun n q hm c b e=>⟨_,hin ⟨q,n,hm,c,e⟩,by rw[V1 hU hm e]; rfl⟩⟩;refine codeAny_mono ((F _ hKb (nsK hns)).run callerA [] s₁ H ⟨[.ref a],[]⟩ [.ref a] [.ref a] _ _ hr e0 (hbind s₁ (.ref a)) (.cons rfl .nil) (hsp H hO hS)) fun r s' h=>?_;cases r with
  | error e=>exact(hCX H e s' h).elim
  | ok fl =>
   cases fl with
   | next=>exact False.elim h
   | brk=>exact False.elim h
   | cont=>exact False.elim h
   | ret u =>
    obtain⟨v,H',os,bare,un,hok',r',q⟩:=h;have q':v=.bl true:=q;subst q';obtain rfl:u=Value.bool true:=r';have fin:∀b o,s₁.heap.get? b=some o->s'.heap.get? b=some o\/∃qs,GO K b/\s'.heap.get? b=some { cls:=.none,data:=.fields qs }:=fun b o e=>by
     cases q:H b with
     | none=>exact .inl (un.keep b o e q (by intro z; exact absurd (show b∈([]:List Addr) from z) (by simp)) (by simp))
     | some u =>
      by_cases tq:GO K b
      .rw[hin tq] at q; cases q
       obtain⟨more,z2⟩:=un.tbls b _ (hin tq);obtain⟨qs,e2,_⟩:=hok' b _ z2;exact .inr ⟨qs,tq,e2⟩
      .rcases hO₁ b with z|⟨ob,xs,z⟩
       .rw[hout tq,z] at q; cases q
       .have z2:=un.frzs b ob _ (by rw[hout tq]; exact z)
        obtain⟨e1,_⟩:=hok₁ b _ z;obtain⟨e2,_⟩:=hok' b _ z2;rw[e] at e1; cases e1;exact .inl e2
    refine⟨rfl,⟨fun b o e=>?_,fun b o e=>?_⟩,os,bare⟩
    .rcases fin b o e with z|⟨qs,⟨q1,n,hm,c,ec⟩,z⟩
     .exact .inl z
     .obtain⟨h1,h2,_⟩:=hT n q1 hm c b ec
      rw[e] at h2; cases h2;refine .inr (.inl ⟨(h1.tab e).isCodeTable,rfl,#[],qs,rfl,?_⟩);rw[z]; simp
    .rcases fin b o e with z|⟨qs,_,z⟩
     .exact⟨_,z⟩
     .exact⟨_,z⟩
 cases hk:K.lookup a with
 | some o =>
  -- the script is one of the module's own objects
  have e:=KX a o hk;rw[ha] at e;cases e;refine core (fun _=>none) (fun _=>.inl rfl) (.inr ⟨_,vs.toArray,_,hk,rfl,rfl,rfl,by rw[List.size_toArray,lenV]; exact hl,by simpa using rv⟩) (fun b u z=>by have z':(none:Option HO)=some u:=z; cases z') (fun b z=>absurd rfl z) fun z=>absurd rfl z
 | none =>
  refine core (fun b=>if b=a then some (.frz { cls:=.type "list",data:=.seq vs.toArray } (.lst (ns.map V.int))) else none) (fun b=>?_) (.inl (.inr ⟨{ cls:=.type "list",data:=.seq vs.toArray },by rw[LD naT]; exact if_pos rfl⟩)) (fun b u z=>?_) (fun b z=>?_) fun _=>hk
  .by_cases hb:b=a
   .exact .inr ⟨_,_,if_pos hb⟩
   .exact .inl (if_neg hb)
  .by_cases hb:b=a
   .have z':=(if_pos hb).symm.trans z
    cases z';subst hb;exact⟨ha,by rw[List.length_map]; exact hl,vs,_,rv,ha⟩
   .have z':=(if_neg hb).symm.trans z
    cases z'
  .by_cases hb:b=a
   .exact hb
   .exact absurd (if_neg hb) z
end L2
namespace L2
open PySem PySem.Spec PyProof.Rows
noncomputable abbrev KOf{K:Frag}{h:Heap}(_:K.In h):Frag:=K
theorem Su{l:PySem.W.OpenLaw}{n k:Nat}{q:Program}{loose:List Str}{XP:(Str->Option Value)->Heap->Prop}{YP:World->Heap->Prop}{d:DefRec}{K:Params->Frag}{CX:World->CXT}{sp:World->Sp}{x:Str}(hn:l.most=some n)(hn2:n<=sizeLine)(hdf:d.params.defaults=[])(hr:Room k callerA)(hY:∀(w:World) (h:Heap),YP w h->(K w.params).In h)(F:∀(w:World) (mg:Str->Option Value) (fa:Addr) (h:Heap),(K w.params).In h->h.Ns mainGlobals mg->mg d.name=some (.ref fa) ->
   ∃fd:FuncData,(∀(s:Shared) (u:Value),BindsTo s fd ⟨[u],[]⟩ [(x,u)]) /\
    ∀base:Heap,(K w.params).In base->base.Ns mainGlobals mg->FnOk l.prog w (K w.params) mg base (CX w) k fa fd [x] (sp w))(hsp:∀(w:World) (H:Hp) (a:Addr) (ns:List Int),ns.length<=n->QP H->SqL (K w.params) H a (ns.map V.int)->sp w [.ref a] H (fun v _=>v=.bl true) fun _ _ _=>False)(hCX:∀(w:World) (H:Hp) (s:Shared) (e:Value) (s':Shared),CX w [] H s (fun _ _ _=>False) e s'->False)(hT:∀(w:World) (n qn:Str),(n,qn)∈Kc->∀(c b:Addr),PySem.W.tabIn (K w.params) n=some (c,b)->(∃d',(recsOf q).find? (fun e=>e.name==n)=some d')/\(K w.params).lookup b=none)(hU:∀w:World,OA (K w.params)):
  PySem.W.WalkO q loose XP YP l.row.toRowW d [] (fun f vs=>PySem.call f vs):=by
 refine Att.KJ hn hdf fun w s₀ s₁ mg mb fa o pm cd doc a vs ns G Y ho hd hcd hmg hobj hints hlen hg=>?_;have KX:=hY w _ Y;obtain⟨fd,hb,hF⟩:=F w mg fa _ KX G.T.g hmg;exact Po KX G.T.g G.T.b G.T.builtins G.T.nolimit hg hobj hints (Nat.le_trans hlen hn2) hr hF hb (fun H hO hS=>hsp w H a ns hlen hO hS) (fun H e s'=>hCX w H s₁ e s') (fun n qn hm c b e=>by
  obtain⟨⟨d',hd'⟩,hk⟩:=hT w n qn hm c b e;obtain⟨z1,z2⟩:=PySem.W.tab_of G.T KX hd' e;exact⟨z1,z2,hk⟩) (hU w) G.T.bmain
end L2

namespace L2
open PySem PySem.Spec PyProof.Rows
noncomputable def D3(s:Stmt):Arguments:=match s with
 | .FunctionDef _ a _ _ _ _ _ _ _ _=>a
 | _=>{ posonlyargs:=[],args:=[],vararg:=none,kwonlyargs:=[],kw_defaults:=[],kwarg:=none,defaults:=[] }
noncomputable def BJ(s:Stmt):List Stmt:=match s with
 | .FunctionDef _ _ b _ _ _ _ _ _ _=>b
 | _=>[]
noncomputable def Ar(s:Stmt):Scope:=match s with
 | .FunctionDef _ _ _ _ _ _ sc _ _ _=>sc
 | _=>{ kind:=.function,names:=[],isGenerator:=false,isCoroutine:=false }
noncomputable abbrev CX0:CXT:=fun _ _ _ _ _ _=>False
noncomputable abbrev E0:XK:=fun _ _ _=>False
theorem AJ{X:Cx}:Passes CX0 X E0:=fun _ _ _ _ _ _ _ h=>h.elim
structure Fun (K:Frag) (x qual:Str) (st:Stmt) (f:Addr) (fd:FuncData):Prop where
 ex:∃(oc:Value) (od:Option Addr) (kV doc pm:Value) (an:Option Addr) (cdv ct:Value) (osl:Array (Option Value)),
  fd=PySem.W.fnOf x qual (D3 st) (BJ st) (Ar st) .none kV doc pm an cdv ct/\K.lookup f=some ⟨oc,od,.func fd,osl⟩/\PySem.W.codeIn K cdv qual=true
 kp:PySem.W.keepIn K (.ref f)=true
section
variable{P:Program}{w:World}{K:Frag}{mg:Str->Option Value}{base:Heap}
theorem Fun.ok{x qual:Str}{st:Stmt}{f:Addr}{fd:FuncData}{N ps:List Str}{k:Nat}{sp:Sp}(F:Fun K x qual st f fd)(S:FnScope N ps (Ar st))(len:∀vs H Q E,sp vs H Q E->vs.length=ps.length)(hbody:∀(cdv:Value) (A:Around) (outer:List Env) (s:Shared) (H:Hp) (vs:List V) (Q:VK) (E:XK),Room k (A.deeper (envOfC qual (Ar st) s.heap.objs.size f cdv))->sp vs H Q E ->
   ∃t,PSs (AS CX0 P w K mg base N qual (Ar st) f cdv A outer s H E).nox (BJ st) t/\t { nx:=fun _ H'=>Q .non H',rt:=Q } (start N vs) H):FnOk P w K mg base CX0 (k+1) f fd ps sp:=by
 obtain⟨oc,od,kV,doc,pm,an,cdv,ct,osl,rfl,lk,hcd⟩:=F.ex;refine OQ lk hcd S len fun A outer s H vs Q E hr hsp=>?_;obtain⟨t,h,q⟩:=hbody cdv A outer s H vs Q E hr hsp;exact⟨t,h.nox,q⟩
theorem Fun.binds{x qual:Str}{st:Stmt}{f:Addr}{fd:FuncData}{ps:List Str}(F:Fun K x qual st f fd)(h:∀(kV doc pm:Value) (an:Option Addr) (cdv ct:Value) (us:List Value),us.length=ps.length->bindArgs (PySem.W.fnOf x qual (D3 st) (BJ st) (Ar st) .none kV doc pm an cdv ct) ⟨us,[]⟩=pure (ps.zip us)):Binds K fd ps []:=by
 obtain⟨oc,od,kV,doc,pm,an,cdv,ct,osl,rfl,lk,hcd⟩:=F.ex;exact .all (h kV doc pm an cdv ct)
theorem Tc{x qual:Str}{st:Stmt}{f:Addr}{oc:Value}{od an:Option Addr}{osl:Array (Option Value)}{kV doc pm cdv ct:Value}(l:K.lookup f=some ⟨oc,od,.func (PySem.W.fnOf x qual (D3 st) (BJ st) (Ar st) .none kV doc pm an cdv ct),osl⟩)(c:PySem.W.codeIn K cdv qual=true)(k:PySem.W.keepIn K (.ref f)=true):Fun K x qual st f (PySem.W.fnOf x qual (D3 st) (BJ st) (Ar st) .none kV doc pm an cdv ct):=⟨⟨oc,od,kV,doc,pm,an,cdv,ct,osl,rfl,l,c⟩,k⟩
end
theorem Sy{A:Around}{k:Nat}(hr:Room k A):A.units+10<cLine:=Nat.lt_of_le_of_lt (Nat.add_le_add_left (by decide:10<=64) _) hr.units
section
variable{X:Cx}
end
noncomputable def Ew(H H':Hp):Prop:=∀b o,H b=some o->H' b=some o
end L2
end
section
namespace L2
open PySem PySem.Spec PyProof.Rows
section
variable{M:Model}{A:Around}{E:Value->Shared->Prop}{s:Shared}
noncomputable def AW(h:Heap)(a:Addr):Prop:=∃(o:Obj) (vs:Array Value),h.get? a=some o/\o.data=.fields vs/\vs[2]? = some .none
theorem AW.keeps{h h':Heap}{a:Addr}(x:AW h a)(k:∀b o,h.get? b=some o->h'.get? b=some o):AW h' a:=let⟨o,vs,e,r⟩:=x; ⟨o,vs,k _ _ e,r⟩
theorem AW.lt{h:Heap}{a:Addr}(x:AW h a):a<h.objs.size:=let⟨_,_,e,_⟩:=x; Heap.lt_size e
theorem Jv{e:Addr}{h:Heap}{oe:Obj}{vs:Array Value}{x:Value}(he:h.get? e=some oe)(hd:oe.data=.fields vs)(h2:vs[2]? = some .none):AW (h.update e (Obj.mapFields (·.setIfInBounds 1 x))) e:=
 ⟨_,_,Heap.get?_update_self _ he (Obj.isFreed_of_fields (Obj.data_mapFields hd _)),Obj.data_mapFields hd _,by rw[Array.getElem?_setIfInBounds_ne (by decide)]; exact h2⟩
theorem AW.other{e T:Addr}{h:Heap}{f:Obj->Obj}(p:AW h e)(ne:T≠e):AW (h.update T f) e:=by
 obtain⟨o,vs,h1,r⟩:=p;exact⟨o,vs,(Heap.get?_update_other _ _ ne).trans h1,r⟩
theorem FY{base:Heap}{l:List Env}{e:Addr}{cls a0 fl:Value}{Q:Unit->Shared->Prop}(f1:base.StaysIn s.heap)(f2:base.get? e=none)(f3:s.heap.FunFrames base l)(f4:s.heap.TracedAtW base e cls a0 fl)(hp:AW s.heap e)(hQ:∀h',Heap.FlyingW base l e cls a0 h'->s.heap.UpToSlots h'->AW h' e->Q () { s with heap:=h' }):wpAny M A (setFlight (.ref e) none) Q E s:=by
 obtain⟨oe,vs,T,oT,ts,he,hc,hd,h1,hnT,hTe,hT,hdT,h3⟩:=f4;have hs3:3<ts.size:=(Array.getElem?_eq_some_iff.mp h3).1;have nf:∀b o,s.heap.get? b=some o->(∀ws,o.data≠.fields ws)->b≠T:=fun b o q n z=>by
  subst z; rw[hT] at q; cases q; exact n _ hdT
 unfold setFlight;refine wpAny_bind (wpAny_field he hd h1 ?_);rw[if_pos (show(Value.ref T != Value.none)=true from by simp)];refine wpAny_setField hT hdT hs3 (hQ _ ⟨fun b o q=>?_,f2,f3.of_keeps fun b o q n=>⟨o,(Heap.get?_update_other _ _ (nf b o q n).symm).trans q,rfl⟩,oe,vs,T,_,_,(Heap.get?_update_other _ _ hTe).trans he,hc,hd,h1,hnT,hTe,
  Heap.get?_update_self _ hT (Obj.isFreed_of_fields (Obj.data_mapFields hdT _)),Obj.data_mapFields hdT _,by simp[hs3]⟩ (fun b o q n=>⟨o.slots,(Heap.get?_update_other _ _ (nf b o q n).symm).trans q⟩) (hp.other hTe))
 refine(Heap.get?_update_other _ _ fun z=>?_).trans (f1 b o q);subst z; rw[hnT] at q; cases q
theorem K7{base:Heap}{l:List Env}{e:Addr}{cls a0:Value}{Q:Unit->Shared->Prop}(hh:Heap.FlyingW base l e cls a0 s.heap)(hp:AW s.heap e)(hQ:∀h',Heap.FlyingW base l e cls a0 h'->s.heap.UpToSlots h'->AW h' e->Q () { s with heap:=h' }):wpAny M A (setFlight (.ref e) none) Q E s:=
 FY hh.1 hh.2.1 hh.2.2.1 hh.2.2.2.at hp hQ
theorem Hn{base:Heap}{env:Env}{outer:List Env}{L e:Addr}{oe:Obj}{vs:Array Value}{head a0:Value}{hadNext:Bool}{Q:Unit->Shared->Prop}(hfr:A.frames=some (env::outer))(f3:s.heap.FunFrames base (env::outer))(hf:env.frame=some L)(he:s.heap.get? e=some oe)(f1:base.StaysIn s.heap)(f2:base.get? e=none)(hd:oe.data=.fields vs)(hsz:1<vs.size)(h0:vs[0]? = some a0)(h2:vs[2]? = some .none)(hQ:∀h',Heap.FlyingW base (env::outer) e oe.cls a0 h'->s.heap.UpToSlots h'->AW h' e->Q () { s with heap:=h' }):
  wpAny M A (do let a <- frameOf env; let pl <- entryPlaceOf L hadNext; let b <- EntryCells.newEntry head a .none (rawInt L) .none pl; setField (.ref e) 1 b) (fun _ s'=>wpAny M A (setFlight (.ref e) none) Q E s') E s:=by
 have ne:e∉(env::outer).filterMap (·.frame):=fun z=>by
  obtain⟨_,o,q,n⟩:=f3.mem z;rw[he] at q; cases q; exact n _ hd
 refine wpAny_bind (wpAny_frameOf_fun hfr f3 hf fun h₁ so=>wpAny_bind (wpAny_entryPlaceOf fun pl hpl=>?_));unfold EntryCells.newEntry newFields;refine wpAny_bind (wpAny_newObj_type ?_ (hpl.sizeOk5 _ _ _ _ _));have e1:h₁.get? e=some oe:=(so.2.1 e ne).trans he;have b1:base.StaysIn h₁:=fun b o q=>(so.2.1 b fun z=>by rw[(f3.mem z).1] at q; cases q).trans (f1 b o q);have tn:h₁.objs.size≠e:=Nat.ne_of_gt (Heap.lt_size e1);generalize hob:({ cls:=.type "traceback",dict:=none,data:=.fields ([head,.ref L,.none,rawInt L,.none]++(if pl.isEmpty then List.replicate 6 Value.none else pl)).toArray }:Obj)=ob;have pT:(h₁.push ob).get? h₁.objs.size=some ob:=Heap.get?_push_size h₁ (by subst hob; rfl);have k1:∀b o,b≠e->h₁.get? b=some o->((h₁.push ob).update e (Obj.mapFields (·.setIfInBounds 1 (.ref h₁.objs.size)))).get? b=some o:=fun b o n q=>(Heap.get?_update_other _ _ (Ne.symm n)).trans (Heap.get?_push_of_some ob q);have e2:=Heap.get?_push_of_some ob e1;have nf:∀b o,s.heap.get? b=some o->(∀ws,o.data≠.fields ws)->b≠e:=fun b o q n z=>by
  subst z; rw[he] at q; cases q; exact n _ hd
 have up:s.heap.UpToSlots ((h₁.push ob).update e (Obj.mapFields (·.setIfInBounds 1 (.ref h₁.objs.size)))):=fun b o q n=>by
  obtain⟨sl,w⟩:=so.2.2 b o q;exact⟨sl,k1 b _ (nf b o q n) w⟩
 refine wpAny_setField e2 hd hsz (FY (fl:=rawInt L) (base:=base) (l:=env::outer) (cls:=oe.cls) (a0:=a0) (fun b o q=>k1 b o (fun z=>by subst z; rw[f2] at q; cases q) (b1 b o q)) f2 (f3.of_keeps fun b o q n=>?_) ?_ (Jv e2 hd h2) fun h' F u p=>hQ h' F (up.trans u) p)
 .obtain⟨sl,w⟩:=so.2.2 b o q
  exact⟨_,k1 b _ (nf b o q n) w,rfl⟩
 .refine⟨_,_,h₁.objs.size,ob,_,Heap.get?_update_self _ e2 (Obj.isFreed_of_fields (Obj.data_mapFields hd _)),⟨Obj.cls_mapFields _ _,by rw[Array.getElem?_setIfInBounds_ne (by decide)]; exact h0⟩,Obj.data_mapFields hd _,by simp[hsz],b1.fresh,tn,(Heap.get?_update_other _ _ (Ne.symm tn)).trans pT,by subst hob; rfl,?_⟩
  simp
theorem LQ{base:Heap}{env:Env}{outer:List Env}{L e:Addr}{oe:Obj}{vs:Array Value}{head a0:Value}{hadNext:Bool}{Q:Unit->Shared->Prop}(hfr:A.frames=some (env::outer))(f3:s.heap.FunFrames base (env::outer))(hf:env.frame=some L)(he:s.heap.get? e=some oe)(f1:base.StaysIn s.heap)(f2:base.get? e=none)(hd:oe.data=.fields vs)(hsz:1<vs.size)(h0:vs[0]? = some a0)(h2:vs[2]? = some .none)(hQ:∀h',Heap.HeldW base (env::outer) e oe.cls a0 L h'->s.heap.UpToSlots h'->AW h' e->Q () { s with heap:=h' }):
  wpAny M A (do let a <- frameOf env; let pl <- entryPlaceOf L hadNext; let b <- EntryCells.newEntry head a .none (rawInt L) .none pl; setField (.ref e) 1 b) Q E s:=by
 have ne:e∉(env::outer).filterMap (·.frame):=fun z=>by
  obtain⟨_,o,q,n⟩:=f3.mem z;rw[he] at q; cases q; exact n _ hd
 refine wpAny_bind (wpAny_frameOf_fun hfr f3 hf fun h₁ so=>wpAny_bind (wpAny_entryPlaceOf fun pl hpl=>?_));unfold EntryCells.newEntry newFields;refine wpAny_bind (wpAny_newObj_type ?_ (hpl.sizeOk5 _ _ _ _ _));have e1:h₁.get? e=some oe:=(so.2.1 e ne).trans he;have b1:base.StaysIn h₁:=fun b o q=>(so.2.1 b fun z=>by rw[(f3.mem z).1] at q; cases q).trans (f1 b o q);have tn:h₁.objs.size≠e:=Nat.ne_of_gt (Heap.lt_size e1);generalize hob:({ cls:=.type "traceback",dict:=none,data:=.fields ([head,.ref L,.none,rawInt L,.none]++(if pl.isEmpty then List.replicate 6 Value.none else pl)).toArray }:Obj)=ob;have pT:(h₁.push ob).get? h₁.objs.size=some ob:=Heap.get?_push_size h₁ (by subst hob; rfl);have k1:∀b o,b≠e->h₁.get? b=some o->((h₁.push ob).update e (Obj.mapFields (·.setIfInBounds 1 (.ref h₁.objs.size)))).get? b=some o:=fun b o n q=>(Heap.get?_update_other _ _ (Ne.symm n)).trans (Heap.get?_push_of_some ob q);have e2:=Heap.get?_push_of_some ob e1;have nf:∀b o,s.heap.get? b=some o->(∀ws,o.data≠.fields ws)->b≠e:=fun b o q n z=>by
  subst z; rw[he] at q; cases q; exact n _ hd
 have up:s.heap.UpToSlots ((h₁.push ob).update e (Obj.mapFields (·.setIfInBounds 1 (.ref h₁.objs.size)))):=fun b o q n=>by
  obtain⟨sl,w⟩:=so.2.2 b o q;exact⟨sl,k1 b _ (nf b o q n) w⟩
 refine wpAny_setField e2 hd hsz (hQ _ ⟨fun b o q=>k1 b o (fun z=>by subst z; rw[f2] at q; cases q) (b1 b o q),f2,f3.of_keeps fun b o q n=>?_,?_⟩ up (Jv e2 hd h2))
 .obtain⟨sl,w⟩:=so.2.2 b o q
  exact⟨_,k1 b _ (nf b o q n) w,rfl⟩
 .refine⟨_,_,h₁.objs.size,ob,_,Heap.get?_update_self _ e2 (Obj.isFreed_of_fields (Obj.data_mapFields hd _)),⟨Obj.cls_mapFields _ _,by rw[Array.getElem?_setIfInBounds_ne (by decide)]; exact h0⟩,Obj.data_mapFields hd _,by simp[hsz],b1.fresh,tn,(Heap.get?_update_other _ _ (Ne.symm tn)).trans pT,by subst hob; rfl,?_⟩
  simp
theorem AW.two{e:Addr}{h:Heap}{oe:Obj}{vs:Array Value}(p:AW h e)(he:h.get? e=some oe)(hd:oe.data=.fields vs):vs[2]? = some .none:=by
 obtain⟨o',vs',q1,q2,q3⟩:=p;rw[he] at q1; cases q1;rw[hd] at q2; cases q2;exact q3
theorem Ke{base:Heap}{env:Env}{outer:List Env}{L e:Addr}{cls a0:Value}{Q:Unit->Shared->Prop}(hfr:A.frames=some (env::outer))(hf:env.frame=some L)(hfl:Heap.FlyingW base (env::outer) e cls a0 s.heap)(hp:AW s.heap e)(hQ:∀h',Heap.FlyingW base outer e cls a0 h'->s.heap.UpToSlots h'->AW h' e->Q () { s with heap:=h' }):wpAny M A (leaving env (.ref e)) Q E s:=by
 obtain⟨f1,f2,f3,oe,vs,T,oT,ts,he,⟨rfl,h0⟩,hd,h1,hnT,hTe,hT,hdT,h3⟩:=hfl;have nf:∀b o,s.heap.get? b=some o->(∀ws,o.data≠.fields ws)->b≠T:=fun b o q n z=>by
  subst z; rw[hT] at q; cases q; exact n _ hdT
 have k1:∀b,b≠T->(s.heap.update T (Obj.mapFields (·.setIfInBounds 3 Value.none))).get? b=s.heap.get? b:=fun b n=>Heap.get?_update_other _ _ (Ne.symm n);unfold leaving noteFrame;simp only[hf];refine wpAny_bind (wpAny_bind (wpAny_field he hd h1 ?_));rw[if_pos (show(Value.ref T != Value.none)=true from by simp)];refine wpAny_bind (wpAny_field hT hdT h3 ?_);rw[if_neg (show ¬((Value.none==rawInt L)=true) from by simp[rawInt])];refine wpAny_bind (wpAny_setField hT hdT (Array.getElem?_eq_some_iff.mp h3).1 ?_);refine Hn hfr (f3.of_keeps fun b o q n=>⟨o,(k1 b (nf b o q n)).trans q,rfl⟩) hf ((k1 e (Ne.symm hTe)).trans he) (fun b o q=>(k1 b fun z=>by subst z; rw[hnT] at q; cases q).trans (f1 b o q)) f2 hd
  (Array.getElem?_eq_some_iff.mp h1).1 h0 (hp.two he hd) fun h' F u p=>?_
 obtain⟨g1,g2,⟨_,_,g3⟩,g4⟩:=F;exact hQ h' ⟨g1,g2,g3,g4⟩ (fun b o q n=>u b o ((k1 b (nf b o q n)).trans q) n) p
theorem K9{base:Heap}{env:Env}{outer:List Env}{L e:Addr}{cls a0:Value}{Q:Unit->Shared->Prop}(hfr:A.frames=some (env::outer))(hf:env.frame=some L)(hfl:Heap.FlyingW base (env::outer) e cls a0 s.heap)(hp:AW s.heap e)(hQ:∀h',Heap.HeldW base (env::outer) e cls a0 L h'->s.heap.UpToSlots h'->AW h' e->Q () { s with heap:=h' }):wpAny M A (noteFrame (.ref e) env) Q E s:=by
 obtain⟨f1,f2,f3,oe,vs,T,oT,ts,he,⟨rfl,h0⟩,hd,h1,hnT,hTe,hT,hdT,h3⟩:=hfl;have nf:∀b o,s.heap.get? b=some o->(∀ws,o.data≠.fields ws)->b≠T:=fun b o q n z=>by
  subst z; rw[hT] at q; cases q; exact n _ hdT
 have k1:∀b,b≠T->(s.heap.update T (Obj.mapFields (·.setIfInBounds 3 Value.none))).get? b=s.heap.get? b:=fun b n=>Heap.get?_update_other _ _ (Ne.symm n);unfold noteFrame;simp only[hf];refine wpAny_bind (wpAny_field he hd h1 ?_);rw[if_pos (show(Value.ref T != Value.none)=true from by simp)];refine wpAny_bind (wpAny_field hT hdT h3 ?_);rw[if_neg (show ¬((Value.none==rawInt L)=true) from by simp[rawInt])];refine wpAny_bind (wpAny_setField hT hdT (Array.getElem?_eq_some_iff.mp h3).1 ?_);refine LQ hfr (f3.of_keeps fun b o q n=>⟨o,(k1 b (nf b o q n)).trans q,rfl⟩) hf ((k1 e (Ne.symm hTe)).trans he) (fun b o q=>(k1 b fun z=>by subst z; rw[hnT] at q; cases q).trans (f1 b o q)) f2 hd
  (Array.getElem?_eq_some_iff.mp h1).1 h0 (hp.two he hd) fun h' F u p=>?_
 exact hQ h' F (fun b o q n=>u b o ((k1 b (nf b o q n)).trans q) n) p
theorem K8{base h:Heap}{env:Env}{outer:List Env}{L e:Addr}{cls:Value}{args:List Value}{Q:Unit->Shared->Prop}(hfr:A.frames=some (env::outer))(hf:env.frame=some L)(hkb:base.StaysIn h)(hl:h.FunFrames base (env::outer))(hx:Heap.MadeExcOf h s.heap e cls args)(hQ:∀h' t,Heap.FlyingW base outer e cls (.ref t) h'->s.heap.UpToSlots h'->AW h' e->Q () { s with heap:=h' }):wpAny M A (leaving env (.ref e)) Q E s:=by
 obtain⟨t,he,htn,ht⟩:=hx.there;have fr:base.get? e=none:=by
  cases q:base.get? e with
  | none=>rfl
  | some o=>have:=hkb e o q; rw[hx.new] at this; cases this
 unfold leaving noteFrame;simp only[hf];refine wpAny_bind (wpAny_bind (wpAny_field he rfl (x:=.none) rfl ?_));rw[if_neg (by decide)];refine Hn (a0:=.ref t) hfr (hl.of_keeps fun b o q _=>⟨o,hx.keeps b o q,rfl⟩) hf he (fun b o q=>hx.keeps b o (hkb b o q)) fr rfl (by simp) rfl rfl fun h' F u p=>?_;obtain⟨g1,g2,⟨_,_,g3⟩,g4⟩:=F;exact hQ h' t ⟨g1,g2,g3,g4⟩ u p
end
noncomputable def clo(cells:List (Str×Addr)):List (Str×NameKind)->List (Str×Addr)->List (Str×Addr)
 | [],cs=>cs
 | (n,k)::r,cs=>clo cells r (if (k==.free)=true then (n,(cells.lookup n).getD 0)::cs else cs)
theorem KS{env:Env}:∀(names:List (Str×NameKind)) (cs:List (Str×Addr)),(∀x∈names,(x.2==.free)=true->(env.cells.lookup x.1).isSome=true) ->
  (forIn names cs fun(x:Str×NameKind) (r:List (Str×Addr))=>(if (x.2==NameKind.free)=true then do let c <- cellOf env x.1; pure (ForInStep.yield ((x.1,c)::r)) else pure (ForInStep.yield r):Sem (ForInStep (List (Str×Addr)))))=pure (clo env.cells names cs)
 | [],cs,_=>rfl
 | (n,k)::r,cs,h=>by
  rw[List.forIn_cons];have hr:=fun cs'=>KS (env:=env) r cs' fun x hx=>h x (List.mem_cons_of_mem _ hx);cases hk:(k==NameKind.free) with
  | true =>
   have hc:=h (n,k) List.mem_cons_self hk;obtain⟨c,hc⟩:=Option.isSome_iff_exists.mp hc;have e:cellOf env n=pure c:=by unfold cellOf; rw[hc]
   dsimp only at hc;simp only[hk,if_true,e,pure_bind];rw[hr];simp only[clo,hk,if_true,hc,Option.getD_some]
  | false =>
   simp only[hk,Bool.false_eq_true,if_false,pure_bind];rw[hr];simp only[clo,hk,Bool.false_eq_true,if_false]
theorem LP{env:Env}{scope:Scope}(h:∀x∈scope.names,(x.2==.free)=true->(env.cells.lookup x.1).isSome=true):closureFor scope env=pure (clo env.cells scope.names []):=by
 rw[<- KS _ _ h];unfold closureFor;simp
theorem M8{cells:List (Str×Addr)}{x:Str}{c:Addr}:∀{names:List (Str×NameKind)} {cs:List (Str×Addr)},(∀y∈names,(y.2==.free)=true->(cells.lookup y.1).isSome=true) ->
  (clo cells names cs).lookup x=some c->cs.lookup x=some c\/cells.lookup x=some c
 | [],_,_,h=>.inl h
 | (n,k)::r,cs,hn,h=>by
  simp only[clo] at h;have hr:=M8 (names:=r) (fun y hy=>hn y (List.mem_cons_of_mem _ hy)) h;rcases hr with hr|hr
  .cases hk:(k==NameKind.free) with
   | true =>
    simp only[hk,if_true] at hr;rw[List.lookup_cons] at hr;cases hx:(x==n) with
    | true =>
     simp only[hx] at hr;obtain⟨c',hc'⟩:=Option.isSome_iff_exists.mp (hn (n,k) List.mem_cons_self hk);have hx':x=n:=by simpa using hx
     rw[hc'] at hr;refine .inr ?_;rw[hx'];exact hc'.trans hr
    | false =>
     simp only[hx] at hr;exact .inl hr
   | false =>
    simp only[hk,Bool.false_eq_true,if_false] at hr;exact .inl hr
  .exact .inr hr
theorem KQ{cells:List (Str×Addr)}{x:Str}:∀{names:List (Str×NameKind)} {cs:List (Str×Addr)},(∃c,cs.lookup x=some c)->∃c,(clo cells names cs).lookup x=some c
 | [],_,h=>h
 | (n,k)::r,cs,h=>by
  simp only[clo];refine KQ (names:=r) ?_;cases hk:(k==NameKind.free) with
  | true =>
   simp only[if_true];rw[List.lookup_cons];cases hx:(x==n) with
   | true=>exact⟨_,rfl⟩
   | false=>exact h
  | false =>
   simp only[Bool.false_eq_true,if_false];exact h
theorem J1{cells:List (Str×Addr)}{x:Str}:∀{names:List (Str×NameKind)} {cs:List (Str×Addr)},names.lookup x=some .free->∃c,(clo cells names cs).lookup x=some c
 | [],_,h=>by simp at h
 | (n,k)::r,cs,h=>by
  rw[List.lookup_cons] at h;simp only[clo];cases hx:(x==n) with
  | true =>
   simp only[hx] at h;have hk:k=.free:=Option.some.inj h;subst hk;refine KQ (names:=r) ⟨(cells.lookup n).getD 0,?_⟩;rw[if_pos (by decide),List.lookup_cons];simp only[hx]
  | false =>
   simp only[hx] at h;exact J1 (names:=r) h
noncomputable abbrev cxD(X:Cx)(own:List Str)(scope:Scope)(C:Addr)(cl:List (Str×Addr))(fn:Str->Bool)(s:Shared)(H:Hp)(fp:List Addr)(pins:List (Addr×Obj)):Cx:=
 { X with N:=own++X.N,s₀:=s,H₀:=H,env:=compEnvC scope cl C X.env,outer:=X.stack,ex:=fp,fn:=fn,pn:=X.pn++pins,xe:=fun _ _=>False }
noncomputable abbrev cxC(X:Cx)(own:List Str)(scope:Scope)(C:Addr)(s:Shared)(H:Hp)(fp:List Addr)(pins:List (Addr×Obj)):Cx:=
 cxD X own scope C (clo X.env.cells scope.names []) (fun _=>false) s H fp pins
noncomputable def BR(own N:List Str)(sc sco:Scope):Bool:=
 N.all (fun x=>match sc.names.lookup x with
  | some .local=>false
  | some .cell=>false
  | some .free=>sco.names.lookup x==some .cell || sco.names.lookup x==some .free
  | _=>true) &&
 sc.names.all (fun y=>(y.2 != .cell)&&(y.2 != .free || sco.names.lookup y.1==some .cell || sco.names.lookup y.1==some .free)&&(y.2 != .local || sc.names.lookup y.1==some .local)) &&
 (sc.kind==.function)&&own.all fun x=>!N.contains x
theorem B0{env:Env}:∀{names:List (Str×NameKind)} {x:Str} {k:NameKind},
  (names.map fun(n,k)=>if (k==NameKind.free&&env.scope.kind==.function&&env.kindOf n==some .cell) then (n,NameKind.cell) else (n,k)).lookup x=some k ->
  names.lookup x=some k\/(k=.cell/\names.lookup x=some .free)
 | [],_,_,h=>by simp at h
 | (n,j)::r,x,k,h=>by
  have ih:=@B0 env r x k;have h':List.lookup x ((if (j==NameKind.free&&env.scope.kind==.function&&env.kindOf n==some .cell)=true then (n,NameKind.cell) else (n,j))::_)=some k:=h;rw[List.lookup_cons];cases hx:x==n with
  | true =>
   by_cases hc:(j==NameKind.free&&env.scope.kind==.function&&env.kindOf n==some .cell)=true
   .rw[if_pos hc,List.lookup_cons] at h'
    simp only[hx] at h';have hj:j=.free:=by
     simp only[Bool.and_eq_true] at hc;simpa using hc.1.1
    exact .inr ⟨(Option.some.inj h').symm,by simp only[hj]⟩
   .rw[if_neg hc,List.lookup_cons] at h'
    simp only[hx] at h';exact .inl h'
  | false =>
   refine ih ?_;by_cases hc:(j==NameKind.free&&env.scope.kind==.function&&env.kindOf n==some .cell)=true
   .rw[if_pos hc,List.lookup_cons] at h'
    simp only[hx] at h';exact h'
   .rw[if_neg hc,List.lookup_cons] at h'
    simp only[hx] at h';exact h'
theorem HR{prog:Program}{w:World}{A:Around}{R:Result->Shared->Prop}{s:Shared}{elt target iter:Expr}{ifs:List Expr}{scope:Scope}{pos:Pos}{it acc:Value}{env:Env}(I:Nat->Shared->Prop)(turn:∀n s,I n s->wpAny (model prog w) A (pyNext it) (fun r s₁=>match r with
   | none=>R (.ok .next) s₁
   | some v=>wpAny (model prog w) A (letOwnedTupleGo target it v) (fun _ s₁'=>wpAny (model prog w) A (assign target env v) (fun _ s₂ =>
     wpAny (model prog w) A (forIn ifs true fun c r=>if r=true then do let ok <- isTrue c env (eval c env); pure (ForInStep.yield ok) else pure (ForInStep.yield r)) (fun ok s₃ =>
      if ok=true then wpAny (model prog w) A (eval elt env) (fun x s₄ =>
       wpAny (model prog w) A (call (.builtin "list.append") [acc,x]) (fun _ s₅=>∃m,m<n/\I m s₅) (fun _ _=>False) s₄) (fun _ _=>False) s₃
      else ∃m,m<n/\I m s₃) (fun _ _=>False) s₂) (fun _ _=>False) s₁') (fun _ _=>False) s₁) (fun _ _=>False) s)(n:Nat)(h:I n s):codeAny (model prog w) A (.compLoop (.ListComp elt [⟨target,iter,ifs,0⟩] scope pos) 0 it acc env) R s:=by
 refine codeAny_loop rfl I (fun n s hI=>?_) n h;show wpAny _ A ((compTurn (.ListComp elt [⟨target,iter,ifs,0⟩] scope pos) 0 it acc env).onRaise (fun x=>do noteFrame x env; theTreesLotGoes x)) _ _ s;refine wpAny_noted ?_;rw[compTurn_list];refine wpAny_bind (wpAny_standAt (wpAny_bind (wpAny_mono (turn n s hI) (fun r s₁ h₁=>?_) fun _ _ h'=>h'.elim)));cases r with
 | none=>exact wpAny_pure h₁
 | some v =>
  refine wpAny_bind (wpAny_mono h₁ (fun _ s₁' h₁'=>?_) fun _ _ h'=>h'.elim);refine wpAny_bind (wpAny_mono h₁' (fun _ s₂ h₂=>wpAny_bind (wpAny_mono h₂ (fun ok s₃ h₃=>?_) fun _ _ h'=>h'.elim)) fun _ _ h'=>h'.elim);cases ok with
  | false=>exact wpAny_pure ⟨rfl,h₃⟩
  | true =>
   exact wpAny_bind (wpAny_bind (wpAny_mono h₃ (fun x s₄ h₄=>wpAny_bind (wpAny_mono h₄ (fun _ s₅ h₅=>wpAny_pure (wpAny_pure ⟨rfl,h₅⟩)) fun _ _ h'=>h'.elim)) fun _ _ h'=>h'.elim))
noncomputable def PTs(X:Cx)(ifs:List Expr)(t:TT):Prop:=
 ∀(pins:List (Addr×Obj)) (s:Shared) (σ:St) (H:Hp) (Q:Bool->Hp->Prop),Inv X pins σ H s->t σ H Q ->
  wpAny (model X.prog X.w) X.A (forIn ifs true fun c r=>if r=true then do let ok <- isTrue c X.env (eval c X.env); pure (ForInStep.yield ok) else pure (ForInStep.yield r)) (TP X pins σ Q) X.xe s
noncomputable def WS:TT:=fun _ H Q=>Q true H
theorem RT{X:Cx}:PTs X [] WS:=fun _ _ _ H _ I h=>wpAny_tests_nil ⟨H,I,h⟩
theorem RU{X:Cx}{c:Expr}{t:TT}(h:PT X c t):PTs X [c] t:=fun pins s σ H Q I q=>wpAny_tests_one (h pins s σ H Q I q)
noncomputable abbrev TU:=V->Hp->List V->Prop
noncomputable def PGo(X:Cx)(target:Expr)(n:Nat)(un:TU):Prop:=
 ∀(pins:List (Addr×Obj)) (s:Shared) (σ0 σ:St) (H:Hp) (v:V) (u:Value) (vs:List V),σ0.length=n->Inv X pins (σ0++σ) H s->RelV v u->un v H vs ->
  wpAny (model X.prog X.w) X.A (assign target X.env u) (fun _ s'=>vs.length=n/\Inv X pins (vs.map some++σ) H s') X.xe s
noncomputable def QK:TU:=fun v _ vs=>vs=[v]
theorem TM{α:Type}{l:List α}(h:l.length=1):∃o,l=[o]:=by
 cases l with
 | nil=>cases h
 | cons a t=>cases t with
  | nil=>exact⟨a,rfl⟩
  | cons b t=>cases h
theorem WH{α:Type}{l:List α}(h:l.length=2):∃o p,l=[o,p]:=by
 cases l with
 | nil=>cases h
 | cons a t =>
  obtain⟨p,rfl⟩:=TM (Nat.succ.inj h);exact⟨a,p,rfl⟩
theorem IA{X:Cx}{x:Str}{pos:Pos}(hi:X.N[0]? = some x)(hN:X.N.Nodup)(hx:X.env.scope.names.lookup x=some .local):PGo X (.Name x pos) 1 QK:=by
 intro pins s σ0 σ H v u vs hl I r h;obtain⟨o,rfl⟩:=TM hl;cases h;exact wpAny_assign_Name (DY I hN hi (.inl hx) r (fun s' I'=>⟨rfl,I'⟩) (.inr hx))
noncomputable def LcR(J:It)(un:TU)(tc:TT)(te:TE)(σ:St)(H1:Hp)(Q:VK):Prop:=∀acc,H1 acc=none->∃W:Nat->Nat->List V->Hp->Prop,(∃m,W 0 m [] (upd H1 acc (.lst [])))/\∀i m ys H,W i m ys H->H acc=some (.lst ys) /\
 ((J.stop i H/\Q (.ref acc) H)\/(J.go i H/\∀x H',J.yld i H x H'->∃vs,un x H' vs/\tc (vs.map some++σ) H' fun b H3 =>
  if b=true then te (vs.map some++σ) H3 fun v H4=>H4 acc=some (.lst ys)/\ys.length<sizeLine/\∃m',m'<m/\W (i+1) m' (ys++[v]) (upd H4 acc (.lst (ys++[v])))
  else ∃m',m'<m/\W (i+1) m' ys H3))
noncomputable def tLc(wi:TI)(un:TU)(tc:TT)(te:TE):TE:=fun σ H Q=>wi σ H fun J H1=>LcR J un tc te σ H1 Q
section
variable{X:Cx}{pins:List (Addr×Obj)}{σ:St}{H:Hp}{s:Shared}
theorem BR.free{own:List Str}{scope:Scope}(hok:BR own X.N scope X.env.scope=true)(I:Inv X pins σ H s):∀x∈scope.names,(x.2==NameKind.free)=true->(X.env.cells.lookup x.1).isSome=true:=fun x hx hf=>by
 simp only[BR,Bool.and_eq_true,List.all_eq_true] at hok;have:=(hok.1.1.2 x hx).1.2;have hf':x.2=.free:=by simpa using hf
 rw[hf'] at this;simp only[bne_self_eq_false,Bool.false_or,Bool.or_eq_true] at this;obtain⟨c,hc⟩:=I.ok.has x.1 (this.elim (fun z=>.inl (by simpa[Env.kindOf] using z)) fun z=>.inr (by simpa[Env.kindOf] using z));rw[hc]; rfl
theorem Jx{own:List Str}{scope:Scope}{fp:List Addr}{h1:Heap}{t':Nat}(hok:BR own X.N scope X.env.scope=true)(I:Inv X pins σ H s)(f2:∀b∈fp,Eu X pins H b)(fo:∀b∈fp,∃o,s.heap.get? b=some o)(hns:h1.Ns s.heap.objs.size fun _=>none)(hk:∀b o,s.heap.get? b=some o->h1.get? b=some o):
  Inv (cxC X own scope s.heap.objs.size s H fp pins) [] (List.replicate own.length none++σ) H { s with heap:=h1,toks:=t' }:=by
 have hfree:=BR.free hok I;simp only[BR,Bool.and_eq_true,List.all_eq_true] at hok;obtain⟨⟨⟨hN,hS⟩,hkd⟩,hown⟩:=hok;have hkind:scope.kind=.function:=by simpa using hkd
 have sub:∀x c,(clo X.env.cells scope.names []).lookup x=some c->X.env.cells.lookup x=some c:=fun x c e=>by
  rcases M8 hfree e with z|z
  .simp at z
  .exact z
 have ltS:∀{b:Addr} {o:Obj},s.heap.get? b=some o->b≠s.heap.objs.size:=fun e=>Nat.ne_of_lt (Heap.lt_size e);have isFree:∀x,((relabel scope X.env).names.lookup x=some .cell\/(relabel scope X.env).names.lookup x=some .free)->scope.names.lookup x=some .free:=fun x hx'=>by
  rcases hx' with z|z
  .rcases B0 z with z|z
   .have:=(hS _ (PySem.mem_of_lookup z)).1.1
    simp at this
   .exact z.2
  .rcases B0 z with z|z
   .exact z
   .cases z.1
 refine⟨⟨I.ok.mod,hkind,I.ok.glob,I.ok.blt,Nat.le_refl _,fun x y c e1 e2=>I.ok.inj x y c (sub x c e1) (sub y c e2),fun x hx=>J1 (isFree x hx),fun x c z=>(by cases z),I.ok.hd,I.ok.frames,.inl rfl,fun b hb=>?_,I.bs,Nat.le_trans I.ok.bsz I.sz,fun b o e hb=>?_,fun b hb hz=>?_,I.stack,I.stkFree,I.tabs⟩,
  rfl,I.bare,Un.kept hk,⟨_,hns,fun i x v e1 e2 e3=>?_⟩,fun x c e=>?_,I.hok.fresh (Nat.le_refl _),fun x c e=>I.freeC x c (sub x c e),fun p hp=>?_,I.hok.kept hk,?_⟩
 .refine⟨fun z=>?_,fun x c e z=>?_⟩
  .obtain⟨o,e⟩:=fo b hb
   exact ltS e z
  .exact(f2 b hb).2.2.2.2.1 x c (sub x c e) z
 .obtain⟨_,_,_,f4,_⟩:=f2 b hb
  rcases f4 with f4|f4
  .exact I.ok.noex b o e f4
  .have:=Nat.lt_of_lt_of_le (Heap.lt_size e) (Nat.le_trans I.ok.bsz f4)
   exact absurd this (Nat.lt_irrefl _)
 .obtain⟨_,f1,f3,_⟩:=f2 b hb
  rcases List.mem_cons.mp (I.stkSub b hz) with z|z
  .exact f1 z
  .exact f3 z
 .by_cases hi:i<own.length
  .rw[List.getElem?_append_left (by simpa using hi),List.getElem?_replicate] at e2
   split at e2<;>cases e2
  .have e1':X.N[i-own.length]? = some x:=by
    have e1:(own++X.N)[i]? = some x:=e1;rw[List.getElem?_append_right (by omega)] at e1;exact e1
   have e2' : σ[i-own.length]? = some (some v):=by
    rw[List.getElem?_append_right (by simpa using hi)] at e2;simpa using e2
   have hx:=hN x (List.mem_of_getElem? e1');have q:scope.names.lookup x=some .free:=by
    rcases e3 with z|z
    .rcases B0 z with z|z
     .rw[z] at hx; cases hx
     .cases z.1
    .exact isFree x z
   rw[q] at hx;simp only[Bool.or_eq_true] at hx;have hx2:X.env.scope.names.lookup x=some .cell\/X.env.scope.names.lookup x=some .free:=hx.elim (fun z=>.inl (by simpa using z)) fun z=>.inr (by simpa using z);obtain⟨m,_,hl⟩:=I.loc;obtain⟨u,r,l⟩:=hl _ x v e1' e2' (.inr hx2);refine⟨u,r,?_⟩;obtain⟨c',hc'⟩:=J1 (cells:=X.env.cells) (cs:=[]) q;rcases l with ⟨k,_⟩|⟨k,c,hc,o,ho,hd⟩
   .have k':X.env.scope.names.lookup x=some .local:=k
    rcases hx2 with z|z<;>(rw[k'] at z; cases z)
   .have ec:=sub x c' hc'
    have ec':c'=c:=Option.some.inj (ec.symm.trans hc);rw[ec'] at hc';refine .inr ⟨?_,c,hc',o,hk c o ho,hd⟩;rcases e3 with z|z
    .rcases B0 z with z|z
     .rw[q] at z; cases z
     .cases z.1
    .exact z
 .obtain⟨v,o,ho,hd⟩:=I.cell x c (sub x c e)
  exact⟨v,o,hk c o ho,hd⟩
 .have hp':p∈X.pn++pins:=by simpa using hp
  obtain⟨e,n,ne,nf,d⟩:=I.pin p hp';refine⟨hk _ _ e,n,ltS e,fun hz=>?_,d⟩;rcases List.mem_cons.mp (I.stkSub p.1 hz) with z|z
  .exact ne z
  .exact nf z
 .show(List.replicate own.length none++σ).length=(own++X.N).length
  rw[List.length_append,List.length_replicate,List.length_append,I.len]
theorem Fi{own:List Str}{scope:Scope}{fp:List Addr}{cl:List (Str×Addr)}{fn:Str->Bool}{σ':St}{H':Hp}{s':Shared}{h':Heap}(I:Inv X pins σ H s)(f2:∀b∈fp,Eu X pins H b)(J:Inv (cxD X own scope s.heap.objs.size cl fn s H fp pins) [] σ' H' s')(hs:Heap.SameBut s.heap.objs.size s'.heap h'):Inv X pins σ H' { s' with heap:=h' }:=by
 have lt:∀{b:Addr} {o:Obj},s.heap.get? b=some o->b≠s.heap.objs.size:=fun e=>Nat.ne_of_lt (Heap.lt_size e);have hC:H' s.heap.objs.size=none:=J.free;have u:=J.base;refine I.call' (s':={ s' with heap:=h' }) (ch:=fp) J.os ⟨fun b o e n hb hx=>(hs.2 b (lt e)).trans (u.keep b o e n hb hx),fun b o e n hb hx=>?_,u.free,fun b o e hx=>?_,u.tups,u.frzs,u.tbls⟩ (fun b o e=>?_) J.bare fun b hb=>?_
 .obtain⟨sl,q⟩:=u.slot b o e n hb hx
  exact⟨sl,(hs.2 b (lt e)).trans q⟩
 .obtain⟨o',q⟩:=u.there b o e hx
  exact⟨o',(hs.2 b (lt e)).trans q⟩
 .refine(J.hok b o e).stay (fun c w' hc q=>(hs.2 c ?_).trans q) (fun _ q=>q) fun _ _ q=>q
  rintro rfl;rcases hc with z|z
  .rw[<- z,hC] at e; cases e
  .rw[hC] at z; cases z
 .obtain⟨_,f1,_,f4,f5,f6⟩:=f2 b hb
  exact⟨f4,f1,f5,f6⟩
theorem Qk{own:List Str}{scope:Scope}{fp:List Addr}{it:Addr}{tn:Nat->Heap->Prop}{J:It}{target iter elt:Expr}{ifs:List Expr}{pos:Pos}{un:TU}{tc:TT}{te:TE}{acc:Addr}{Q:VK}{R:Result->Shared->Prop}{cl:List (Str×Addr)}{fn:Str->Bool}{h1:Heap}{t1:Nat}(hc:X.calm=true)(hg:PGo (cxD X own scope s.heap.objs.size cl fn s H fp pins) target own.length un)(ht:PTs (cxD X own scope s.heap.objs.size cl fn s H fp pins) ifs tc)(he:PE (cxD X own scope s.heap.objs.size cl fn s H fp pins) elt te)(I:Inv X pins σ H s)(T:Turn X.prog X.w X.K target J fp it tn)(st:tn 0 s.heap)(f2:∀b∈fp,Eu X pins H b)(W:Nat->Nat->List V->Hp->Prop)(w0:∃m,W 0 m [] H)(turn:∀i m ys H,W i m ys H->H acc=some (.lst ys) /\
   ((J.stop i H/\Q (.ref acc) H)\/(J.go i H/\∀x H',J.yld i H x H'->∃vs,un x H' vs/\tc (vs.map some++σ) H' fun b H3 =>
    if b=true then te (vs.map some++σ) H3 fun v H4=>H4 acc=some (.lst ys)/\ys.length<sizeLine/\∃m',m'<m/\W (i+1) m' (ys++[v]) (upd H4 acc (.lst (ys++[v])))
    else ∃m',m'<m/\W (i+1) m' ys H3)))(fin:∀s' σ' H',Inv (cxD X own scope s.heap.objs.size cl fn s H fp pins) [] σ' H' s'->Q (.ref acc) H'->R (.ok .next) s')(hk:∀b o,s.heap.get? b=some o->h1.get? b=some o)(I0:Inv (cxD X own scope s.heap.objs.size cl fn s H fp pins) [] (List.replicate own.length none++σ) H { s with heap:=h1,toks:=t1 }):
  codeAny (model X.prog X.w) X.A (.compStart (.ListComp elt [⟨target,iter,ifs,0⟩] scope pos) 0 (.ref it) (.ref acc) (compEnvC scope cl s.heap.objs.size X.env)) R { s with heap:=h1,toks:=t1 }:=by
 have st1:tn 0 h1:=T.keep _ _ _ st fun b _ o e=>hk b o e;have stat:∀{H':Hp},(∀b∈fp,H' b=none)->∀b∈fp,Eu (cxD X own scope s.heap.objs.size cl fn s H fp pins) [] H' b:=fun hn b hb=>by
  obtain⟨_,f1,f3,_,f5,f6⟩:=f2 b hb;obtain⟨o,e,_⟩:=T.obj _ _ st b hb;refine⟨hn b hb,Nat.ne_of_lt (Heap.lt_size e),fun hz=>?_,.inl hb,(I0.ok.exf b hb).2,fun p hp=>f6 p (by simpa using hp)⟩;rcases List.mem_cons.mp (I.stkSub b hz) with z|z
  .exact f1 z
  .exact f3 z
 have loop:∀s4,s4={ s with heap:=h1,toks:=t1 }->codeAny (model X.prog X.w) X.A (.compLoop (.ListComp elt [⟨target,iter,ifs,0⟩] scope pos) 0 (.ref it) (.ref acc) (compEnvC scope cl s.heap.objs.size X.env)) R s4:=by
  rintro s4 rfl;obtain⟨m0,w0⟩:=w0;refine HR (fun n s'=>∃i ys σ0 H',σ0.length=own.length/\Inv (cxD X own scope s.heap.objs.size cl fn s H fp pins) [] (σ0++σ) H' s'/\tn i s'.heap/\(∀b∈fp,H' b=none)/\W i n ys H') ?_ m0 ⟨0,[],_,H,by rw[List.length_replicate],I0,st1,fun b hb=>(f2 b hb).1,w0⟩;rintro n s3 ⟨i,ys,σ0,H3,hl3,I3,st3,fr3,w3⟩;obtain⟨ha,turn3⟩:=turn i n ys H3 w3;rcases turn3 with ⟨stop,qn⟩|⟨go,step⟩
  .refine thn (T.done (cxD X own scope s.heap.objs.size cl fn s H fp pins) rfl rfl rfl hc i [] s3 _ H3 _ I3 (stat fr3) st3 stop) fun r s4 yy=>?_
   obtain⟨hr,I4⟩:=yy;subst hr;exact fin s4 _ H3 I4 qn
  .refine thn (T.item (cxD X own scope s.heap.objs.size cl fn s H fp pins) rfl rfl rfl hc i [] s3 _ H3 _ I3 (stat fr3) st3 go) fun r s4 yy=>?_
   obtain⟨u,hr,h4⟩:=yy;subst hr;refine thn h4 fun _ s5 yy=>?_;obtain⟨x,H5,I5,r5,y5,st5,fr5⟩:=yy;obtain⟨vs,hu,q5⟩:=step x H5 y5;have I5':=I5.pinned (stat fr5) (T.obj _ _ st5);have again:∀{H7:Hp} {s7:Shared},vs.length=own.length->Inv (cxD X own scope s.heap.objs.size cl fn s H fp pins) ([]++Hd fp s5.heap) (vs.map some++σ) H7 s7->∀{ys'},(∃m',m'<n/\W (i+1) m' ys' H7) ->
     ∃m,m<n/\∃i ys σ0 H',σ0.length=own.length/\Inv (cxD X own scope s.heap.objs.size cl fn s H fp pins) [] (σ0++σ) H' s7/\tn i s7.heap/\(∀b∈fp,H' b=none)/\W i m ys H':=fun {H7 s7} hl I7 {ys'} ⟨m',hm,w7⟩=>by
    refine⟨m',hm,i+1,ys',vs.map some,H7,by rw[List.length_map,hl],I7.unpinned,T.keep _ _ _ st5 fun b hb o e=>(I7.pin (b,o) (List.mem_append_right _ (List.mem_append_right _ (C3 hb e)))).1,fun b hb=>?_,w7⟩;obtain⟨o,e,d⟩:=T.obj _ _ st5 b hb;exact(I7.pin (b,o) (List.mem_append_right _ (List.mem_append_right _ (C3 hb e)))).2.1
   refine thn (hg _ s5 σ0 σ H5 x u vs hl3 I5' r5 hu) fun _ s6 yy=>?_;obtain⟨hl,I6⟩:=yy;refine thn (ht _ s6 _ H5 _ I6 q5) fun ok s7 yy=>?_;obtain⟨H7,I7,q7⟩:=yy;cases ok with
   | false =>
    rw[if_neg Bool.false_ne_true] at q7;rw[if_neg Bool.false_ne_true];exact again hl I7 q7
   | true =>
    rw[if_pos rfl] at q7;rw[if_pos rfl];refine thn (he _ s7 _ H7 _ I7 q7) fun v s8 yy=>?_;obtain⟨y,H8,I8,r8,ha8,hz8,q8⟩:=yy;refine thn (G9 _ s8 _ H8 (.ref acc) [y] (.ref acc) [v] (fun _ H9=>∃m',m'<n/\W (i+1) m' (ys++[y]) H9) I8 rfl (.cons r8 .nil) ⟨acc,ys,y,rfl,rfl,ha8,hz8,q8⟩) fun _ s9 yy=>?_;obtain⟨_,H9,I9,_,q9⟩:=yy;exact again hl I9 q9
 exact codeAny_compStart_list (loop _ rfl) (T.self X.A 0 _ _ _ st1 (loop _ rfl))
theorem JG{own:List Str}{scope:Scope}{fp:List Addr}{it:Addr}{tn:Nat->Heap->Prop}{J:It}{target iter elt:Expr}{ifs:List Expr}{pos:Pos}{un:TU}{tc:TT}{te:TE}{acc:Addr}{Q:VK}{R:Result->Shared->Prop}{E:Value->Shared->Prop}(hc:X.calm=true)(hok:BR own X.N scope X.env.scope=true)(hg:∀C s H fp pins,PGo (cxC X own scope C s H fp pins) target own.length un)(ht:∀C s H fp pins,PTs (cxC X own scope C s H fp pins) ifs tc)(he:∀C s H fp pins,PE (cxC X own scope C s H fp pins) elt te)(I:Inv X pins σ H s)(T:Turn X.prog X.w X.K target J fp it tn)(st:tn 0 s.heap)(f2:∀b∈fp,Eu X pins H b)(W:Nat->Nat->List V->Hp->Prop)(w0:∃m,W 0 m [] H)(turn:∀i m ys H,W i m ys H->H acc=some (.lst ys) /\
   ((J.stop i H/\Q (.ref acc) H)\/(J.go i H/\∀x H',J.yld i H x H'->∃vs,un x H' vs/\tc (vs.map some++σ) H' fun b H3 =>
    if b=true then te (vs.map some++σ) H3 fun v H4=>H4 acc=some (.lst ys)/\ys.length<sizeLine/\∃m',m'<m/\W (i+1) m' (ys++[v]) (upd H4 acc (.lst (ys++[v])))
    else ∃m',m'<m/\W (i+1) m' ys H3)))(fin:∀s' σ' H',Inv (cxC X own scope s.heap.objs.size s H fp pins) [] σ' H' s'->Q (.ref acc) H'->R (.ok .next) s'):
  wpAny (model X.prog X.w) X.A (newFunctionEnv scope X.env.globals (clo X.env.cells scope.names []) [] X.env.qual none .none (some X.env)) (fun cenv s₄ =>
   cenv.locals=s.heap.objs.size/\codeAny (model X.prog X.w) X.A (.compStart (.ListComp elt [⟨target,iter,ifs,0⟩] scope pos) 0 (.ref it) (.ref acc) { cenv with scope:=relabel scope X.env }) R s₄) E s:=by
 have hcell:∀x∈scope.names,x.2≠.cell:=fun x hx z=>by
  simp only[BR,Bool.and_eq_true,List.all_eq_true] at hok;have:=(hok.1.1.2 x hx).1.1;rw[z] at this;simp at this
 have hkind:scope.kind=.function:=by
  simp only[BR,Bool.and_eq_true] at hok;simpa using hok.1.2
 refine wpAny_newFunctionEnv hcell (fun x hx=>by simp at hx) (fun h1 hns hsb=>⟨rfl,?_⟩) hkind;have hk:∀b o,s.heap.get? b=some o->h1.get? b=some o:=fun b o e=>(hsb.2 b (Nat.ne_of_lt (Heap.lt_size e))).trans (Heap.get?_push_of_some _ e);have I0:Inv (cxC X own scope s.heap.objs.size s H fp pins) [] (List.replicate own.length none++σ) H { s with heap:=h1,toks:=s.toks+([]:List (Str×Value)).length }:=
  Jx hok I f2 (fun b hb=>let⟨o,e,_⟩:=T.obj _ _ st b hb; ⟨o,e⟩) (by simpa using hns) hk
 exact Qk (iter:=iter) (pos:=pos) hc (hg _ _ _ _ _) (ht _ _ _ _ _) (he _ _ _ _ _) I T st f2 W w0 turn fin hk I0
end
section
variable{X:Cx}
theorem BR.names{own N:List Str}{scope sco:Scope}(hok:BR own N scope sco=true):∀x∈scope.names,x.2=.local->scope.names.lookup x.1=some .local:=fun x hx hl=>by
 simp only[BR,Bool.and_eq_true,List.all_eq_true] at hok;have:=(hok.1.1.2 x hx).2;rw[hl] at this;simpa using this
theorem BR.kind{own N:List Str}{scope sco:Scope}(hok:BR own N scope sco=true):scope.kind=.function:=by
 simp only[BR,Bool.and_eq_true] at hok;simpa using hok.1.2
theorem VX{own:List Str}{scope:Scope}{target iter elt:Expr}{ifs:List Expr}{pos:Pos}{wi:TI}{un:TU}{tc:TT}{te:TE}(hc:X.calm=true)(hok:BR own X.N scope X.env.scope=true)(hi:PI X target iter wi)(hg:∀C s H fp pins,PGo (cxC X own scope C s H fp pins) target own.length un)(ht:∀C s H fp pins,PTs (cxC X own scope C s H fp pins) ifs tc)(he:∀C s H fp pins,PE (cxC X own scope C s H fp pins) elt te)(hs:∀x,foldedSetIterable iter X.env x=pure x:=by intro _; rfl):PE X (.ListComp elt [⟨target,iter,ifs,0⟩] scope pos) (tLc wi un tc te):=by
 intro pins s σ H Q I h;rw[eval_ListComp];refine wpAny_comprehension_free (use:=none) rfl hs (LP (BR.free hok I)) (BR.kind hok) (BR.names hok) ?_;refine thn (hi pins s σ H _ I h) fun v s1 h1=>thn h1 fun itv s2 h2=>?_;obtain⟨it,fp,tn,J,H2,e,I2,T,st2,f2,q⟩:=h2;subst e;obtain⟨W,w0,turn⟩:=q s2.heap.objs.size I2.fresh;refine wpAny_newObj_type (hd:=by size_fits) ?_;have I3:Inv X pins σ (upd H2 s2.heap.objs.size (.lst [])) { s2 with heap:=s2.heap.push { cls:=.type "list",data:=.seq ([]:List Value).toArray } }:=I2.lnew (its:=[]) (t':=s2.toks) .nil (Nat.zero_le _);have st3:tn 0 (s2.heap.push { cls:=.type "list",data:=.seq ([]:List Value).toArray }):=T.keep _ _ _ st2 fun b _ o e=>Heap.get?_push_of_some _ e;have f3:∀b∈fp,Eu X pins (upd H2 s2.heap.objs.size (.lst [])) b:=fun b hb=>by
  obtain⟨o,e,_⟩:=T.obj _ _ st2 b hb;exact⟨by rw[AE (Nat.ne_of_lt (Heap.lt_size e))]; exact(f2 b hb).1,(f2 b hb).2⟩
 refine thn (JG (iter:=iter) (pos:=pos) (R:=compPost (model X.prog X.w) X.A X.xe none (EP X pins σ Q) (.ref s2.heap.objs.size) (s2.heap.push { cls:=.type "list",data:=.seq ([]:List Value).toArray }).objs.size) hc hok hg ht he I3 T st3 f3 W w0 turn fun s' σ' H' J' q'=>?_) fun cenv s4 ⟨el,h4⟩=>?_
 .obtain⟨m,hn,_⟩:=J'.loc
  exact⟨m,hn,fun h' hs'=>⟨.ref s2.heap.objs.size,H',Fi I3 f3 J' hs',rfl,q'⟩⟩
 .have el':cenv.locals=(s2.heap.push { cls:=.type "list",data:=.seq ([]:List Value).toArray }).objs.size:=el
  rw[<- el'] at h4;exact h4
end
section
variable{X:Cx}
theorem P4{i:Nat}{y:Str}{py spos:Pos}{own:List Str}{scope:Scope}{target iter elt:Expr}{ifs:List Expr}{pos:Pos}{wi:TI}{un:TU}{tc:TT}{te:TE}(nd:X.N.Nodup)(hiN:X.N[i]? = some y)(hy:X.env.scope.names.lookup y=some .local)(hc:X.calm=true)(hok:BR own X.N scope X.env.scope=true)(hi:PI X target iter wi)(hg:∀C s H fp pins,PGo (cxC X own scope C s H fp pins) target own.length un)(ht:∀C s H fp pins,PTs (cxC X own scope C s H fp pins) ifs tc)(he:∀C s H fp pins,PE (cxC X own scope C s H fp pins) elt te)(hs:∀x,foldedSetIterable iter X.env x=pure x:=by intro _; rfl)(hsw:swapsWith (.ListComp elt [⟨target,iter,ifs,0⟩] scope pos) (some (.Name y py)) spos.line X.env=pure true:=by rfl):
  PS X (.Assign [.Name y py] (.ListComp elt [⟨target,iter,ifs,0⟩] scope pos) spos) (MQ (tLc wi un tc te) (FK i)):=by
 intro pins s σ H D I h;rw[exec_Assign_Name_used _ _ _ _ hsw];refine wpAny_bind (wpAny_standAt (wpAny_bind ?_));show wpAny _ X.A (do let _ <- comprehension (.ListComp elt [⟨target,iter,ifs,0⟩] scope pos) scope X.env _ (newList []) false (eval iter X.env) (some (assign (.Name y py) X.env))) _ _ s;refine wpAny_bind (wpAny_mono (wpAny_comprehension_free (use:=some (assign (.Name y py) X.env)) (Q:=fun _ s'=>SP X pins D .next s') rfl hs (LP (BR.free hok I)) (BR.kind hok) (BR.names hok) ?_) (fun _ s' hq=>wpAny_pure (wpAny_pure hq)) fun _ _ e=>e);refine thn (hi pins s σ H _ I h) fun v s1 h1=>thn h1 fun itv s2 h2=>?_;obtain⟨it,fp,tn,J,H2,e,I2,T,st2,f2,q⟩:=h2;subst e;obtain⟨W,w0,turn⟩:=q s2.heap.objs.size I2.fresh;refine wpAny_newObj_type (hd:=by size_fits) ?_;have I3:Inv X pins σ (upd H2 s2.heap.objs.size (.lst [])) { s2 with heap:=s2.heap.push { cls:=.type "list",data:=.seq ([]:List Value).toArray } }:=I2.lnew (its:=[]) (t':=s2.toks) .nil (Nat.zero_le _);have st3:tn 0 (s2.heap.push { cls:=.type "list",data:=.seq ([]:List Value).toArray }):=T.keep _ _ _ st2 fun b _ o e=>Heap.get?_push_of_some _ e;have f3:∀b∈fp,Eu X pins (upd H2 s2.heap.objs.size (.lst [])) b:=fun b hb=>by
  obtain⟨o,e,_⟩:=T.obj _ _ st2 b hb;exact⟨by rw[AE (Nat.ne_of_lt (Heap.lt_size e))]; exact(f2 b hb).1,(f2 b hb).2⟩
 generalize hS:({ s2 with heap:=s2.heap.push { cls:=.type "list",data:=.seq ([]:List Value).toArray } }:Shared)=s3 at I3 st3;have st3':tn 0 s3.heap:=by rw[<- hS]; exact st3
 refine thn (JG (iter:=iter) (pos:=pos) (acc:=s2.heap.objs.size) (Q:=fun x H1=>FK i x σ H1 D.nx) (R:=compPost (model X.prog X.w) X.A X.xe (some (assign (.Name y py) X.env)) (fun _ s'=>SP X pins D .next s') (.ref s2.heap.objs.size) s3.heap.objs.size) hc hok hg ht he I3 T st3' f3 W w0 turn fun s' σ' H' J' q'=>?_) fun cenv s4 ⟨el,h4⟩=>?_
 .have I4:Inv X pins σ H' s':=Fi I3 f3 J' (h':=s'.heap) (.refl ..)
  obtain⟨m,⟨oC,es,ep,hoC,hdC,hrC⟩,_⟩:=J'.loc;have hCL:s3.heap.objs.size≠X.env.locals:=Nat.ne_of_gt I3.lt;have hfs:s3.heap.objs.size∉X.fs:=I3.nofs (Nat.le_refl _);have hCc:∀x c,X.env.cells.lookup x=some c->c≠s3.heap.objs.size:=fun x c e=>by
   obtain⟨v,z⟩:=I3.cell x c e;exact Nat.ne_of_lt z.lt
  have hCp:∀p∈X.pn++pins,p.1≠s3.heap.objs.size:=fun p hp=>Nat.ne_of_lt (Heap.lt_size (I3.pin p hp).1);have I5:Inv X (pins++[(s3.heap.objs.size,oC)]) σ H' s':=I4.pins_of fun p hp=>(List.mem_append.mp hp).elim (fun z=>I4.pin p (List.mem_append_right _ z)) fun z=>by
   have z':p=(s3.heap.objs.size,oC):=by simpa using z
   subst z';exact⟨hoC,J'.free,hCL,hfs,fun v=>by rw[hdC]; intro z; cases z⟩
  show wpAny _ X.A (assign (.Name y py) X.env (.ref s2.heap.objs.size)) _ _ s';refine wpAny_assign_Name (DY I5 nd hiN (.inl hy) (v:=.ref s2.heap.objs.size) rfl (fun s6 I6=>?_) (.inr hy));have hp:=I6.pin (s3.heap.objs.size,oC) (List.mem_append_right _ (List.mem_append_right _ (by simp)));refine⟨m,⟨oC,es,ep,hp.1,hdC,hrC⟩,fun h' hs'=>?_⟩;exact⟨_,H',I6.unpinned.turned (h':=h') (t':=s6.toks) (it:=s3.heap.objs.size) (fun b o hb e=>(hs'.2 b hb).trans e) hp.2.1 hCL (.inr I3.sz) hCc hCp,q'⟩
 .rw[<- el] at h4
  exact h4
end
noncomputable def Its(x:Str):It:=⟨fun i _=>i<x.cps.size,fun i H v H'=>H'=H/\∃c,x.cps[i]? = some c/\v=.str ⟨#[c]⟩,fun i _=>x.cps.size<=i⟩
theorem Heap.IsStrIter.at'{h h':Heap}{a ty x t i}(y:h.IsStrIter a ty x t i)(e:∀o,h.get? a=some o->h'.get? a=some o):h'.IsStrIter a ty x t i:=let⟨o,ho,r⟩:=y; ⟨o,e _ ho,r⟩
theorem QG{P:Program}{w:World}{K:Frag}{tg:Expr}(it:Addr)(x:Str)(t:Tok)(ty:String)(hty:ty = "str_ascii_iterator" \/ ty = "str_iterator"):Turn P w K tg (Its x) [it] it (fun i h=>h.IsStrIter it ty x t i) where
 mem:=by simp
 obj:=fun i h st b hb=>by
  have e:b=it:=by simpa using hb
  subst e;obtain⟨o,e,c,d⟩:=st;exact⟨o,e,fun v z=>by rw[d] at z; cases z⟩
 keep:=fun i h h' st k=>Heap.IsStrIter.at' st fun o e=>k it (by simp) o e
 item:=by
  intro X hP hw hK hc i pins s σ H E I hf st hg;subst hP hw hK;have hg':i<x.cps.size:=hg;have hx:x.cps[i]? = some x.cps[i]:=by simp[hg']
  obtain⟨f0,f1,f2,f3,f4,f5⟩:=hf it (by simp);have fin:∀h',h'.IsStrIter it ty x t (i+1)->Heap.SameBut it s.heap h'->∃u,some (Value.str ⟨#[x.cps[i]]⟩ s.toks)=some u /\
    wpAny (model X.prog X.w) X.A (letOwnedTupleGo tg (.ref it) u) (fun _ s2=>∃y H',Inv X pins σ H' s2/\RelV y u/\(Its x).yld i H y H'/\s2.heap.IsStrIter it ty x t (i+1)/\∀b∈[it],H' b=none) E { s with heap:=h',toks:=s.toks+1 }:=fun h' st' sb=>by
   have I1:Inv X pins σ H { s with heap:=h',toks:=s.toks+1 }:=I.turned (fun b o hb e=>(sb.2 b hb).trans e) f0 f1 f3 f4 f5;obtain⟨o,e,c,d⟩:=id st';exact⟨_,rfl,K2 (s:={ s with heap:=h',toks:=s.toks+1 }) e c d (by rcases hty with rfl|rfl<;>decide) ⟨.str ⟨#[x.cps[i]]⟩,H,I1,⟨_,rfl⟩,⟨rfl,_,hx,rfl⟩,st',fun b hb=>(hf b hb).1⟩⟩
  rcases hty with rfl|rfl
  .exact wpAny_pyNext_ascii_item st hx fin
  .exact wpAny_pyNext_wide_item st hx fin
 done:=by
  intro X hP hw hK hc i pins s σ H E I hf st hg;subst hP hw hK;have hg':x.cps.size<=i:=hg;have hx:x.cps[i]? = none:=by simp[hg']
  obtain⟨f0,f1,f2,f3,f4,f5⟩:=hf it (by simp);rcases hty with rfl|rfl
  .exact wpAny_pyNext_ascii_end (I.ok.hd hc) st hx fun h' eb=>⟨rfl,I.turned (t':=s.toks) (fun b o hb e=>eb b o hb e) f0 f1 f3 f4 f5⟩
  .exact wpAny_pyNext_wide_end (I.ok.hd hc) st hx fun h' eb=>⟨rfl,I.turned (t':=s.toks) (fun b o hb e=>eb b o hb e) f0 f1 f3 f4 f5⟩
 self:=fun _ _ _ _ _ st h=>by
  rcases hty with rfl|rfl
  .exact wpAny_pyIter_striter_ascii st h
  .exact wpAny_pyIter_striter_wide st h
section
variable{X:Cx}{tg:Expr}
noncomputable def VH(tl:TE):TI:=fun σ H R=>tl σ H fun x H1=>∃z,x=.str z/\R (Its z) H1
theorem UH{l:Expr}{tl:TE}(hl:PE X l tl):PI X tg l (VH tl):=by
 intro pins s σ H R I h;refine thn (hl pins s σ H _ I h) fun v s1 yy=>?_;obtain⟨x,H1,I1,r1,q1⟩:=yy;obtain⟨z,e,q⟩:=q1;subst e;obtain⟨t,rfl⟩:=r1;have fin:∀ty:String,(ty = "str_ascii_iterator" \/ ty = "str_iterator")->PIE X pins σ tg R (.ref s1.heap.objs.size) { s1 with heap:=s1.heap.push { cls:=.type ty,data:=.fields #[.str z t,.int 0 0] } }:=fun ty hty=>by
  have I2:Inv X pins σ H1 { s1 with heap:=s1.heap.push { cls:=.type ty,data:=.fields #[.str z t,.int 0 0] } }:=I1.kept (t':=s1.toks) fun b o e=>Heap.get?_push_of_some _ e;refine⟨_,[s1.heap.objs.size],_,Its z,H1,rfl,I2,QG _ z t ty hty,⟨_,Heap.get?_push_size _ rfl,rfl,rfl⟩,fun b hb=>?_,q⟩;have e:b=s1.heap.objs.size:=by simpa using hb
  subst e;exact I1.fpOk (Nat.le_refl _) (I1.hok.fresh (Nat.le_refl _))
 by_cases ha:z.cps.all (· < 128)=true
 .exact wpAny_pyIter_ascii ha (fin _ (.inl rfl))
 .exact wpAny_pyIter_wide (by simpa using ha) (fin _ (.inr rfl))
end
section
variable{X:Cx}
noncomputable def GR(bs:List Bool):List V:=bs.map V.bl
theorem Fb(hc:X.calm=true):Dh X (.builtin "all") (fun xs H Q=>∃p bs,xs=[.ref p]/\SqL X.K H p (GR bs)/\Q (.bl (bs.all id)) H):=by
 intro pins s σ H xs us Q I r h;obtain⟨p,bs,rfl,hq,q⟩:=h;obtain⟨u,rfl,ru⟩:=r.one;cases ru;obtain⟨its,rv,pl,hz⟩:=I.list hq;have hl:=rv.length;refine call_all_walk (wpAny_pyIter_list pl.isList ?_);have hne:p≠s.heap.objs.size:=fun z=>by
  obtain⟨o,e,_⟩:=pl.isList;exact absurd (Heap.lt_size e) (by rw[z]; exact Nat.lt_irrefl _)
 have hlen:its.toArray.size=bs.length:=by rw[List.size_toArray,<- hl]; simp[GR]
 refine⟨_,_,_,_,_,_,fun i=>(bs[i]?).getD true,rfl,Walks.list (by show X.A.handled=none; exact I.ok.hd hc) s.heap.objs.size p hne its.toArray,⟨⟨_,Heap.get?_push_size _ rfl,rfl,rfl⟩,?_⟩,?_,?_⟩
 .obtain⟨o,e,r⟩:=pl.isList
  exact⟨o,Heap.get?_push_of_some _ e,r⟩
 .intro i v s' Q' E' hv hq'
  have hi:i<its.length:=by
   by_cases hi:i<its.length
   .exact hi
   .have:its.toArray[i]? = none:=by simp; lia
    rw[this] at hv; cases hv
  have hb:i<bs.length:=by simp[GR] at hl; lia
  obtain⟨u,hu,ru⟩:=rv.get (i:=i) (x:=.bl bs[i]) (by simp[GR,hb]);have e:v=.bool bs[i]:=by
   have:its.toArray[i]? = some u:=by simpa using hu
   rw[this] at hv;cases hv;exact ru
  subst e;dsimp only at hq';rw[show(bs[i]?).getD true=bs[i] by simp[hb]] at hq';exact wpAny_truthy_bool hq'
 .intro h' tk hk
  have I1:Inv X pins σ H { s with heap:=h',toks:=tk }:=I.kept fun b o e=>hk b o (fun z=>by
   have z':b=s.heap.objs.size:=by simpa using z
   exact absurd (Heap.lt_size e) (by rw[z']; exact Nat.lt_irrefl _)) (Heap.get?_push_of_some _ e)
  refine⟨.bl _,H,I1,rfl,?_⟩;have e:(List.range its.toArray.size).all (fun i=>(bs[i]?).getD true)=bs.all id:=by
   rw[hlen,Bool.eq_iff_iff];simp only[List.all_eq_true,List.mem_range,id_eq];constructor
   .intro h b hb
    obtain⟨i,hi,rfl⟩:=List.mem_iff_getElem.mp hb;have:=h i hi;simpa[hi] using this
   .intro h i hi
    simpa[hi] using h bs[i] (List.getElem_mem hi)
  rw[e];exact q
end
section
variable{X:Cx}{e:Expr}{te:TE}{p q pos:Pos}{x:Str}{T:String}
noncomputable def LH(H:Hp):V->Option String
 | .non=>some "NoneType"
 | .bl _=>some "bool"
 | .int _=>some "int"
 | .str _=>some "str"
 | .ref a=>match H a with
  | some (.lst _)=>some "list"
  | some (.tup _)=>some "tuple"
  | _=>none
 | _=>none
theorem Ss{K:Frag}{H:Hp}{v:V}{t:String}(h:LH H v=some t):TyOf K H v (.type t):=by
 cases v with
 | non=>cases h; exact .non
 | bl b=>cases h; exact .bl b
 | int i=>cases h; exact .int i
 | str z=>cases h; exact .str z
 | ref a =>
  unfold LH at h;dsimp only at h;split at h
  .rename_i e; cases h; exact .lst e
  .rename_i e; cases h; exact .tup e
  .cases h
 | _=>cases h
end
inductive RepA (N:Addr->Prop) (H:Hp):V->D->Prop where
 | non:RepA N H .non .non
 | bl (b:Bool):RepA N H (.bl b) (.bl b)
 | int (i:Int):RepA N H (.int i) (.int i)
 | str (x:Str) (hx:x.length<=sizeLine):RepA N H (.str x) (.str x)
 | lst {a:Addr} {vs:List V} {ds:List D} (h:H a=some (.lst vs)) (hz:vs.length<=sizeLine) (hn:¬N a) (hl:vs.length=ds.length) (hr:∀(i:Nat) v d,vs[i]? = some v->ds[i]? = some d->RepA N H v d):RepA N H (.ref a) (.lst ds)
 | tup {a:Addr} {vs:List V} {ds:List D} (h:H a=some (.tup vs)) (hz:vs.length<=sizeLine) (hl:vs.length=ds.length) (hr:∀(i:Nat) v d,vs[i]? = some v->ds[i]? = some d->RepA N H v d):RepA N H (.ref a) (.tup ds)
noncomputable abbrev Rep:=RepA fun _=>False
theorem RepA.weak{N N':Addr->Prop}{H:Hp}(hn:∀a,N' a->N a){v:V}{d:D}(r:RepA N H v d):RepA N' H v d:=by
 induction r with
 | non=>exact .non
 | bl b=>exact .bl b
 | int i=>exact .int i
 | str x hx=>exact .str x hx
 | lst h hz n hl _ ih=>exact .lst h hz (fun z=>n (hn _ z)) hl ih
 | tup h hz hl _ ih=>exact .tup h hz hl ih
theorem RepA.rep{N:Addr->Prop}{H:Hp}{v:V}{d:D}(r:RepA N H v d):Rep H v d:=r.weak fun _ z=>z.elim
theorem RepA.inj{N N':Addr->Prop}{H:Hp}{v:V}{d e:D}(r:RepA N H v d)(q:RepA N' H v e):d=e:=by
 induction r generalizing e with
 | non=>cases q; rfl
 | bl b=>cases q; rfl
 | int i=>cases q; rfl
 | str x=>cases q; rfl
 | lst h hz hn hl hr ih =>
  cases q with
  | lst h' hz' hn' hl' hr' =>
   rw[h] at h'; cases h';congr 1;refine List.ext_getElem? fun i=>?_;rename_i vs ds es;by_cases hi:i<vs.length
   .have e1:ds[i]? = some ds[i]:=by simp[<- hl,hi]
    have e2:es[i]? = some es[i]:=by simp[<- hl',hi]
    rw[e1,e2,ih i vs[i] ds[i] (by simp[hi]) e1 (hr' i vs[i] es[i] (by simp[hi]) e2)]
   .rw[List.getElem?_eq_none (by omega),List.getElem?_eq_none (by omega)]
  | tup h'=>rw[h] at h'; cases h'
 | tup h hz hl hr ih =>
  cases q with
  | tup h' hz' hl' hr' =>
   rw[h] at h'; cases h';congr 1;refine List.ext_getElem? fun i=>?_;rename_i vs ds es;by_cases hi:i<vs.length
   .have e1:ds[i]? = some ds[i]:=by simp[<- hl,hi]
    have e2:es[i]? = some es[i]:=by simp[<- hl',hi]
    rw[e1,e2,ih i vs[i] ds[i] (by simp[hi]) e1 (hr' i vs[i] es[i] (by simp[hi]) e2)]
   .rw[List.getElem?_eq_none (by omega),List.getElem?_eq_none (by omega)]
  | lst h'=>rw[h] at h'; cases h'
structure Def (P:Program) (w:World) (K:Frag) (mg:Str->Option Value) (base:Heap) (CX:CXT) (k:Nat) (x:Str) (ps:List Str) (sp:Sp):Prop where
 ex:∃(f:Addr) (fd:FuncData),mg x=some (.ref f)/\PySem.W.keepIn K (.ref f)=true/\Binds K fd ps []/\FnOk P w K mg base CX k f fd ps sp
section
variable{X:Cx}
theorem Iw{CX:CXT}{k j:Nat}{x:Str}{ps:List Str}{sp:Sp}{E:XK}{p pos:Pos}{e:Expr}{es:List Expr}{t:TA}(D:Def X.prog X.w X.K X.mg X.base CX k x ps sp)(hr:Room j X.A)(hkj:k<=j)(hx:Passes CX X E)(ha:PA X (e::es) t)(hg:Gl X x:=by rfl)(hdb:(x==("__debug__" : Str))=false:=by decide +kernel)(he:starEach (e::es) X.env=(false,eval e X.env)::starEach es X.env:=by rfl)(hpl:(backTo pos (starEach es X.env)).any (·.1)=false:=by rfl):PE X (.Call (.Name x p) (e::es) [] pos) (LB sp [] E t):=by
 obtain⟨f,fd,a,b,c,d⟩:=D.ex;exact RI d (hr.mono hkj) hg a b c .nil hx ha hdb he hpl
end
noncomputable def isI(t T:String):Bool:=t==T || (t == "bool" && T == "int")
theorem NW{K:Frag}{t T:String}(ht:t∈["NoneType","bool","int","str","list","tuple"])(hT:T∈["int","bool","tuple","list","str"]):PySem.W.kitOne K (.type t) (.type T)=some (isI t T):=by
 simp only[List.mem_cons,List.not_mem_nil,or_false] at ht hT;rcases ht with rfl|rfl|rfl|rfl|rfl|rfl<;>rcases hT with rfl|rfl|rfl|rfl|rfl <;>
  kernel_rfl
theorem QJ{H:Hp}{v:V}{t:String}(h:LH H v=some t):t∈["NoneType","bool","int","str","list","tuple"]:=by
 cases v with
 | non=>cases h; simp
 | bl b=>cases h; simp
 | int i=>cases h; simp
 | str z=>cases h; simp
 | ref a =>
  unfold LH at h;dsimp only at h;split at h
  .cases h; simp
  .cases h; simp
  .cases h
 | _=>cases h
section
variable{X:Cx}
theorem OJ:Dh X (.builtin "isinstance") (fun xs H Q=>∃x t T,xs=[x,.ty T]/\LH H x=some t/\T∈["int","bool","tuple","list","str"]/\Q (.bl (isI t T)) H):=by
 intro pins s σ H xs us Q I r h;obtain⟨x,t,T,rfl,ht,hT,q⟩:=h;obtain⟨u,v,rfl,ru,rv⟩:=r.two;cases rv;exact NT I ru (Ss ht) (NW (QJ ht) hT) fun tk=>⟨.bl _,H,I.tok tk,rfl,q⟩
end
noncomputable def FE:D->String
 | .non => "NoneType"
 | .bl _ => "bool"
 | .int _ => "int"
 | .str _ => "str"
 | .lst _ => "list"
 | .tup _ => "tuple"
theorem RepA.typ{N:Addr->Prop}{H:Hp}{v:V}{d:D}(r:RepA N H v d):LH H v=some (FE d):=by
 cases r with
 | non=>rfl
 | bl b=>rfl
 | int i=>rfl
 | str x=>rfl
 | lst h=>simp only[LH,h,FE]
 | tup h=>simp only[LH,h,FE]
mutual
noncomputable def eqD:D->D->Bool
 | .non,.non=>true
 | .bl a,.bl b=>a==b
 | .bl a,.int b=>(if a then 1 else 0)==b
 | .int a,.bl b=>a==(if b then 1 else 0)
 | .int a,.int b=>a==b
 | .str a,.str b=>a==b
 | .lst xs,.lst ys=>D1 xs ys
 | .tup xs,.tup ys=>D1 xs ys
 | _,_=>false
noncomputable def D1:List D->List D->Bool
 | [],[]=>true
 | x::xs,y::ys=>eqD x y&&D1 xs ys
 | _,_=>false
end
theorem Ho(x y:List D):eqD (.lst x) (.lst y)=D1 x y:=rfl
theorem Gk(x y:List D):eqD (.tup x) (.tup y)=D1 x y:=rfl
theorem Gj(x y:Int):eqD (.int x) (.int y)=(x==y):=rfl
theorem Hq(x y:Str):eqD (.str x) (.str y)=(x==y):=rfl
theorem Jw(x y:Bool):eqD (.bl x) (.bl y)=(x==y):=rfl
theorem LS(x y:D)(xs ys:List D):D1 (x::xs) (y::ys)=(eqD x y&&D1 xs ys):=rfl
theorem Dj:∀{xs ys:List D},D1 xs ys=true->xs.length=ys.length
 | [],[],_=>rfl
 | [],_::_,h=>nomatch h
 | _::_,[],h=>nomatch h
 | x::xs,y::ys,h=>by
  rw[LS,Bool.and_eq_true] at h;simp[Dj h.2]
theorem Di:∀{xs ys:List D},xs.length=ys.length->D1 xs ys=(List.range xs.length).all fun i=>eqD (xs.getD i .non) (ys.getD i .non)
 | [],[],_=>rfl
 | x::xs,y::ys,h=>by
  have ih:=Di (xs:=xs) (ys:=ys) (by simpa using h);rw[LS,ih,List.length_cons,List.range_succ_eq_map,List.all_cons,List.all_map];rfl
mutual
theorem Ff:∀d,eqD d d=true
 | .non=>rfl
 | .bl a=>by rw[Jw]; exact beq_self_eq_true a
 | .int a=>by rw[Gj]; exact beq_self_eq_true a
 | .str a=>by rw[Hq]; exact beq_self_eq_true a
 | .lst xs=>GW xs
 | .tup xs=>GW xs
theorem GW:∀ds,D1 ds ds=true
 | []=>rfl
 | d::ds=>by rw[LS,Ff d,GW ds]; rfl
end
section
variable{P:Program}{w:World}{H:Hp}{s:Shared}{N N':Addr->Prop}
theorem AZ(hok:HOk P w H s.heap){a:Addr}{vs:List V}(h:H a=some (.lst vs)):∃its:List Value,Vals vs its/\s.heap.IsList a its.toArray:=by
 obtain⟨z,its,n,r,e⟩:=hok a _ h;exact⟨its,r,_,e,rfl,_,rfl⟩
theorem A9(hok:HOk P w H s.heap){a:Addr}{vs:List V}(h:H a=some (.tup vs)):∃its:List Value,Vals vs its/\s.heap.IsTuple a its.toArray:=by
 obtain⟨z,its,r,p⟩:=hok a _ h;exact⟨its,r,p⟩
theorem EA{A:Around}{vs vs':List V}{its its':List Value}{ds es:List D}(r:Vals vs its)(r':Vals vs' its')(hl:vs.length=ds.length)(hl':vs'.length=es.length)(f:∀(i:Nat) v d v' e u u',vs[i]? = some v->ds[i]? = some d->vs'[i]? = some v'->es[i]? = some e->RelV v u->RelV v' u'->SeqAt.EqAt A s u u' (eqD d e)):
  ∀j (h1:j<its.toArray.size) (h2:j<its'.toArray.size),SeqAt.EqAt A s its.toArray[j] its'.toArray[j] (eqD (ds.getD j .non) (es.getD j .non)):=fun j h1 h2=>by
 have e1:=r.length;have e2:=r'.length;have h1':j<its.length:=by simpa using h1
 have h2':j<its'.length:=by simpa using h2
 have b1:j<vs.length:=by lia
 have b2:j<vs'.length:=by lia
 have b3:j<ds.length:=by lia
 have b4:j<es.length:=by lia
 obtain⟨u,hu,ru⟩:=r.get (i:=j) (x:=vs[j]) (by simp);obtain⟨u',hu',ru'⟩:=r'.get (i:=j) (x:=vs'[j]) (by simp);have q:=f j _ (ds[j]) _ (es[j]) u u' (by simp) (by simp) (by simp) (by simp) ru ru';have g1:its.toArray[j]=u:=by
  have:its[j]? = some (its[j]):=by simp[h1']
  rw[this] at hu;simpa using hu
 have g2:its'.toArray[j]=u':=by
  have:its'[j]? = some (its'[j]):=by simp[h2']
  rw[this] at hu';simpa using hu'
 rw[g1,g2];have g3:ds.getD j .non=ds[j]:=by simp[List.getD,b3]
 have g4:es.getD j .non=es[j]:=by simp[List.getD,b4]
 rw[g3,g4];exact q
theorem lt0{a n c:Nat}(h:a+n<c):a<c:=by lia
theorem lt1{a n c:Nat}(h:a+(n+1)<c):a+1+n<c:=by lia
theorem HW(hok:HOk P w H s.heap){x:V}{d:D}(r:RepA N H x d):∀{A:Around} {n:Nat} {y:V} {e:D} {v u:Value},RepA N' H y e->RelV x v->RelV y u->Sh n d->A.units+n<cLine->SeqAt.EqAt A s v u (eqD d e):=by
 induction r with
 | non =>
  intro A n y e v u q rx ry _ hu;cases rx;cases q with
  | non=>cases ry; exact SeqAt.EqAt.same _
  | bl b=>cases ry; exact SeqAt.EqAt.none_bool b
  | int b=>obtain⟨t,rfl⟩:=ry; exact SeqAt.EqAt.none_int b t
  | str b=>obtain⟨t,rfl⟩:=ry; exact SeqAt.EqAt.none_str b t
  | lst h=>cases ry; obtain⟨its,_,hl⟩:=AZ hok h; exact SeqAt.EqAt.none_list hl (lt0 hu)
  | tup h=>cases ry; obtain⟨its,_,hl⟩:=A9 hok h; exact SeqAt.EqAt.none_tuple hl (lt0 hu)
 | bl a =>
  intro A n y e v u q rx ry _ hu;cases rx;cases q with
  | non=>cases ry; exact SeqAt.EqAt.bool_none a
  | bl b=>cases ry; exact SeqAt.EqAt.bool_bool a b
  | int b=>obtain⟨t,rfl⟩:=ry; exact SeqAt.EqAt.bool_int a b t
  | str b=>obtain⟨t,rfl⟩:=ry; exact SeqAt.EqAt.bool_str a b t
  | lst h=>cases ry; obtain⟨its,_,hl⟩:=AZ hok h; exact SeqAt.EqAt.bool_list a hl (lt0 hu)
  | tup h=>cases ry; obtain⟨its,_,hl⟩:=A9 hok h; exact SeqAt.EqAt.bool_tuple a hl (lt0 hu)
 | int a =>
  intro A n y e v u q rx ry _ hu;obtain⟨t',rfl⟩:=rx;cases q with
  | non=>cases ry; exact SeqAt.EqAt.int_none a t'
  | bl b=>cases ry; exact SeqAt.EqAt.int_bool a t' b
  | int b=>obtain⟨t,rfl⟩:=ry; exact SeqAt.EqAt.int_int a t' b t
  | str b=>obtain⟨t,rfl⟩:=ry; exact SeqAt.EqAt.int_str a t' b t
  | lst h=>cases ry; obtain⟨its,_,hl⟩:=AZ hok h; exact SeqAt.EqAt.int_list a t' hl (lt0 hu)
  | tup h=>cases ry; obtain⟨its,_,hl⟩:=A9 hok h; exact SeqAt.EqAt.int_tuple a t' hl (lt0 hu)
 | str a =>
  intro A n y e v u q rx ry _ hu;obtain⟨t',rfl⟩:=rx;cases q with
  | non=>cases ry; exact SeqAt.EqAt.str_none a t'
  | bl b=>cases ry; exact SeqAt.EqAt.str_bool a t' b
  | int b=>obtain⟨t,rfl⟩:=ry; exact SeqAt.EqAt.str_int a t' b t
  | str b=>obtain⟨t,rfl⟩:=ry; exact SeqAt.EqAt.str_str a t' b t
  | lst h=>cases ry; obtain⟨its,_,hl⟩:=AZ hok h; exact SeqAt.EqAt.str_list a t' hl (lt0 hu)
  | tup h=>cases ry; obtain⟨its,_,hl⟩:=A9 hok h; exact SeqAt.EqAt.str_tuple a t' hl (lt0 hu)
 | @lst a vs ds h hz hn hl hr ih =>
  intro A n y e v u q rx ry hs hu;cases rx;obtain⟨its,rv,hil⟩:=AZ hok h;cases hs with
  | @lst n _ hs =>
   cases q with
   | non=>cases ry; exact SeqAt.EqAt.list_none hil (lt0 hu)
   | bl b=>cases ry; exact SeqAt.EqAt.list_bool b hil (lt0 hu)
   | int b=>obtain⟨t,rfl⟩:=ry; exact SeqAt.EqAt.list_int b t hil (lt0 hu)
   | str b=>obtain⟨t,rfl⟩:=ry; exact SeqAt.EqAt.list_str b t hil (lt0 hu)
   | @lst a' vs' es h' hz' hn' hl' hr' =>
    cases ry;by_cases hab:a=a'
    .subst hab
     have e:=(RepA.lst h hz hn hl hr).inj (RepA.lst h' hz' hn' hl' hr');cases e;rw[Ff];exact SeqAt.EqAt.same _
    .obtain⟨its',rv',hil'⟩:=AZ hok h'
     have l1:=rv.length;have l2:=rv'.length;refine SeqAt.EqAt.of_refs hab ?_;rw[Ho];by_cases hlen:ds.length=es.length
     .rw[Di hlen,show ds.length=its.toArray.size by simp; lia]
      refine SeqAt.RcAt.lists hil hil' (by simp; lia) (lt0 hu) (EA rv rv' hl hl' fun i v d v' e u u' e1 e2 e3 e4 ru ru'=>?_);exact ih i v d e1 e2 (hr' i v' e e3 e4) ru ru' (hs d (List.mem_of_getElem? e2)) (lt1 hu)
     .have:D1 ds es=false:=by
       cases q:D1 ds es with
       | false=>rfl
       | true=>exact absurd (Dj q) hlen
      rw[this];exact SeqAt.RcAt.lists_lengths hil hil' (by simp; lia) (lt0 hu)
   | tup h' =>
    cases ry;obtain⟨its',_,hl'⟩:=A9 hok h';exact SeqAt.EqAt.list_tuple hil hl' (lt0 hu)
 | @tup a vs ds h hz hl hr ih =>
  intro A n y e v u q rx ry hs hu;cases rx;obtain⟨its,rv,hil⟩:=A9 hok h;cases hs with
  | @tup n _ hs =>
   cases q with
   | non=>cases ry; exact SeqAt.EqAt.tuple_none hil (lt0 hu)
   | bl b=>cases ry; exact SeqAt.EqAt.tuple_bool b hil (lt0 hu)
   | int b=>obtain⟨t,rfl⟩:=ry; exact SeqAt.EqAt.tuple_int b t hil (lt0 hu)
   | str b=>obtain⟨t,rfl⟩:=ry; exact SeqAt.EqAt.tuple_str b t hil (lt0 hu)
   | @tup a' vs' es h' hz' hl' hr' =>
    cases ry;by_cases hab:a=a'
    .subst hab
     have e:=(RepA.tup (N:=N) h hz hl hr).inj (RepA.tup h' hz' hl' hr');cases e;rw[Ff];exact SeqAt.EqAt.same _
    .obtain⟨its',rv',hil'⟩:=A9 hok h'
     have l1:=rv.length;have l2:=rv'.length;refine SeqAt.EqAt.of_refs hab ?_;have q:=SeqAt.RcAt.tuples (A:=A) hil hil' (lt0 hu) (EA rv rv' hl hl' fun i v d v' e u u' e1 e2 e3 e4 ru ru'=>ih i v d e1 e2 (hr' i v' e e3 e4) ru ru' (hs d (List.mem_of_getElem? e2)) (lt1 hu));rw[Gk];by_cases hlen:ds.length=es.length
     .have e1:(its.toArray.size==its'.toArray.size)=true:=by simp; lia
      have e2:min its.toArray.size its'.toArray.size=ds.length:=by simp; lia
      rw[e1,e2,Bool.and_true,<- Di hlen] at q;exact q
     .have e1:(its.toArray.size==its'.toArray.size)=false:=by simp; lia
      have e3:D1 ds es=false:=by
       cases q:D1 ds es with
       | false=>rfl
       | true=>exact absurd (Dj q) hlen
      rw[e1,Bool.and_false] at q;rw[e3];exact q
   | lst h' =>
    cases ry;obtain⟨its',_,hl'⟩:=AZ hok h';exact SeqAt.EqAt.tuple_list hil hl' (lt0 hu)
theorem UP(hok:HOk P w H s.heap){A:Around}{n:Nat}{x y:V}{d e:D}{v u:Value}(r:RepA N H x d)(q:RepA N' H y e)(rx:RelV x v)(ry:RelV y u)(hs:Sh n d)(hu:A.units+n<cLine):SeqAt.RcAt A s v u (eqD d e):=by
 cases r with
 | non =>
  cases rx;cases q with
  | non=>cases ry; exact SeqAt.RcAt.none_none
  | bl b=>cases ry; exact SeqAt.RcAt.none_bool b
  | int b=>obtain⟨t,rfl⟩:=ry; exact SeqAt.RcAt.none_int b t
  | str b=>obtain⟨t,rfl⟩:=ry; exact SeqAt.RcAt.none_str b t
  | lst h=>cases ry; obtain⟨its,_,hl⟩:=AZ hok h; exact SeqAt.RcAt.none_list hl (lt0 hu)
  | tup h=>cases ry; obtain⟨its,_,hl⟩:=A9 hok h; exact SeqAt.RcAt.none_tuple hl (lt0 hu)
 | bl a =>
  cases rx;cases q with
  | non=>cases ry; exact SeqAt.RcAt.bool_none a
  | bl b=>cases ry; exact SeqAt.RcAt.bool_bool a b
  | int b=>obtain⟨t,rfl⟩:=ry; exact SeqAt.RcAt.bool_int a b t
  | str b=>obtain⟨t,rfl⟩:=ry; exact SeqAt.RcAt.bool_str a b t
  | lst h=>cases ry; obtain⟨its,_,hl⟩:=AZ hok h; exact SeqAt.RcAt.bool_list a hl (lt0 hu)
  | tup h=>cases ry; obtain⟨its,_,hl⟩:=A9 hok h; exact SeqAt.RcAt.bool_tuple a hl (lt0 hu)
 | int a =>
  obtain⟨t',rfl⟩:=rx;cases q with
  | non=>cases ry; exact SeqAt.RcAt.int_none a t'
  | bl b=>cases ry; exact SeqAt.RcAt.int_bool a t' b
  | int b=>obtain⟨t,rfl⟩:=ry; exact SeqAt.RcAt.int_int a t' b t
  | str b=>obtain⟨t,rfl⟩:=ry; exact SeqAt.RcAt.int_str a t' b t
  | lst h=>cases ry; obtain⟨its,_,hl⟩:=AZ hok h; exact SeqAt.RcAt.int_list a t' hl (lt0 hu)
  | tup h=>cases ry; obtain⟨its,_,hl⟩:=A9 hok h; exact SeqAt.RcAt.int_tuple a t' hl (lt0 hu)
 | str a =>
  obtain⟨t',rfl⟩:=rx;cases q with
  | non=>cases ry; exact SeqAt.RcAt.str_none a t'
  | bl b=>cases ry; exact SeqAt.RcAt.str_bool a t' b
  | int b=>obtain⟨t,rfl⟩:=ry; exact SeqAt.RcAt.str_int a t' b t
  | str b=>obtain⟨t,rfl⟩:=ry; exact SeqAt.RcAt.str_str a t' b t
  | lst h=>cases ry; obtain⟨its,_,hl⟩:=AZ hok h; exact SeqAt.RcAt.str_list a t' hl (lt0 hu)
  | tup h=>cases ry; obtain⟨its,_,hl⟩:=A9 hok h; exact SeqAt.RcAt.str_tuple a t' hl (lt0 hu)
 | @lst a vs ds h hz hn hl hr =>
  cases rx;obtain⟨its,rv,hil⟩:=AZ hok h;cases hs with
  | @lst n _ hs =>
   cases q with
   | non=>cases ry; exact SeqAt.RcAt.list_none hil (lt0 hu)
   | bl b=>cases ry; exact SeqAt.RcAt.list_bool b hil (lt0 hu)
   | int b=>obtain⟨t,rfl⟩:=ry; exact SeqAt.RcAt.list_int b t hil (lt0 hu)
   | str b=>obtain⟨t,rfl⟩:=ry; exact SeqAt.RcAt.list_str b t hil (lt0 hu)
   | @lst a' vs' es h' hz' hn' hl' hr' =>
    cases ry;obtain⟨its',rv',hil'⟩:=AZ hok h';have l1:=rv.length;have l2:=rv'.length;rw[Ho];by_cases hlen:ds.length=es.length
    .rw[Di hlen,show ds.length=its.toArray.size by simp; lia]
     refine SeqAt.RcAt.lists hil hil' (by simp; lia) (lt0 hu) (EA rv rv' hl hl' fun i v d v' e u u' e1 e2 e3 e4 ru ru'=>?_);exact HW hok (hr i v d e1 e2) (hr' i v' e e3 e4) ru ru' (hs d (List.mem_of_getElem? e2)) (lt1 hu)
    .have:D1 ds es=false:=by
      cases q:D1 ds es with
      | false=>rfl
      | true=>exact absurd (Dj q) hlen
     rw[this];exact SeqAt.RcAt.lists_lengths hil hil' (by simp; lia) (lt0 hu)
   | tup h' =>
    cases ry;obtain⟨its',_,hl'⟩:=A9 hok h';exact SeqAt.RcAt.list_tuple hil hl' (lt0 hu)
 | @tup a vs ds h hz hl hr =>
  cases rx;obtain⟨its,rv,hil⟩:=A9 hok h;cases hs with
  | @tup n _ hs =>
   cases q with
   | non=>cases ry; exact SeqAt.RcAt.tuple_none hil (lt0 hu)
   | bl b=>cases ry; exact SeqAt.RcAt.tuple_bool b hil (lt0 hu)
   | int b=>obtain⟨t,rfl⟩:=ry; exact SeqAt.RcAt.tuple_int b t hil (lt0 hu)
   | str b=>obtain⟨t,rfl⟩:=ry; exact SeqAt.RcAt.tuple_str b t hil (lt0 hu)
   | @tup a' vs' es h' hz' hl' hr' =>
    cases ry;obtain⟨its',rv',hil'⟩:=A9 hok h';have l1:=rv.length;have l2:=rv'.length;have q:=SeqAt.RcAt.tuples (A:=A) hil hil' (lt0 hu) (EA rv rv' hl hl' fun i v d v' e u u' e1 e2 e3 e4 ru ru'=>HW hok (hr i v d e1 e2) (hr' i v' e e3 e4) ru ru' (hs d (List.mem_of_getElem? e2)) (lt1 hu))
    rw[Gk];by_cases hlen:ds.length=es.length
    .have e1:(its.toArray.size==its'.toArray.size)=true:=by simp; lia
     have e2:min its.toArray.size its'.toArray.size=ds.length:=by simp; lia
     rw[e1,e2,Bool.and_true,<- Di hlen] at q;exact q
    .have e1:(its.toArray.size==its'.toArray.size)=false:=by simp; lia
     have e3:D1 ds es=false:=by
      cases q:D1 ds es with
      | false=>rfl
      | true=>exact absurd (Dj q) hlen
     rw[e1,Bool.and_false] at q;rw[e3];exact q
   | lst h' =>
    cases ry;obtain⟨its',_,hl'⟩:=AZ hok h';exact SeqAt.RcAt.tuple_list hil hl' (lt0 hu)
end
section
variable{X:Cx}{k:Nat}
theorem F9(hr:Room k X.A):OpR X (compareOp .Eq) (fun x y H Q=>∃d e,Rep H x d/\Rep H y e/\Sh 16 d/\Q (.bl (eqD d e)) H):=by
 intro pins s σ H x y v u Q I rx ry h;obtain⟨d,e,r1,r2,hs,q⟩:=h;exact EqBoolInt.of_rc (UP I.hok r1 r2 rx ry hs (by have:=hr.units; lia)) ⟨.bl _,H,I,rfl,q⟩
end
structure FlyAt (P:Program) (w:World) (outer:List Env) (H:Hp) (s:Shared) (a C:Addr) (a0:Value) (B:Heap) (H':Hp) (s':Shared):Prop where
 os:s'.os=s.os
 bare:AllBare s'.gens
 fly:Heap.FlyingW B outer a (.ref C) a0 s'.heap
 keep:∀b o,s.heap.get? b=some o->H b=none->b∉frs outer->B.get? b=some o
 slot:∀b o,s.heap.get? b=some o->H b=none->b∈frs outer->∃sl,s'.heap.get? b=some { o with slots:=sl }
 free:∀b o,s.heap.get? b=some o->H b=none->H' b=none
 there:∀b o,s.heap.get? b=some o->b∉frs outer->∃o',B.get? b=some o'
 tups:∀b xs,H b=some (.tup xs)->H' b=some (.tup xs)
 frzs:∀b o u,H b=some (.frz o u)->H' b=some (.frz o u)
 tbls:∀b ps,H b=some (.tbl ps)->∃more,H' b=some (.tbl (ps++more))
 hok:HOk P w H' B
 pl:AW s'.heap a
noncomputable def Fly(P:Program)(w:World):CXT:=fun outer H s E e s'=>∃(a C:Addr) (a0:Value) (B:Heap) (H':Hp),e=.ref a/\FlyAt P w outer H s a C a0 B H' s'/\E (.ref C) none H'
theorem DS{h base:Heap}{l:List Env}(F:h.FunFrames base l){b:Addr}(hb:b∈frs l){o:Obj}(e:h.get? b=some o):∀vs,o.data≠.fields vs:=by
 obtain⟨_,o',e',d⟩:=F.mem hb;rw[e] at e'; cases e';exact d
theorem K0{env:Env}{l:List Env}{L:Addr}(h:env.frame=some L):frs (env::l)=L::frs l:=by
 unfold frs;rw[List.filterMap_cons,h]
section
variable{P:Program}{w:World}{K:Frag}{mg:Str->Option Value}{base:Heap}{N:List Str}{qual:Str}{scope:Scope}{f:Addr}{cd:Value}{A:Around}{outer:List Env}{s:Shared}{H:Hp}{E E':XK}
theorem Ln(hE:∀c d H',E' c d H'->E c d H'):Passes (Fly P w) (AS (Fly P w) P w K mg base N qual scope f cd A outer s H E) E':=by
 intro pins σ H1 s1 e s' I fl;obtain⟨a,C,a0,B,H',rfl,F,q⟩:=fl;have lt:∀{b:Addr} {o:Obj},s.heap.get? b=some o->b≠s.heap.objs.size:=fun e=>Nat.ne_of_lt (Heap.lt_size e);have hfs:frs (envOfC qual scope s.heap.objs.size f cd::outer)=s.heap.objs.size::frs outer:=K0 rfl;have nex:∀b:Addr,b∉(AS (Fly P w) P w K mg base N qual scope f cd A outer s H E).ex:=fun b z=>absurd (show b∈([]:List Addr) from z) (by simp);have u:=I.base;show wpAny (model P w) (A.deeper (envOfC qual scope s.heap.objs.size f cd)) (leaving (envOfC qual scope s.heap.objs.size f cd) (.ref a)) _ _ s';refine Ke (L:=s.heap.objs.size) I.ok.frames rfl F.fly F.pl fun h' fl' sm pl=>?_;refine⟨a,C,a0,B,H',rfl,⟨F.os.trans I.os,F.bare,fl',fun b o e n hb=>?_,fun b o e n hb=>?_,fun b o e n=>?_,fun b o e hb=>?_,fun b xs e=>F.tups b xs (u.tups b xs e),fun b o v e=>F.frzs b o v (u.frzs b o v e),fun b ps e=>?_,F.hok,pl⟩,hE _ _ _ q⟩
 .refine F.keep b o (u.keep b o e n hb (nex b)) (u.free b o e n (nex b)) ?_
  show b∉frs (envOfC qual scope s.heap.objs.size f cd::outer);rw[hfs];exact fun z=>(List.mem_cons.mp z).elim (lt e) hb
 .obtain⟨sl,e1⟩:=u.slot b o e n hb (nex b)
  obtain⟨sl',e2⟩:=F.slot b _ e1 (u.free b o e n (nex b)) (by show b∈frs (envOfC qual scope s.heap.objs.size f cd::outer); rw[hfs]; exact List.mem_cons_of_mem _ hb);obtain⟨sl3,e3⟩:=sm b { o with slots:=sl' } e2 (show ∀vs,o.data≠.fields vs from DS I.ok.funs hb e);exact⟨sl3,e3⟩
 .obtain⟨o',e1⟩:=u.there b o e (nex b)
  exact F.free b o' e1 (u.free b o e n (nex b))
 .obtain⟨o',e1⟩:=u.there b o e (nex b)
  refine F.there b o' e1 ?_;show b∉frs (envOfC qual scope s.heap.objs.size f cd::outer);rw[hfs];exact fun z=>(List.mem_cons.mp z).elim (lt e) hb
 .obtain⟨m1,e1⟩:=u.tbls b ps e
  obtain⟨m2,e2⟩:=F.tbls b _ e1;exact⟨m1++m2,by rw[e2,Array.append_assoc]⟩
theorem Mj{pins:List (Addr×Obj)}{σ:St}{H1:Hp}{s1:Shared}{h2:Heap}{e C:Addr}{args:List Value}(I:Inv (AS (Fly P w) P w K mg base N qual scope f cd A outer s H E) pins σ H1 s1)(hm:Heap.MadeExcOf s1.heap h2 e (.ref C) args)(q:E (.ref C) none H1):(AS (Fly P w) P w K mg base N qual scope f cd A outer s H E).xe (.ref e) { s1 with heap:=h2 }:=by
 have lt:∀{b:Addr} {o:Obj},s.heap.get? b=some o->b≠s.heap.objs.size:=fun e=>Nat.ne_of_lt (Heap.lt_size e);have hfs:frs (envOfC qual scope s.heap.objs.size f cd::outer)=s.heap.objs.size::frs outer:=K0 rfl;have nex:∀b:Addr,b∉(AS (Fly P w) P w K mg base N qual scope f cd A outer s H E).ex:=fun b z=>absurd (show b∈([]:List Addr) from z) (by simp);have u:=I.base;have hB:∀{b:Addr} {o:Obj},s1.heap.get? b=some o->b∉frs (envOfC qual scope s.heap.objs.size f cd::outer)->(PySem.W.hideAll s1.heap (frs (envOfC qual scope s.heap.objs.size f cd::outer))).get? b=some o:=fun e n=>PySem.W.hideAll_get _ e n;show wpAny (model P w) (A.deeper (envOfC qual scope s.heap.objs.size f cd)) (leaving (envOfC qual scope s.heap.objs.size f cd) (.ref e)) _ _ _;refine K8 (L:=s.heap.objs.size) (base:=PySem.W.hideAll s1.heap (frs (envOfC qual scope s.heap.objs.size f cd::outer))) (h:=s1.heap) (s:={ s1 with heap:=h2 }) I.ok.frames rfl (fun b o e=>PySem.W.of_hideAll _ e)
  (PySem.W.funFrames_hide I.stack fun env he b hb=>List.mem_filterMap.mpr ⟨env,he,hb⟩) hm fun h' t fl' sm pl=>?_
 refine⟨e,C,.ref t,_,H1,rfl,⟨I.os,I.bare,fl',fun b o e n hb=>?_,fun b o e n hb=>?_,fun b o e n=>u.free b o e n (nex b),fun b o e hb=>?_,u.tups,u.frzs,u.tbls,fun b o e=>?_,pl⟩,q⟩
 .refine hB (u.keep b o e n hb (nex b)) ?_
  rw[hfs];exact fun z=>(List.mem_cons.mp z).elim (lt e) hb
 .obtain⟨sl,e1⟩:=u.slot b o e n hb (nex b)
  obtain⟨sl3,e3⟩:=sm b { o with slots:=sl } (hm.keeps b { o with slots:=sl } e1) (show ∀vs,o.data≠.fields vs from DS I.ok.funs hb e);exact⟨sl3,e3⟩
 .obtain⟨o',e1⟩:=u.there b o e (nex b)
  exact⟨o',hB e1 (by rw[hfs]; exact fun z=>(List.mem_cons.mp z).elim (lt e) hb)⟩
 .refine(I.hok b o e).stay (fun c w' hc q=>hB q fun z=>?_) (fun _ q=>q) fun _ _ q=>q
  have n:H1 c=none:=I.stkFree c z;rcases hc with rfl|hc
  .rw[n] at e; cases e
  .rw[n] at hc; cases hc
end
noncomputable def QM:List Value:=[.type "ValueError",.type "Exception",.type "BaseException",.type "object"]
theorem M9{K:Frag}{h:Heap}{C:Addr}{bmB:List Value}{newId:String}(X:K.In h)(q:PySem.W.excIn K C bmB newId=true):
  ∃bm N nm qn bs hdct sn sub ab col dd k0 k1 k2 k3 k5 mN,h.get? C=some (excClassObj nm qn C N bs bm hdct sn sub ab col dd k0 k1 k2 k3 k5 newId)/\h.Ns N mN/\mN "__init__" = none/\OwnTail h bmB bm:=by
 unfold PySem.W.excIn at q;split at q
 .rename_i dd cd sl ho
  split at q
  .rename_i C' bm k0 k1 k2 k3 n k5 hm hs
   simp only[Bool.and_eq_true,beq_iff_eq,Bool.not_eq_true'] at q;obtain⟨⟨⟨⟨⟨rfl,rfl⟩,hdel⟩,ht⟩,hok⟩,hni⟩:=q;obtain⟨nm,bs,mro,ns,qn,hd,sn,sub,ab,col,del⟩:=cd;dsimp only at hm hdel hok hni;subst hm hdel;have hsl:sl = #[k0,k1,k2,k3,some (.builtin n),k5]:=by
    obtain⟨l⟩:=sl;simp only at hs;rw[hs]
   subst hsl;exact⟨bm,ns,nm,qn,bs,hd,sn,sub,ab,col,dd,k0,k1,k2,k3,k5,_,X _ _ ho,.of_isNs (PySem.W.isNs_of_in X hok),PySem.W.nsMap_none_of_in X hok hni,PySem.W.tail_of_in X ht⟩
  .cases q
 .cases q
structure Exc (K:Frag) (mg:Str->Option Value) (x:Str) (C:Addr):Prop where
 at_:mg x=some (.ref C)
 own:PySem.W.excIn K C QM "ValueError.__new__" = true
section
variable{P:Program}{w:World}{K:Frag}{mg:Str->Option Value}{base:Heap}{N:List Str}{qual:Str}{scope:Scope}{f:Addr}{cd:Value}{A:Around}{outer:List Env}{s:Shared}{H:Hp}{E:XK}
noncomputable def MV(E:XK)(C:Addr)(ta:TA):TS:=fun _ σ H=>ta σ H fun vs H1=>vs.length<=sizeLine/\E (.ref C) none H1
theorem PZ{x:Str}{C:Addr}{np cpos pos:Pos}{e:Expr}{es:List Expr}{ta:TA}(X:Exc K mg x C)(hh:A.handled=none)(ha:PA (AS (Fly P w) P w K mg base N qual scope f cd A outer s H E) (e::es) ta)(hg:Gl (AS (Fly P w) P w K mg base N qual scope f cd A outer s H E) x:=by rfl)(hdb:(x==("__debug__" : Str))=false:=by decide +kernel)(he:starEach (e::es) (AS (Fly P w) P w K mg base N qual scope f cd A outer s H E).env=(false,eval e (AS (Fly P w) P w K mg base N qual scope f cd A outer s H E).env)::starEach es (AS (Fly P w) P w K mg base N qual scope f cd A outer s H E).env:=by rfl)(hpl:(backTo cpos (starEach es (AS (Fly P w) P w K mg base N qual scope f cd A outer s H E).env)).any (·.1)=false:=by rfl):
  PS (AS (Fly P w) P w K mg base N qual scope f cd A outer s H E) (.Raise (some (.Call (.Name x np) (e::es) [] cpos)) none pos) (MV E C ta):=by
 intro pins s1 σ H1 D I h;obtain⟨bm,Nn,nm,qn,bs,hdct,sn,sub,ab,col,dd,k0,k1,k2,k3,k5,mN,hC,hN,hni,T⟩:=M9 I.mod.kin X.own;refine wpAny_Raise_call_subU (C:=C) (nm:=nm) (q:=qn) (N:=Nn) (bs:=bs) (bm:=bm) (hdct:=hdct) (sn:=sn) (sub:=sub) (ab:=ab) (col:=col) (dd:=dd) (k0:=k0) (k1:=k1) (k2:=k2) (k3:=k3) (k5:=k5)
  PySem.F.excBase_ValueError dK PySem.F.excBase_ValueError (mN:=mN) (T.hasType PySem.F.excBase_ValueError.hasBase) (show A.handled=none from hh)
  (by rw[he]; show(false || (backTo cpos (starEach es (AS (Fly P w) P w K mg base N qual scope f cd A outer s H E).env)).any (·.1))=false; rw[hpl]; rfl) hni (HG I hg X.at_ ⟨rfl,?_⟩ hdb)
 have hA:=ha cpos pins s1 σ H1 _ I h;rw[he] at hA |-;refine Calls.evalArgs_plain (thn hA fun us s2 ⟨vs,H2,I2,r2,hz,q2⟩=>⟨rfl,by rw[<- r2.length]; exact hz,I2.bk _ _ hC,hN.keeps I2.bk,T.keeps I2.bk,fun h' e' hm=>?_⟩);exact Mj I2 hm q2
end
structure Blt (mg:Str->Option Value) (K:Frag):Prop where
 isinstance:mg "isinstance" = none
 len:mg "len" = none
 all:mg "all" = none
 any:mg "any" = none
 range:mg "range" = none
 list:mg "list" = none
 int:mg "int" = none
 bool:mg "bool" = none
 tuple:mg "tuple" = none
 str:mg "str" = none
 abs:mg "abs" = none
 max:mg "max" = none
 min:mg "min" = none
 dict:mg "dict" = none
section
variable{X:Cx}{x:Str}{p pos:Pos}{e:Expr}{es:List Expr}{t:TA}{id T:String}{r:List V->Hp->VK->Prop}
theorem Ob(hc:Dh X (.builtin id) r)(hm:X.mg x=none)(hv:bootBuiltins x=some (.builtin id))(hn:x ≠ "__name__")(hdb:(x==("__debug__" : Str))=false)(hg:Gl X x)(he:starEach (e::es) X.env=(false,eval e X.env)::starEach es X.env)(hpl:(backTo pos (starEach es X.env)).any (·.1)=false)(ha:PA X (e::es) t):PE X (.Call (.Name x p) (e::es) [] pos) (tCB r t):=Iv hc hg hm hv ha hn hdb he hpl
theorem RS{t:TE}(he:∀whole,isTrue e X.env whole=(do let v <- whole; standAt e.pos; holding [v] (truthy v)))(h:PE X e t):PT X e (tB t):=P9 h he
end
section
variable{X:Cx}{p pos:Pos}{e:Expr}{es:List Expr}{t:TA}
noncomputable def isInt:D->Bool
 | .int _=>true
 | .bl _=>true
 | .non | .str _ | .lst _ | .tup _=>false
noncomputable def isBool:D->Bool
 | .bl _=>true
 | .non | .int _ | .str _ | .lst _ | .tup _=>false
noncomputable def Hr:D->Bool
 | .lst _=>true
 | .non | .bl _ | .int _ | .str _ | .tup _=>false
noncomputable def isTup:D->Bool
 | .tup _=>true
 | .non | .bl _ | .int _ | .str _ | .lst _=>false
noncomputable def isStr:D->Bool
 | .str _=>true
 | .non | .bl _ | .int _ | .lst _ | .tup _=>false
noncomputable def rIs(T:String)(f:D->Bool):List V->Hp->VK->Prop:=fun xs H Q=>∃x d,xs=[x,.ty T]/\Rep H x d/\Q (.bl (f d)) H
theorem Q2{T:String}{f:D->Bool}(hf:∀d,isI (FE d) T=f d)(hT:T∈["int","bool","tuple","list","str"]):Dh X (.builtin "isinstance") (rIs T f):=by
 intro pins s σ H xs us Q I r h;obtain⟨x,d,rfl,rp,q⟩:=h;exact OJ pins s σ H _ us Q I r ⟨x,FE d,T,rfl,rp.typ,hT,by rw[hf]; exact q⟩
theorem Q9:∀d,isI (FE d) "int" = isInt d:=fun d=>by cases d<;>(simp only[FE,isInt]; decide +kernel)
theorem O0:∀d,isI (FE d) "bool" = isBool d:=fun d=>by cases d<;>(simp only[FE,isBool]; decide +kernel)
theorem O1:∀d,isI (FE d) "list" = Hr d:=fun d=>by cases d<;>(simp only[FE,Hr]; decide +kernel)
theorem NQ:∀d,isI (FE d) "tuple" = isTup d:=fun d=>by cases d<;>(simp only[FE,isTup]; decide +kernel)
theorem Ra:∀d,isI (FE d) "str" = isStr d:=fun d=>by cases d<;>(simp only[FE,isStr]; decide +kernel)
theorem Iy{a:Expr}{ta:TE}{q:Pos}{x:Str}{T:String}{f:D->Bool}(hf:∀d,isI (FE d) T=f d)(hT:T∈["int","bool","tuple","list","str"])(hn:PE X (.Name x q) (tC (.ty T)))(hg:Gl X "isinstance"){K:Frag}(B:Blt X.mg K)(he:starEach [a,.Name x q] X.env=[(false,eval a X.env),(false,eval (.Name x q) X.env)])(he2:starEach [.Name x q] X.env=[(false,eval (.Name x q) X.env)])(ha:PE X a ta):
  PE X (.Call (.Name "isinstance" p) [a,.Name x q] [] pos) (tCB (rIs T f) (B7 ta (B7 (tC (.ty T)) GN))):=
 Iv (Q2 hf hT) hg B.isinstance PyProof.Rows.Boot.«isinstance» (De ha (De hn Fq he2) (he.trans (by rw[he2]))) dK dK (he.trans (by rw[he2])) (by rw[he2]; rfl)
theorem Ut{a:Expr}{ta:TE}{q:Pos}(hg:Gl X "isinstance")(hg2:Gl X "int"){K:Frag}(B:Blt X.mg K)(he:starEach [a,.Name "int" q] X.env=[(false,eval a X.env),(false,eval (.Name "int" q) X.env)])(he2:starEach [.Name "int" q] X.env=[(false,eval (.Name "int" q) X.env)])(ha:PE X a ta):
  PE X (.Call (.Name "isinstance" p) [a,.Name "int" q] [] pos) (tCB (rIs "int" isInt) (B7 ta (B7 (tC (.ty "int")) GN))):=Iy Q9 (by decide) (Fz hg2 B.int PyProof.Rows.Boot.«int» rfl dK dK) hg B he he2 ha
theorem Us{a:Expr}{ta:TE}{q:Pos}(hg:Gl X "isinstance")(hg2:Gl X "bool"){K:Frag}(B:Blt X.mg K)(he:starEach [a,.Name "bool" q] X.env=[(false,eval a X.env),(false,eval (.Name "bool" q) X.env)])(he2:starEach [.Name "bool" q] X.env=[(false,eval (.Name "bool" q) X.env)])(ha:PE X a ta):
  PE X (.Call (.Name "isinstance" p) [a,.Name "bool" q] [] pos) (tCB (rIs "bool" isBool) (B7 ta (B7 (tC (.ty "bool")) GN))):=Iy O0 (by decide) (Fz hg2 B.bool PyProof.Rows.Boot.«bool» rfl dK dK) hg B he he2 ha
theorem Uu{a:Expr}{ta:TE}{q:Pos}(hg:Gl X "isinstance")(hg2:Gl X "list"){K:Frag}(B:Blt X.mg K)(he:starEach [a,.Name "list" q] X.env=[(false,eval a X.env),(false,eval (.Name "list" q) X.env)])(he2:starEach [.Name "list" q] X.env=[(false,eval (.Name "list" q) X.env)])(ha:PE X a ta):
  PE X (.Call (.Name "isinstance" p) [a,.Name "list" q] [] pos) (tCB (rIs "list" Hr) (B7 ta (B7 (tC (.ty "list")) GN))):=Iy O1 (by decide) (Fz hg2 B.list PyProof.Rows.Boot.«list» rfl dK dK) hg B he he2 ha
theorem Uv{a:Expr}{ta:TE}{q:Pos}(hg:Gl X "isinstance")(hg2:Gl X "tuple"){K:Frag}(B:Blt X.mg K)(he:starEach [a,.Name "tuple" q] X.env=[(false,eval a X.env),(false,eval (.Name "tuple" q) X.env)])(he2:starEach [.Name "tuple" q] X.env=[(false,eval (.Name "tuple" q) X.env)])(ha:PE X a ta):
  PE X (.Call (.Name "isinstance" p) [a,.Name "tuple" q] [] pos) (tCB (rIs "tuple" isTup) (B7 ta (B7 (tC (.ty "tuple")) GN))):=Iy NQ (by decide) (Fz hg2 B.tuple PyProof.Rows.Boot.«tuple» rfl dK dK) hg B he he2 ha
theorem Uw{a:Expr}{ta:TE}{q:Pos}(hg:Gl X "isinstance")(hg2:Gl X "str"){K:Frag}(B:Blt X.mg K)(he:starEach [a,.Name "str" q] X.env=[(false,eval a X.env),(false,eval (.Name "str" q) X.env)])(he2:starEach [.Name "str" q] X.env=[(false,eval (.Name "str" q) X.env)])(ha:PE X a ta):
  PE X (.Call (.Name "isinstance" p) [a,.Name "str" q] [] pos) (tCB (rIs "str" isStr) (B7 ta (B7 (tC (.ty "str")) GN))):=Iy Ra (by decide) (Fz hg2 B.str PyProof.Rows.Boot.«str» rfl dK dK) hg B he he2 ha
noncomputable def WK(K:Frag):List V->Hp->VK->Prop:=fun xs H Q=>∃p bs,xs=[.ref p]/\SqL K H p (GR bs)/\Q (.bl (bs.all id)) H
noncomputable def V6(K:Frag):List V->Hp->VK->Prop:=fun xs H Q=>(∃p ys,xs=[.ref p]/\(SqL K H p ys\/SqT K H p ys)/\Q (.int ys.length) H)\/∃z,xs=[.str z]/\z.length<=sizeLine/\Q (.int z.length) H
end
section
variable{X:Cx}{a b c e:Expr}{ta tb tc:TE}{p pos:Pos}{es:List Expr}{t:TA}{x:Str}
theorem N8:OpR X (compareOp .LtE) (fun x y H Q=>∃i j,x=.str i/\y=.str j/\Q (.bl (!decide (j.cps.toList<i.cps.toList))) H):=by
 intro pins s σ H x y v u Q I rx ry h;obtain⟨i,j,rfl,rfl,q⟩:=h;obtain⟨t,rfl⟩:=rx;obtain⟨t',rfl⟩:=ry;exact PySem.P.le_str (LX I q rfl)
noncomputable def WL:R2:=fun x y H Q=>∃d e,Rep H x d/\Rep H y e/\Sh 16 d/\Q (.bl (eqD d e)) H
noncomputable def SH:R2:=fun x y H Q=>(∃i j,x=.int i/\y=.int j/\Q (.bl (decide (i<j))) H)\/∃i j,x=.str i/\y=.str j/\Q (.bl (decide (i.cps.toList<j.cps.toList))) H
noncomputable def SG:R2:=fun x y H Q=>(∃i j,x=.int i/\y=.int j/\Q (.bl (decide (i<=j))) H)\/∃i j,x=.str i/\y=.str j/\Q (.bl (!decide (j.cps.toList<i.cps.toList))) H
theorem GB:OpR X (compareOp .Lt) SH:=VS.or N9
theorem DA:OpR X (compareOp .LtE) SG:=VR.or N8
noncomputable def PEc(X:Cx)(own:List Str)(scope:Scope)(e:Expr)(t:TE):Prop:=∀C s H fp pins,PE (cxC X own scope C s H fp pins) e t
noncomputable def PTc(X:Cx)(own:List Str)(scope:Scope)(ifs:List Expr)(t:TT):Prop:=∀C s H fp pins,PTs (cxC X own scope C s H fp pins) ifs t
structure Names (N:List Str):Prop where
 nd:N.Nodup
theorem Ux{scope:Scope}{iter elt:Expr}{ifs:List Expr}{px:Pos}{wi:TI}{tt:TT}{te:TE}(hok:BR [x] X.N scope X.env.scope=true)(hc:X.calm=true){NN:List Str}(hn:Names NN)(hX:X.N=NN)(hx:scope.names.lookup x=some .local)(hs:∀z,foldedSetIterable iter X.env z=pure z)(hi:PI X (.Name x px) iter wi)(ht:PTc X [x] scope ifs tt)(he:PEc X [x] scope elt te):
  PE X (.ListComp elt [⟨.Name x px,iter,ifs,0⟩] scope pos) (tLc wi QK tt te):=by
 have hnx:∀y∈X.N,x≠y:=fun y hy z=>by
  simp only[BR,Bool.and_eq_true,List.all_eq_true] at hok;have:=hok.2 x (by simp);rw[z] at this;simp[hy] at this
 exact VX hc hok hi (fun C s H fp pins=>IA rfl (List.nodup_cons.mpr ⟨fun z=>hnx x z rfl,by rw[hX]; exact hn.nd⟩) (lookup_relabel_local hx)) ht he hs
structure GInt (mg:Str->Option Value) (x:Str) (n:Int):Prop where
 at_:∃t,mg x=some (.int n t)
theorem RK{mg:Str->Option Value}{n:Int}(G:GInt mg x n)(hm:X.mg=mg)(hg:Gl X x)(hd:(x==("__debug__" : Str))=false):PE X (.Name x pos) (tC (.int n)):=by
 subst hm;obtain⟨t,e⟩:=G.at_;exact GF hg e ⟨t,rfl⟩ hd
end
section
variable{P:Program}{w:World}{K:Frag}{mg:Str->Option Value}{base:Heap}
theorem Fun.okF{x qual:Str}{st:Stmt}{f:Addr}{fd:FuncData}{N ps:List Str}{k:Nat}{sp:Sp}(F:Fun K x qual st f fd)(S:FnScope N ps (Ar st))(len:∀vs H Q E,sp vs H Q E->vs.length=ps.length)(hbody:∀(cdv:Value) (A:Around) (outer:List Env) (s:Shared) (H:Hp) (vs:List V) (Q:VK) (E:XK),Room k (A.deeper (envOfC qual (Ar st) s.heap.objs.size f cdv))->sp vs H Q E ->
   ∃t,PSs (AS (Fly P w) P w K mg base N qual (Ar st) f cdv A outer s H E) (BJ st) t/\t { nx:=fun _ H'=>Q .non H',rt:=Q } (start N vs) H):FnOk P w K mg base (Fly P w) (k+1) f fd ps sp:=by
 obtain⟨oc,od,kV,doc,pm,an,cdv,ct,osl,rfl,lk,hcd⟩:=F.ex;exact OQ lk hcd S len fun A outer s H vs Q E hr hsp=>hbody cdv A outer s H vs Q E hr hsp
theorem Oe{N:List Str}{qual:Str}{scope:Scope}{f:Addr}{cd:Value}{A:Around}{outer:List Env}{s:Shared}{H:Hp}{E:XK}{x:Str}{C:Addr}{np cpos pos:Pos}{e:Expr}{es:List Expr}{ta:TA}{k:Nat}(X:Exc K mg x C)(hr:Room k (A.deeper (envOfC qual scope s.heap.objs.size f cd)))(hg:Gl (AS (Fly P w) P w K mg base N qual scope f cd A outer s H E) x)(hdb:(x==("__debug__" : Str))=false)(he:starEach (e::es) (AS (Fly P w) P w K mg base N qual scope f cd A outer s H E).env=(false,eval e (AS (Fly P w) P w K mg base N qual scope f cd A outer s H E).env)::starEach es (AS (Fly P w) P w K mg base N qual scope f cd A outer s H E).env)(hpl:(backTo cpos (starEach es (AS (Fly P w) P w K mg base N qual scope f cd A outer s H E).env)).any (·.1)=false)(ha:PA (AS (Fly P w) P w K mg base N qual scope f cd A outer s H E) (e::es) ta):
  PS (AS (Fly P w) P w K mg base N qual scope f cd A outer s H E) (.Raise (some (.Call (.Name x np) (e::es) [] cpos)) none pos) (MV E C ta):=PZ X hr.hd ha hg hdb he hpl
end
noncomputable def glue(ys:List Str):Str:=⟨(ys.map fun y=>y.cps.toList).flatten.toArray⟩
theorem L6(ys:List Str):∀acc:Array Nat,List.foldl (fun(acc:Array Nat) (p:Str)=>acc++(("" : Str)).cps++p.cps) acc ys=acc++((ys.map fun y=>y.cps.toList).flatten.toArray):=by
 induction ys with
 | nil=>intro acc; simp
 | cons y ys ih =>
  intro acc;rw[List.foldl_cons,ih];have e:(("" : Str)).cps = #[]:=by decide +kernel
  rw[e];apply Array.ext';simp
theorem Mh(ys:List Str):Txt.join ("" : Str) ys=glue ys:=by
 cases ys with
 | nil=>decide +kernel
 | cons y ys =>
  have e:Txt.join ("" : Str) (y::ys)=⟨List.foldl (fun(acc:Array Nat) (p:Str)=>acc++(("" : Str)).cps++p.cps) y.cps ys⟩:=rfl;rw[e,L6];unfold glue;congr 1;apply Array.ext';simp
section
variable{X:Cx}{a e:Expr}{ta te:TE}{apos cpos:Pos}
theorem IP:∀{ys:List Str} {us:List Value},Vals (ys.map V.str) us->StrsAre us ys
 | [],_,.nil=>.nil
 | _::_,_,.cons ⟨t,e⟩ r=>by subst e; exact .cons _ _ (IP r)
noncomputable def rJoin(K:Frag):V->List V->Hp->VK->Prop:=fun x xs H Q=>∃sep p ys,x=.str sep/\xs=[.ref p]/\SqL K H p (ys.map V.str)/\(ys.map (·.length)).sum+ys.length*sep.length<=16777216/\Q (.str (Txt.join sep ys)) H
theorem Rr:MtR X "str.join" (rJoin X.K):=by
 intro pins s σ H x xs v us Q I rx rv h;obtain⟨sep,p,ys,rfl,rfl,hq,hz,q⟩:=h;obtain⟨t,rfl⟩:=rx;obtain⟨u,rfl,ru⟩:=rv.one;cases ru;obtain⟨its,r,pl,_⟩:=I.list hq;exact join_list pl.isList (by simpa using IP r) hz fun t' k=>⟨.str _,H,I.tok k,⟨_,rfl⟩,q⟩
theorem RL{K:Frag}(hK:X.K=K)(B:Blt X.mg K)(hbase:attributeBase a "join" X.env (eval a X.env)=eval a X.env)(hline:(apos.endLine==cpos.line)=true)(hs:starEach [e] X.env=[(false,eval e X.env)])(ha:PE X a ta)(he:PE X e te):
  PE X (.Call (.Attribute a "join" apos) [e] [] cpos) (tBM K "str" (rJoin K) ta (B7 te GN)):=by
 subst hK;exact PJ F.plainAttrs_str F.slot_str_join F.type_str_join Rr ha (De he Fq hs) hbase (by rw[hs]; rfl) hline hs rfl
end
section
variable{X:Cx}{p pos:Pos}{e:Expr}{es:List Expr}{t:TA}
end
end L2
end
section
namespace J
open PySem L2
inductive A where
 | fz (d:D)|lst (as:List A)|tup (as:List A)|scr (ns:List Int)|dic (kvs:List (Key×D))|dct (kvs:List (D×D))|opq (a:Addr) (o:Obj)
inductive Own where
 | own|lent|ro
 deriving DecidableEq
noncomputable abbrev Slot:=Option (Own×A)
noncomputable abbrev Ro:=List Slot
inductive R where
 | val (a:A)|ref (i:Nat)
mutual
noncomputable def er:A->Option D
 | .fz d=>some d
 | .lst as=>(ers as).map D.lst
 | .tup as=>(ers as).map D.tup
 | .scr _=>none
 | .dic _=>none
 | .dct _=>none
 | .opq _ _=>none
noncomputable def ers:List A->Option (List D)
 | []=>some []
 | a::as=>(er a).bind fun d=>(ers as).map (d :: ·)
end
noncomputable def fzs:List A->Option (List D)
 | []=>some []
 | .fz d::as=>(fzs as).map (d :: ·)
 | _::_=>none
noncomputable def peek(Z:Ro):R->Option A
 | .val a=>some a
 | .ref i=>match Z[i]? with
  | some (some (_,a))=>some a
  | _=>none
noncomputable def peeks(Z:Ro):List R->Option (List A)
 | []=>some []
 | r::rs=>(peek Z r).bind fun a=>(peeks Z rs).map (a :: ·)
noncomputable def share(Z:Ro):R->Option (D×Ro)
 | .val a=>(er a).map (·,Z)
 | .ref i=>match Z[i]? with
  | some (some (.own,a))=>(er a).map fun d=>(d,Z.set i (some (.own,.fz d)))
  | _=>none
noncomputable def move(Z:Ro):R->Option (A×Ro)
 | .val a=>some (a,Z)
 | .ref i=>match Z[i]? with
  | some (some (.own,a))=>some (a,Z.set i none)
  | _=>none
noncomputable abbrev ME:=Ro->Option (R×Ro)
noncomputable abbrev MT:=Ro->Option (Bool×Ro)
noncomputable abbrev MA:=Ro->Option (List R×Ro)
noncomputable def Ag(i:Nat):ME:=fun Z=>match Z[i]? with
 | some (some (_,.fz d))=>some (.val (.fz d),Z)
 | some (some _)=>some (.ref i,Z)
 | _=>none
noncomputable def Af(d:D):ME:=fun Z=>some (.val (.fz d),Z)
noncomputable def Ah:MA:=fun Z=>some ([],Z)
noncomputable def Aa(m:ME)(ms:MA):MA:=fun Z=>(m Z).bind fun p=>(ms p.2).map fun q=>(p.1::q.1,q.2)
noncomputable def opM(f:List A->Option A)(m:MA):ME:=fun Z=>(m Z).bind fun p=>(peeks p.2 p.1).bind fun as=>(f as).map fun a=>(.val a,p.2)
noncomputable def D2:A->Option Bool
 | .fz (.bl b)=>some b
 | .fz .non | .fz (.int _) | .fz (.str _) | .fz (.lst _) | .fz (.tup _) | .lst _ | .tup _ | .scr _ | .dic _ | .dct _ | .opq _ _=>none
noncomputable def AX(m:ME):MT:=fun Z=>(m Z).bind fun p=>(peek p.2 p.1).bind fun a=>(D2 a).map (·,p.2)
noncomputable def andM(a b:ME):ME:=fun Z=>(AX a Z).bind fun p=>if p.1 then b p.2 else some (.val (.fz (.bl false)),p.2)
noncomputable def orM(a b:ME):ME:=fun Z=>(AX a Z).bind fun p=>if p.1 then some (.val (.fz (.bl true)),p.2) else b p.2
noncomputable def notM(a:ME):ME:=fun Z=>(AX a Z).map fun p=>(.val (.fz (.bl (!p.1))),p.2)
noncomputable def JQ(a b:MT):MT:=fun Z=>(a Z).bind fun p=>if p.1 then b p.2 else some (false,p.2)
noncomputable def orT(a b:MT):MT:=fun Z=>(a Z).bind fun p=>if p.1 then some (true,p.2) else b p.2
noncomputable def C5(a:MT):MT:=fun Z=>(a Z).map fun p=>(!p.1,p.2)
noncomputable def To(c:MT)(a b:ME):ME:=fun Z=>(c Z).bind fun p=>if p.1 then a p.2 else b p.2
noncomputable def IZ(f g:List A->Option A)(a b c:ME):ME:=fun Z=>(a Z).bind fun p=>(b p.2).bind fun q=>(peeks q.2 [p.1,q.1]).bind fun as=>(f as).bind fun z=>(D2 z).bind fun k =>
 if k then (c q.2).bind fun r=>(peeks r.2 [q.1,r.1]).bind fun bs=>(g bs).map fun z=>(.val z,r.2) else some (.val (.fz (.bl false)),q.2)
noncomputable def Ab(m:ME):ME:=fun Z=>(m Z).bind fun p=>(share p.2 p.1).map fun q=>(.val (.fz q.1),q.2)
noncomputable def vals:List R->Option (List A)
 | []=>some []
 | .val a::rs=>(vals rs).map (a :: ·)
 | .ref _::_=>none
noncomputable abbrev LIM:Nat:=sizeLine
noncomputable def mkT(as:List A):A:=match fzs as with
 | some ds=>.fz (.tup ds)
 | none=>.tup as
noncomputable def lstM(m:MA):ME:=fun Z=>(m Z).bind fun p=>(vals p.1).bind fun as=>if as.length<=LIM then some (.val (.lst as),p.2) else none
noncomputable abbrev Fn:=List (Own×A)->Option (A×List A)
noncomputable def E9(Z:Ro):R->Option (Own×A)
 | .val a=>some (.own,a)
 | .ref i=>match Z[i]? with
  | some (some (.ro,a))=>some (.ro,a)
  | some (some (_,a))=>some (.lent,a)
  | _=>none
noncomputable def CI(Z:Ro):List R->Option (List (Own×A))
 | []=>some []
 | r::rs=>(E9 Z r).bind fun a=>(CI Z rs).map (a :: ·)
noncomputable def MK(Z:Ro)(i:Nat)(a:A):Ro:=match Z[i]? with
 | some (some (st,_))=>Z.set i (some (st,a))
 | _=>Z
noncomputable def back:List R->List A->Ro->Ro
 | .ref i::rs,a::as,Z=>back rs as (MK Z i a)
 | .val _::rs,_::as,Z=>back rs as Z
 | [],_,Z=>Z
 | .ref _::_,[],Z=>Z
 | .val _::_,[],Z=>Z
noncomputable def refs:List R->List Nat
 | []=>[]
 | .ref i::rs=>i::refs rs
 | .val _::rs=>refs rs
noncomputable def Au(Φ:Fn)(m:MA):ME:=fun Z=>(m Z).bind fun p=>(CI p.2 p.1).bind fun args=>if (refs p.1).Nodup then (Φ args).map fun q=>(.val q.1,back p.1 q.2 p.2) else none
noncomputable def BU(z:Str):List D:=z.cps.toList.map fun c=>.str ⟨#[c]⟩
noncomputable def A8:A->Option (List D)
 | .fz (.lst ds)=>some ds
 | .fz (.tup ds)=>some ds
 | .lst as=>fzs as
 | .scr ns=>some (ns.map D.int)
 | .fz .non | .fz (.bl _) | .fz (.int _) | .fz (.str _) | .tup _ | .dic _ | .dct _ | .opq _ _=>none
noncomputable abbrev MI:=Ro->Option (List D×Option Nat×Ro)
noncomputable def nameOf:R->Option Nat
 | .val _=>none
 | .ref i=>some i
noncomputable def Fs(m:ME):MI:=fun Z=>(m Z).bind fun p=>(peek p.2 p.1).bind fun a=>(A8 a).map fun ds=>(ds,nameOf p.1,p.2)
noncomputable def Jn(m:ME):MI:=fun Z=>(m Z).bind fun p=>match p.1 with
 | .val (.fz (.str z))=>if z.length<=LIM then some (BU z,none,p.2) else none
 | _=>none
noncomputable def EJ(lo:Int)(n:Nat):List D:=(List.range n).map fun(k:Nat)=>D.int (lo+(k:Int))
noncomputable def Cj(m:ME):MI:=fun Z=>(m Z).bind fun p=>match p.1 with
 | .val (.fz (.int j))=>if -(2 ^ 62)<=j/\j<2 ^ 62 then some (EJ 0 j.toNat,none,p.2) else none
 | _=>none
noncomputable def lock(Z:Ro):Option Nat->Ro
 | none=>Z
 | some i=>match Z[i]? with
  | some (some (_,a))=>Z.set i (some (.ro,a))
  | _=>Z
noncomputable def unlock(old Z:Ro):Option Nat->Ro
 | none=>Z
 | some i=>match old[i]? with
  | some s=>Z.set i s
  | none=>Z
noncomputable def My(n:Nat)(d:D):Option (List D):=match n with
 | 0=>some [d]
 | n=>match d with
  | .tup ds=>if ds.length=n then some ds else none
  | _=>none
noncomputable def own(d:D):Slot:=some (.own,.fz d)
noncomputable def Fc(pat:Nat)(c:MT)(e:ME):List D->Ro->Option (List D×Ro)
 | [],Z=>some ([],Z)
 | d::ds,Z=>(My pat d).bind fun bs=>(c (bs.map own++Z)).bind fun p =>
  if p.1 then (e p.2).bind fun q=>(share q.2 q.1).bind fun s=>(Fc pat c e ds (s.2.drop bs.length)).map fun t=>(s.1::t.1,t.2)
  else Fc pat c e ds (p.2.drop bs.length)
noncomputable def Hj:MT:=fun Z=>some (true,Z)
noncomputable def BL(it:MI)(pat:Nat)(c:MT)(e:ME):ME:=fun Z=>(it Z).bind fun p=>if p.1.length<=LIM then (Fc pat c e p.1 (lock p.2.2 p.2.1)).map fun q=>(.val (.lst (q.1.map A.fz)),unlock p.2.2 q.2 p.2.1) else none
inductive Fl where
 | next (Z:Ro)|brk (Z:Ro)|cnt (Z:Ro)|ret (a:A) (Z:Ro)
noncomputable abbrev MS:=Ro->Option Fl
noncomputable def free(Z:Ro)(i:Nat):Bool:=match Z[i]? with
 | some none=>true
 | some (some (.own,_))=>true
 | _=>false
noncomputable def keep(Z:Ro):R->Option (A×Ro)
 | .val a=>some (a,Z)
 | r=>(share Z r).map fun q=>(.fz q.1,q.2)
noncomputable def Bp:MS:=fun Z=>some (.next Z)
noncomputable def E3:MS:=fun _=>none
noncomputable def Az(a b:MS):MS:=fun Z=>(a Z).bind fun f=>match f with
 | .next Z1=>b Z1
 | f=>some f
noncomputable def AF(i:Nat)(m:ME):MS:=fun Z=>(m Z).bind fun p=>(keep p.2 p.1).bind fun q=>if free q.2 i then some (.next (q.2.set i (some (.own,q.1)))) else none
noncomputable def Km:A->Option (List A)
 | .tup as=>some as
 | .fz (.tup ds)=>some (ds.map A.fz)
 | .fz .non | .fz (.bl _) | .fz (.int _) | .fz (.str _) | .fz (.lst _) | .lst _ | .scr _ | .dic _ | .dct _ | .opq _ _=>none
noncomputable def Cz:List Nat->List A->Ro->Option Ro
 | [],[],Z=>some Z
 | i::is,a::as,Z=>if free Z i then Cz is as (Z.set i (some (.own,a))) else none
 | [],_::_,_=>none
 | _::_,[],_=>none
noncomputable def Vl(is:List Nat)(m:ME):MS:=fun Z=>(m Z).bind fun p=>(keep p.2 p.1).bind fun q=>(Km q.1).bind fun as=>(Cz is as q.2).map .next
noncomputable def J7(m:ME):MS:=fun Z=>(m Z).map fun p=>.next p.2
noncomputable def retS(m:ME):MS:=fun Z=>(m Z).bind fun p=>(move p.2 p.1).map fun q=>.ret q.1 q.2
noncomputable def ifS(c:MT)(a b:MS):MS:=fun Z=>(c Z).bind fun p=>if p.1 then a p.2 else b p.2
noncomputable def Ju(is:List Nat)(one:Bool)(d:D)(Z:Ro):Option Ro:=match one,is with
 | true,[i]=>if free Z i then some (Z.set i (own d)) else none
 | false,is=>(match d with
  | .tup ds=>Cz is (ds.map A.fz) Z
  | _=>none)
 | _,_=>none
noncomputable def forL(is:List Nat)(one:Bool)(b:MS):List D->Ro->Option Fl
 | [],Z=>some (.next Z)
 | d::ds,Z=>(Ju is one d Z).bind fun Z1=>(b Z1).bind fun f=>match f with
  | .next Z2=>forL is one b ds Z2
  | .cnt Z2=>forL is one b ds Z2
  | .brk Z2=>some (.next Z2)
  | f=>some f
noncomputable def Kz(old:Ro)(n:Option Nat):Fl->Fl
 | .next Z=>.next (unlock old Z n)
 | .brk Z=>.brk (unlock old Z n)
 | .cnt Z=>.cnt (unlock old Z n)
 | .ret a Z=>.ret a (unlock old Z n)
noncomputable def G1(is:List Nat)(one:Bool)(it:MI)(b:MS):MS:=fun Z=>(it Z).bind fun p=>(forL is one b p.1 (lock p.2.2 p.2.1)).map (Kz p.2.2 p.2.1)
noncomputable def Ds(c:MT)(b:MS):Nat->Ro->Option Fl
 | 0,_=>none
 | n+1,Z=>(c Z).bind fun p=>if p.1 then (b p.2).bind fun f=>match f with
   | .next Z2=>Ds c b n Z2
   | .cnt Z2=>Ds c b n Z2
   | .brk Z2=>some (.next Z2)
   | f=>some f
  else some (.next p.2)
noncomputable def KD(w:Nat)(c:MT)(b:MS):MS:=Ds c b w
noncomputable def VA(i:Nat):MS:=fun Z=>(share Z (.ref i)).map fun q=>.next q.2
noncomputable def GD:Slot->A
 | some (_,a)=>a
 | none=>.fz .non
noncomputable def fnM(np nn:Nat)(b:MS):Fn:=fun args=>if args.length=np then (b (args.map some++List.replicate (nn-np) none)).bind fun f=>match f with
  | .next Z=>some (.fz .non,(Z.take np).map GD)
  | .ret a Z=>some (a,(Z.take np).map GD)
  | _=>none
 else none
noncomputable def imm:HO->Bool
 | .tup _=>true
 | .frz _ _=>true
 | _=>false
noncomputable def Kept(L:Addr->Prop)(H H':Hp):Prop:=∀b o,H b=some o->(¬L b\/imm o=true)->H' b=some o
theorem Kept.refl{L:Addr->Prop}{H:Hp}:Kept L H H:=fun _ _ h _=>h
theorem Kept.trans{L L':Addr->Prop}{H H1 H2:Hp}(x:Kept L H H1)(y:Kept L' H1 H2)(h:∀p,L' p->L p\/H p=none):Kept L H H2:=fun b o e c =>
 y b o (x b o e c) (c.imp (fun n z=>(h b z).elim n fun q=>by rw[e] at q; cases q) id)
theorem Kept.mono{L L':Addr->Prop}{H H':Hp}(x:Kept L H H')(h:∀p,L p->L' p):Kept L' H H':=fun b o e c=>x b o e (c.imp (fun n z=>n (h b z)) id)
theorem Ew.kept{L:Addr->Prop}{H H':Hp}(s:Ew H H'):Kept L H H':=fun b o e _=>s b o e
noncomputable def Vs(K:Frag)(H:Hp)(a:Addr)(xs:List V):Prop:=∀H',(∀o u,H a=some (.frz o u)->H' a=some (.frz o u))->SqL K H' a xs
mutual
noncomputable def AA(K:Frag)(N:Addr->Prop)(H:Hp)(v:V):A->List Addr->Prop
 | .fz d,L=>L=[]/\RepA N H v d
 | .lst as,L=>∃a vs L',v=.ref a/\L=a::L'/\H a=some (.lst vs)/\vs.length<=sizeLine/\Ap K N H vs as L'
 | .tup as,L=>∃a vs,v=.ref a/\H a=some (.tup vs)/\vs.length<=sizeLine/\Ap K N H vs as L
 | .scr ns,L=>∃a,v=.ref a/\L=[]/\Vs K H a (ns.map V.int)/\ns.length<=sizeLine
 | .dic kvs,L=>∃a us,v=.ref a/\L=[a]/\H a=some (.dK us)/\us.length<=sizeLine/\Paired (fun(u:Key×V) (k:Key×D)=>u.1=k.1/\RepA N H u.2 k.2) us kvs
 | .dct kvs,L=>∃a us,v=.ref a/\L=[a]/\H a=some (.dT us)/\us.length<=sizeLine/\Paired (fun(u:D×V) (k:D×D)=>u.1=k.1/\RepA N H u.2 k.2) us kvs
 | .opq a o,L=>v=.ref a/\L=[]/\∃u,H a=some (.frz o u)
noncomputable def Ap(K:Frag)(N:Addr->Prop)(H:Hp):List V->List A->List Addr->Prop
 | [],[],L=>L=[]
 | v::vs,a::as,L=>∃L1 L2,L=L1++L2/\AA K N H v a L1/\Ap K N H vs as L2
 | [],_::_,_=>False
 | _::_,[],_=>False
end
theorem _root_.L2.RepA.tr{N N' M:Addr->Prop}{H H':Hp}(hM:∀p,M p->N p)(k:Kept M H H')(hN:∀p,N' p->N p\/H p=none){v:V}{d:D}(r:RepA N H v d):RepA N' H' v d:=by
 induction r with
 | non=>exact .non
 | bl b=>exact .bl b
 | int i=>exact .int i
 | str x hx=>exact .str x hx
 | lst h hz hn hl _ ih =>
  refine .lst (k _ _ h (.inl fun z=>hn (hM _ z))) hz (fun z=>?_) hl ih;rcases hN _ z with q|q
  .exact hn q
  .rw[h] at q; cases q
 | tup h hz hl _ ih=>exact .tup (k _ _ h (.inr rfl)) hz hl ih
theorem Paired.mapQ{α β:Type}{F G:α -> β -> Prop}:∀{l₁:List α} {l₂:List β},Paired F l₁ l₂ -> (∀a b,F a b->G a b)->Paired G l₁ l₂
 | _,_,.nil,_=>.nil
 | _,_,.cons r t,f=>.cons (f _ _ r) (Paired.mapQ t f)
section
variable{K:Frag}{N N' M:Addr->Prop}{H H':Hp}
mutual
theorem AA.tr(hM:∀p,M p->N p)(k:Kept M H H')(hN:∀p,N' p->N p\/H p=none):∀{a:A} {v:V} {L:List Addr},(∀p∈L,¬M p)->AA K N H v a L->AA K N' H' v a L
 | .fz d,v,L,hL,r=>by
  simp only[AA] at r |-;exact⟨r.1,r.2.tr hM k hN⟩
 | .lst as,v,L,hL,r=>by
  simp only[AA] at r |-;obtain⟨a,vs,L',rfl,rfl,h,hz,hs⟩:=r;exact⟨a,vs,L',rfl,rfl,k _ _ h (.inl (hL a (by simp))),hz,Ap.tr hM k hN (fun p hp=>hL p (by simp[hp])) hs⟩
 | .tup as,v,L,hL,r=>by
  simp only[AA] at r |-;obtain⟨a,vs,rfl,h,hz,hs⟩:=r;exact⟨a,vs,rfl,k _ _ h (.inr rfl),hz,Ap.tr hM k hN hL hs⟩
 | .scr ns,v,L,hL,r=>by
  simp only[AA] at r |-;obtain⟨a,rfl,rfl,h,hz⟩:=r;exact⟨a,rfl,rfl,fun H2 q=>h H2 fun o u e=>q o u (k _ _ e (.inr rfl)),hz⟩
 | .dic kvs,v,L,hL,r=>by
  simp only[AA] at r |-;obtain⟨a,us,rfl,rfl,h,hz,hs⟩:=r;exact⟨a,us,rfl,rfl,k _ _ h (.inl (hL a (by simp))),hz,Paired.mapQ hs fun _ _ q=>⟨q.1,q.2.tr hM k hN⟩⟩
 | .dct kvs,v,L,hL,r=>by
  simp only[AA] at r |-;obtain⟨a,us,rfl,rfl,h,hz,hs⟩:=r;exact⟨a,us,rfl,rfl,k _ _ h (.inl (hL a (by simp))),hz,Paired.mapQ hs fun _ _ q=>⟨q.1,q.2.tr hM k hN⟩⟩
 | .opq a o,v,L,hL,r=>by
  simp only[AA] at r |-;obtain⟨rfl,rfl,u,h⟩:=r;exact⟨rfl,rfl,u,k _ _ h (.inr rfl)⟩
theorem Ap.tr(hM:∀p,M p->N p)(k:Kept M H H')(hN:∀p,N' p->N p\/H p=none):∀{as:List A} {vs:List V} {L:List Addr},(∀p∈L,¬M p)->Ap K N H vs as L->Ap K N' H' vs as L
 | [],vs,L,hL,r=>by
  cases vs<;>simp only[Ap] at r |-;exact r
 | a::as,vs,L,hL,r=>by
  cases vs with
  | nil=>simp only[Ap] at r
  | cons v vs =>
   simp only[Ap] at r |-;obtain⟨L1,L2,rfl,h1,h2⟩:=r;exact⟨L1,L2,rfl,AA.tr hM k hN (fun p hp=>hL p (by simp[hp])) h1,Ap.tr hM k hN (fun p hp=>hL p (by simp[hp])) h2⟩
end
end
noncomputable def ad(O:Addr->Prop)(L:List Addr):Addr->Prop:=fun p=>O p\/p∈L
noncomputable def NN(fp:Nat->List Addr)(O:Addr->Prop):Addr->Prop:=fun p=>(∃i,p∈fp i)\/O p
noncomputable def Fp(fp:Nat->List Addr):Addr->Prop:=fun p=>∃i,p∈fp i
structure Rel (K:Frag) (Z:Ro) (σ:St) (H:Hp) (O:Addr->Prop) (fp:Nat->List Addr):Prop where
 len : Z.length=σ.length
 slot:∀i st a,Z[i]? = some (some (st,a))->∃v,σ[i]? = some (some v)/\AA K (NN fp O) H v a (fp i)
 out:∀i,(∀st a,Z[i]? ≠ some (some (st,a)))->fp i=[]
 nd:∀i,(fp i).Nodup
 inj:∀i j p,p∈fp i->p∈fp j->i=j
 off:∀i p,p∈fp i->¬O p
 al:∀p,NN fp O p->H p≠none
noncomputable def LJ(Z Z':Ro)(σ σ':St):Prop:=∀(j:Nat) st a,Z[j]? = some (some (st,a))->st≠.own->∃a',Z'[j]? = some (some (st,a'))/\σ'[j]? = σ[j]?/\(st=.ro->a'=a)
theorem LJ.refl{Z:Ro}{σ:St}:LJ Z Z σ σ:=fun _ _ a h _=>⟨a,h,rfl,fun _=>rfl⟩
theorem LJ.trans{Z Z1 Z2:Ro}{σ σ1 σ2:St}(x:LJ Z Z1 σ σ1)(y:LJ Z1 Z2 σ1 σ2):LJ Z Z2 σ σ2:=fun j st a h n=>by
 obtain⟨a1,h1,e1,f1⟩:=x j st a h n;obtain⟨a2,h2,e2,f2⟩:=y j st a1 h1 n;exact⟨a2,h2,e2.trans e1,fun z=>(f2 z).trans (f1 z)⟩
noncomputable def RR(K:Frag)(N:Addr->Prop)(H:Hp)(σ:St)(v:V):R->List Addr->Prop
 | .val a,L=>AA K N H v a L
 | .ref i,L=>L=[]/\σ[i]? = some (some v)
noncomputable def RRs(K:Frag)(N:Addr->Prop)(H:Hp)(σ:St):List V->List R->List Addr->Prop
 | [],[],L=>L=[]
 | v::vs,r::rs,L=>∃L1 L2,L=L1++L2/\RR K N H σ v r L1/\RRs K N H σ vs rs L2
 | [],_::_,_=>False
 | _::_,[],_=>False
structure Post (K:Frag) (O:Addr->Prop) (fp:Nat->List Addr) (H:Hp) (Z Z':Ro) (σ σ':St) (L:List Addr) (fp':Nat->List Addr) (H':Hp):Prop where
 rel:Rel K Z' σ' H' (ad O L) fp'
 nd:L.Nodup
 lo:∀p∈L,¬O p
 new:∀p,(p∈L\/Fp fp' p)->Fp fp p\/H p=none
 kept:Kept (Fp fp) H H'
 ln : σ'.length=σ.length
 stab:LJ Z Z' σ σ'
noncomputable def Jp(K:Frag)(O:Addr->Prop)(fp:Nat->List Addr)(H:Hp)(Z Z':Ro)(σ:St)(r:R)(v:V)(H':Hp):Prop:=
 ∃L fp',Post K O fp H Z Z' σ σ L fp' H'/\RR K (NN fp' (ad O L)) H' σ v r L
noncomputable def Vr(K:Frag)(O:Addr->Prop)(fp:Nat->List Addr)(H:Hp)(Z Z':Ro)(σ:St)(rs:List R)(vs:List V)(H':Hp):Prop:=
 ∃L fp',Post K O fp H Z Z' σ σ L fp' H'/\RRs K (NN fp' (ad O L)) H' σ vs rs L
noncomputable def tE(K:Frag)(m:ME):TE:=fun σ H Q=>∃Z O fp,Rel K Z σ H O fp/\∃r Z',m Z=some (r,Z')/\∀v H',Jp K O fp H Z Z' σ r v H'->Q v H'
noncomputable def tT(K:Frag)(m:MT):TT:=fun σ H Q=>∃Z O fp,Rel K Z σ H O fp/\∃b Z',m Z=some (b,Z')/\∀fp' H',Post K O fp H Z Z' σ σ [] fp' H'->Q b H'
noncomputable def tA(K:Frag)(m:MA):TA:=fun σ H Q=>∃Z O fp,Rel K Z σ H O fp/\∃rs Z',m Z=some (rs,Z')/\∀vs H',Vr K O fp H Z Z' σ rs vs H'->Q vs H'
section
variable{K:Frag}{Z Z' Z1 Z2:Ro}{σ σ' σ1 σ2:St}{H H' H1 H2:Hp}{O O':Addr->Prop}{fp fp' fp1 fp2:Nat->List Addr}{L L1 L2:List Addr}
theorem JN{p:Addr}:ad O [] p↔O p:=by simp[ad]
theorem JM{p:Addr}:ad (ad O L1) L2 p↔ad O (L1++L2) p:=by simp[ad,or_assoc]
theorem Rel.congr(r:Rel K Z σ H O fp)(h:∀p,O p↔O' p):Rel K Z σ H O' fp:=by
 have e:O=O':=funext fun p=>propext (h p);exact e ▸ r
theorem Rel.weak(r:Rel K Z σ H O fp)(h:∀p,O' p->O p):Rel K Z σ H O' fp where
 len:=r.len
 slot:=fun i st a e=>by
  obtain⟨v,e1,q⟩:=r.slot i st a e;exact⟨v,e1,q.tr (M:=fun _=>False) (fun _ z=>z.elim) .refl (fun p z=>.inl (z.imp id (h p))) fun _ _ z=>z⟩
 out:=r.out
 nd:=r.nd
 inj:=r.inj
 off:=fun i p hp z=>r.off i p hp (h p z)
 al:=fun p z=>r.al p (z.imp id (h p))
theorem Rel.grow(r:Rel K Z σ H O fp)(s:Ew H H')(hO:∀p,O' p->O p\/H p=none)(al:∀p,O' p->H' p≠none):Rel K Z σ H' O' fp where
 len:=r.len
 slot:=fun i st a e=>by
  obtain⟨v,e1,q⟩:=r.slot i st a e;refine⟨v,e1,q.tr (M:=fun _=>False) (fun _ z=>z.elim) (fun b o e _=>s b o e) (fun p z=>?_) fun _ _ z=>z⟩;rcases z with z|z
  .exact .inl (.inl z)
  .exact(hO p z).imp .inr id
 out:=r.out
 nd:=r.nd
 inj:=r.inj
 off:=fun i p hp z=>by
  rcases hO p z with q|q
  .exact r.off i p hp q
  .exact r.al p (.inl ⟨i,hp⟩) q
 al:=fun p z=>by
  rcases z with z|z
  .cases q:H p with
   | none=>exact absurd q (r.al p (.inl z))
   | some o=>rw[s p o q]; simp
  .exact al p z
theorem Rel.post(r:Rel K Z σ H O fp):Post K O fp H Z Z σ σ [] fp H:=
 ⟨r.congr fun p=>JN.symm,List.nodup_nil,fun _ h=>by simp at h,fun p h=>by rcases h with h|h; simp at h; exact .inl h,.refl,rfl,.refl⟩
theorem Post.then(x:Post K O fp H Z Z1 σ σ1 L1 fp1 H1)(y:Post K (ad O L1) fp1 H1 Z1 Z2 σ1 σ2 L2 fp2 H2):Post K O fp H Z Z2 σ σ2 (L1++L2) fp2 H2 where
 rel:=y.rel.congr fun p=>JM
 nd:=List.nodup_append.mpr ⟨x.nd,y.nd,fun a ha b hb e=>by subst e; exact y.lo a hb (.inr ha)⟩
 lo:=fun p hp z=>by
  rcases List.mem_append.mp hp with q|q
  .exact x.lo p q z
  .exact y.lo p q (.inl z)
 new:=fun p hp=>by
  have key:Fp fp1 p\/H1 p=none->Fp fp p\/H p=none:=fun q=>by
   rcases q with q|q
   .exact x.new p (.inr q)
   .cases e:H p with
    | none=>exact .inr rfl
    | some o =>
     by_cases hf:Fp fp p
     .exact .inl hf
     .rw[x.kept p o e (.inl hf)] at q; cases q
  rcases hp with q|q
  .rcases List.mem_append.mp q with q|q
   .exact x.new p (.inl q)
   .exact key (y.new p (.inl q))
  .exact key (y.new p (.inr q))
 kept:=x.kept.trans y.kept fun p z=>x.new p (.inr z)
 ln:=y.ln.trans x.ln
 stab:=x.stab.trans y.stab
theorem Post.drop(x:Post K O fp H Z Z1 σ σ1 (L1++L2) fp1 H1):Post K O fp H Z Z1 σ σ1 L2 fp1 H1 where
 rel:=x.rel.weak fun p z=>z.imp id fun q=>List.mem_append_right _ q
 nd:=(List.nodup_append.mp x.nd).2.1
 lo:=fun p hp=>x.lo p (List.mem_append_right _ hp)
 new:=fun p hp=>x.new p (hp.imp (List.mem_append_right _) id)
 kept:=x.kept
 ln:=x.ln
 stab:=x.stab
theorem Post.drop0(x:Post K O fp H Z Z1 σ σ1 L1 fp1 H1):Post K O fp H Z Z1 σ σ1 [] fp1 H1:=Post.drop (L1:=L1) (L2:=[]) (by rw[List.append_nil]; exact x)
theorem Post.rr{v:V}{r:R}(y:Post K (ad O L1) fp1 H1 Z1 Z2 σ σ L2 fp2 H2)(hr:Rel K Z1 σ H1 (ad O L1) fp1)(h:RR K (NN fp1 (ad O L1)) H1 σ v r L)(hL:∀p∈L,p∈L1):RR K (NN fp2 (ad O (L1++L2))) H2 σ v r L:=by
 cases r with
 | ref i=>exact h
 | val a =>
  refine AA.tr (M:=Fp fp1) (fun p z=>.inl z) y.kept (fun p z=>?_) (fun p hp z=>?_) h
  .rcases z with z|z
   .exact(y.new p (.inr z)).imp (fun q=>.inl q) id
   .rcases z with z|z
    .exact .inl (.inr (.inl z))
    .rcases List.mem_append.mp z with z|z
     .exact .inl (.inr (.inr z))
     .exact(y.new p (.inl z)).imp (fun q=>.inl q) id
  .obtain⟨i,hi⟩:=z
   exact hr.off i p hi (.inr (hL p hp))
theorem tE.mono{m:ME}{Q Q':VK}(h:tE K m σ H Q)(q:∀v H',Q v H'->Q' v H'):tE K m σ H Q':=by
 obtain⟨Z,O,fp,r,x,Z',e,k⟩:=h;exact⟨Z,O,fp,r,x,Z',e,fun v H' z=>q v H' (k v H' z)⟩
theorem Ku{Q:List V->Hp->Prop}(h:tA K Ah σ H Q):GN σ H Q:=by
 obtain⟨Z,O,fp,r,x,Z',e,k⟩:=h;cases e;exact k [] H ⟨[],fp,r.post,rfl⟩
theorem GL{m:ME}{ms:MA}{Q:List V->Hp->Prop}(h:tA K (Aa m ms) σ H Q):B7 (tE K m) (tA K ms) σ H Q:=by
 obtain⟨Z,O,fp,r,x,Z',e,k⟩:=h;simp only[Aa,bind_eq_some_iff,map_eq_some_iff] at e;obtain⟨⟨r1,Z1⟩,e1,⟨rs,Z2⟩,e2,e3⟩:=e;cases e3;refine⟨Z,O,fp,r,r1,Z1,e1,fun v H1 yy=>?_⟩;obtain⟨L1,fp1,p1,q1⟩:=yy;refine⟨Z1,ad O L1,fp1,p1.rel,rs,_,e2,fun vs H2 yy=>?_⟩;obtain⟨L2,fp2,p2,q2⟩:=yy;refine k (v::vs) H2 ⟨L1++L2,fp2,p1.then p2,L1,L2,rfl,p2.rr p1.rel q1 fun _ z=>z,?_⟩;have e:ad (ad O L1) L2=ad O (L1++L2):=funext fun p=>propext JM;rw[<- e];exact q2
end
section
variable{K:Frag}{N N' M:Addr->Prop}{H H':Hp}
mutual
theorem AA.al:∀{a:A} {v:V} {L:List Addr},AA K N H v a L->∀p∈L,H p≠none
 | .fz d,v,L,r,p,hp=>by
  simp only[AA] at r;rw[r.1] at hp; simp at hp
 | .lst as,v,L,r,p,hp=>by
  simp only[AA] at r;obtain⟨a,vs,L',rfl,rfl,h,hz,hs⟩:=r;rcases List.mem_cons.mp hp with rfl|hp
  .rw[h]; simp
  .exact Ap.al hs p hp
 | .tup as,v,L,r,p,hp=>by
  simp only[AA] at r;obtain⟨a,vs,rfl,h,hz,hs⟩:=r;exact Ap.al hs p hp
 | .scr ns,v,L,r,p,hp=>by
  simp only[AA] at r;obtain⟨a,rfl,rfl,h,hz⟩:=r;simp at hp
 | .dic kvs,v,L,r,p,hp=>by
  simp only[AA] at r;obtain⟨a,us,rfl,rfl,h,hz,hs⟩:=r;have:p=a:=by simpa using hp
  subst this; rw[h]; simp
 | .dct kvs,v,L,r,p,hp=>by
  simp only[AA] at r;obtain⟨a,us,rfl,rfl,h,hz,hs⟩:=r;have:p=a:=by simpa using hp
  subst this; rw[h]; simp
 | .opq a o,v,L,r,p,hp=>by
  simp only[AA] at r;obtain⟨rfl,rfl,_⟩:=r;simp at hp
theorem Ap.al:∀{as:List A} {vs:List V} {L:List Addr},Ap K N H vs as L->∀p∈L,H p≠none
 | [],vs,L,r,p,hp=>by
  cases vs<;>simp only[Ap] at r;rw[r] at hp; simp at hp
 | a::as,vs,L,r,p,hp=>by
  cases vs with
  | nil=>simp only[Ap] at r
  | cons v vs =>
   simp only[Ap] at r;obtain⟨L1,L2,rfl,h1,h2⟩:=r;rcases List.mem_append.mp hp with hp|hp
   .exact AA.al h1 p hp
   .exact Ap.al h2 p hp
end
theorem Ap.len:∀{as:List A} {vs:List V} {L:List Addr},Ap K N H vs as L->vs.length=as.length:=by
 intro _l;induction _l with
 | nil =>
  intro _m;cases _m with
  | nil =>
   intro _ _;exact rfl
  | cons _ _ =>
   intro _ r;simp only[Ap] at r
 | cons a as ih =>
  intro _m;cases _m with
  | nil =>
   intro _ r;simp only[Ap] at r
  | cons v vs =>
   intro L r;simp only[Ap] at r;obtain⟨L1,L2,rfl,h1,h2⟩:=r;simp[ih h2]
noncomputable def Ay(N:Addr->Prop)(H:Hp):List V->List D->Prop
 | [],[]=>True
 | v::vs,d::ds=>RepA N H v d/\Ay N H vs ds
 | _,_=>False
theorem Ay.len:∀{vs:List V} {ds:List D},Ay N H vs ds->vs.length=ds.length:=by
 intro _l;induction _l with
 | nil =>
  intro _m;cases _m with
  | nil =>
   intro _;exact rfl
  | cons _ _ =>
   intro r;simp only[Ay] at r
 | cons v vs ih =>
  intro _m;cases _m with
  | nil =>
   intro r;simp only[Ay] at r
  | cons d ds =>
   intro r;simp[ih r.2]
theorem Ay.get:∀{vs:List V} {ds:List D},Ay N H vs ds->∀(i:Nat) v d,vs[i]? = some v->ds[i]? = some d->RepA N H v d
 | [],[],_,i,v,d,h,_=>by simp at h
 | [],_::_,r,_,_,_,_,_=>by simp only[Ay] at r
 | _::_,[],r,_,_,_,_,_=>by simp only[Ay] at r
 | x::vs,y::ds,r,0,v,d,h1,h2=>by simp at h1 h2; subst h1; subst h2; exact r.1
 | x::vs,y::ds,r,i+1,v,d,h1,h2=>Ay.get r.2 i v d (by simpa using h1) (by simpa using h2)
theorem Ay.mk:∀{vs:List V} {ds:List D},vs.length=ds.length->(∀(i:Nat) v d,vs[i]? = some v->ds[i]? = some d->RepA N H v d)->Ay N H vs ds:=by
 intro _l;induction _l with
 | nil =>
  intro _m;cases _m with
  | nil =>
   intro _ _;exact trivial
  | cons _ _ =>
   intro hl _;simp at hl
 | cons v vs ih =>
  intro _m;cases _m with
  | nil =>
   intro hl _;simp at hl
  | cons d ds =>
   intro hl h;exact⟨h 0 v d rfl rfl,ih (by simpa using hl) fun i v d e1 e2=>h (i+1) v d (by simpa using e1) (by simpa using e2)⟩
theorem RX{a:Addr}{vs:List V}{ds:List D}(h:H a=some (.lst vs))(hz:vs.length<=sizeLine)(hn:¬N a)(r:Ay N H vs ds):RepA N H (.ref a) (.lst ds):=.lst h hz hn r.len r.get
theorem MD{a:Addr}{vs:List V}{ds:List D}(h:H a=some (.tup vs))(hz:vs.length<=sizeLine)(r:Ay N H vs ds):RepA N H (.ref a) (.tup ds):=.tup h hz r.len r.get
theorem Ay.tr(hM:∀p,M p->N p)(k:Kept M H H')(hN:∀p,N' p->N p\/H p=none):∀{vs:List V} {ds:List D},Ay N H vs ds->Ay N' H' vs ds
 | [],[],_=>trivial
 | [],_::_,r=>by simp only[Ay] at r
 | _::_,[],r=>by simp only[Ay] at r
 | v::vs,d::ds,r=>⟨r.1.tr hM k hN,Ay.tr hM k hN r.2⟩
theorem E5(h:∀p,N' p->N p){v:V}{d:D}(r:RepA N H v d):RepA N' H v d:=r.tr (M:=fun _=>False) (fun _ z=>z.elim) .refl fun p z=>.inl (h p z)
theorem IW(h:∀p,N' p->N p){vs:List V}{ds:List D}(r:Ay N H vs ds):Ay N' H vs ds:=r.tr (M:=fun _=>False) (fun _ z=>z.elim) .refl fun p z=>.inl (h p z)
theorem Dx(h:∀p,N' p->N p){v:V}{a:A}{L:List Addr}(r:AA K N H v a L):AA K N' H v a L:=r.tr (M:=fun _=>False) (fun _ z=>z.elim) .refl (fun p z=>.inl (h p z)) fun _ _ z=>z
theorem Vm(h:∀p,N' p->N p){vs:List V}{as:List A}{L:List Addr}(r:Ap K N H vs as L):Ap K N' H vs as L:=r.tr (M:=fun _=>False) (fun _ z=>z.elim) .refl (fun p z=>.inl (h p z)) fun _ _ z=>z
mutual
theorem AA.er:∀{a:A} {v:V} {L:List Addr} {d:D},AA K N H v a L->J.er a=some d->RepA (fun p=>N p/\p∉L) H v d
 | .fz d,v,L,d',r,e=>by
  simp only[AA] at r;simp only[J.er,Option.some.injEq] at e;subst e;exact E5 (fun p z=>z.1) r.2
 | .lst as,v,L,d',r,e=>by
  simp only[AA] at r;simp only[J.er,map_eq_some_iff] at e;obtain⟨a,vs,L',rfl,rfl,h,hz,hs⟩:=r;obtain⟨ds,e,rfl⟩:=e;exact RX h hz (fun z=>z.2 (by simp)) (IW (fun p z=>⟨z.1,fun q=>z.2 (by simp[q])⟩) (Ap.er hs e))
 | .tup as,v,L,d',r,e=>by
  simp only[AA] at r;simp only[J.er,map_eq_some_iff] at e;obtain⟨a,vs,rfl,h,hz,hs⟩:=r;obtain⟨ds,e,rfl⟩:=e;exact MD h hz (Ap.er hs e)
 | .scr ns,v,L,d',r,e=>by simp[J.er] at e
 | .dic kvs,v,L,d',r,e=>by simp[J.er] at e
 | .dct kvs,v,L,d',r,e=>by simp[J.er] at e
 | .opq _ _,v,L,d',r,e=>by simp[J.er] at e
theorem Ap.er:∀{as:List A} {vs:List V} {L:List Addr} {ds:List D},Ap K N H vs as L->J.ers as=some ds->Ay (fun p=>N p/\p∉L) H vs ds
 | [],vs,L,ds,r,e=>by
  cases vs<;>simp only[Ap] at r;simp only[J.ers,Option.some.injEq] at e;subst e
  trivial
 | a::as,vs,L,ds,r,e=>by
  cases vs with
  | nil=>simp only[Ap] at r
  | cons v vs =>
   simp only[Ap] at r;simp only[J.ers,bind_eq_some_iff,map_eq_some_iff] at e;obtain⟨L1,L2,rfl,h1,h2⟩:=r;obtain⟨d,e1,ds',e2,rfl⟩:=e;exact⟨E5 (fun p z=>⟨z.1,fun q=>z.2 (by simp[q])⟩) (AA.er h1 e1),IW (fun p z=>⟨z.1,fun q=>z.2 (by simp[q])⟩) (Ap.er h2 e2)⟩
end
theorem Ap.fzs:∀{as:List A} {vs:List V} {L:List Addr} {ds:List D},Ap K N H vs as L->J.fzs as=some ds->L=[]/\Ay N H vs ds
 | [],vs,L,ds,r,e=>by
  cases vs<;>simp only[Ap] at r;simp only[J.fzs,Option.some.injEq] at e;subst e;exact⟨r,trivial⟩
 | a::as,vs,L,ds,r,e=>by
  cases vs with
  | nil=>simp only[Ap] at r
  | cons v vs =>
   simp only[Ap] at r;obtain⟨L1,L2,rfl,h1,h2⟩:=r;cases a with
   | fz d =>
    simp only[J.fzs,map_eq_some_iff] at e;obtain⟨ds',e,rfl⟩:=e;simp only[AA] at h1;obtain⟨e1,q⟩:=Ap.fzs h2 e;exact⟨by rw[h1.1,e1]; rfl,h1.2,q⟩
   | _=>simp[J.fzs] at e
theorem D8{v:V}{d:D}(r:RepA N H v d):AA K N H v (.fz d) []:=by rw[AA]; exact⟨rfl,r⟩
theorem Ap.of:∀{vs:List V} {ds:List D},Ay N H vs ds->Ap K N H vs (ds.map A.fz) []:=by
 intro _l;induction _l with
 | nil =>
  intro _m;cases _m with
  | nil =>
   intro _;simp[Ap]
  | cons _ _ =>
   intro r;simp only[Ay] at r
 | cons v vs ih =>
  intro _m;cases _m with
  | nil =>
   intro r;simp only[Ay] at r
  | cons d ds =>
   intro r;simp only[List.map_cons,Ap];exact⟨[],[],rfl,D8 r.1,ih r.2⟩
end
section
variable{K:Frag}{Z Z' Z1 Z2:Ro}{σ σ' σ1 σ2:St}{H H' H1 H2:Hp}{O O':Addr->Prop}{fp fp' fp1 fp2:Nat->List Addr}{L L1 L2:List Addr}
noncomputable def pt(fp:Nat->List Addr)(i:Nat)(L:List Addr):Nat->List Addr:=fun j=>if j=i then L else fp j
theorem FA{i:Nat}:pt fp i L i=L:=by simp[pt]
theorem Ht{i j:Nat}(h:j≠i):pt fp i L j=fp j:=by simp[pt,h]
theorem By{i j:Nat}{p:Addr}(h:p∈pt fp i L j):(j=i/\p∈L)\/(j≠i/\p∈fp j):=by
 by_cases e:j=i
 .subst e; rw[FA] at h; exact .inl ⟨rfl,h⟩
 .rw[Ht e] at h; exact .inr ⟨e,h⟩
theorem Rel.set(r:Rel K Z σ H O fp){i:Nat}{s:Slot}{o:Option V}(hi:i<Z.length)(hO:∀p,O' p->NN fp O p)(hL:∀p∈L,NN fp O p)(nd:L.Nodup)(hd:∀p∈L,∀j,j≠i->p∉fp j)(ho:∀p∈L,¬O' p)(hoo:∀j p,j≠i->p∈fp j->¬O' p)(hs:∀st a,s=some (st,a)->∃v,o=some v/\AA K (NN (pt fp i L) O') H v a L)(hn:s=none->L=[]):Rel K (Z.set i s) (σ.set i o) H O' (pt fp i L) where
 len:=by simp[r.len]
 slot:=fun j st a e=>by
  by_cases hj:j=i
  .subst hj
   rw[List.getElem?_set_self hi] at e;obtain⟨v,e1,q⟩:=hs st a (Option.some.inj e);refine⟨v,?_,by rw[FA]; exact q⟩;rw[List.getElem?_set_self (by rw[<- r.len]; exact hi),e1]
  .rw[List.getElem?_set_ne (Ne.symm hj)] at e
   obtain⟨v,e1,q⟩:=r.slot j st a e;refine⟨v,by rw[List.getElem?_set_ne (Ne.symm hj)]; exact e1,?_⟩;rw[Ht hj];refine Dx (fun p z=>?_) q;rcases z with ⟨k,z⟩|z
   .rcases By z with ⟨_,z⟩|⟨_,z⟩
    .exact hL p z
    .exact .inl ⟨k,z⟩
   .exact hO p z
 out:=fun j h=>by
  by_cases hj:j=i
  .subst hj
   rw[FA];cases s with
   | none=>exact hn rfl
   | some x=>exact absurd (List.getElem?_set_self hi) (h x.1 x.2)
  .rw[Ht hj]
   exact r.out j fun st a e=>h st a (by rw[List.getElem?_set_ne (Ne.symm hj)]; exact e)
 nd:=fun j=>by
  by_cases hj:j=i
  .subst hj; rw[FA]; exact nd
  .rw[Ht hj]; exact r.nd j
 inj:=fun j k p h1 h2=>by
  rcases By h1 with ⟨e1,z1⟩|⟨e1,z1⟩
  .rcases By h2 with ⟨e2,z2⟩|⟨e2,z2⟩
   .rw[e1,e2]
   .exact absurd z2 (hd p z1 k e2)
  .rcases By h2 with ⟨e2,z2⟩|⟨e2,z2⟩
   .exact absurd z1 (hd p z2 j e1)
   .exact r.inj j k p z1 z2
 off:=fun j p h z=>by
  rcases By h with ⟨e1,z1⟩|⟨e1,z1⟩
  .exact ho p z1 z
  .exact hoo j p e1 z1 z
 al:=fun p z=>by
  rcases z with ⟨j,z⟩|z
  .rcases By z with ⟨_,z⟩|⟨_,z⟩
   .exact r.al p (hL p z)
   .exact r.al p (.inl ⟨j,z⟩)
  .exact r.al p (hO p z)
theorem IL{i:Nat}{v:V}(h : σ[i]? = some (some v)): σ.set i (some v)=σ:=by
 apply List.ext_getElem?;intro j;by_cases e:j=i
 .subst e
  have:=(List.getElem?_eq_some_iff.mp h).1;rw[List.getElem?_set_self this,h]
 .rw[List.getElem?_set_ne (Ne.symm e)]
theorem AG{α:Type}{l:List α}{i:Nat}{x:α}(h:l[i]? = some x):i<l.length:=(List.getElem?_eq_some_iff.mp h).1
theorem F0{p:Addr}:NN fp (ad O []) p↔NN fp O p:=by simp[NN,ad]
theorem E1{v:V}{r:R}{d:D}(x:Post K O fp H Z Z1 σ σ L fp1 H1)(q:RR K (NN fp1 (ad O L)) H1 σ v r L)(e:share Z1 r=some (d,Z2)):
  ∃fp2,Post K O fp H Z Z2 σ σ [] fp2 H1/\RepA (NN fp2 (ad O [])) H1 v d:=by
 cases r with
 | val a =>
  simp only[share,map_eq_some_iff] at e;obtain⟨d',e,e'⟩:=e;cases e';refine⟨fp1,x.drop0,E5 (fun p z=>?_) (AA.er q e)⟩;have z':=F0.mp z;refine⟨z'.imp id .inl,fun hp=>?_⟩;rcases z' with ⟨i,z⟩|z
  .exact x.rel.off i p z (.inr hp)
  .exact x.lo p hp z
 | ref i =>
  obtain⟨rfl,hv⟩:=q;simp only[share] at e;split at e
  .rename_i a ha
   simp only[map_eq_some_iff] at e;obtain⟨d',e,e'⟩:=e;cases e';obtain⟨v',hv',q⟩:=x.rel.slot i _ _ ha;rw[hv] at hv'; cases hv';have q2:RepA (NN (pt fp1 i []) (ad O [])) H1 v d:=E5 (fun p z=>by
    rcases z with ⟨j,z⟩|z
    .rcases By z with ⟨_,z⟩|⟨hj,z⟩
     .simp at z
     .exact⟨.inl ⟨j,z⟩,fun hp=>hj (x.rel.inj j i p z hp)⟩
    .exact⟨.inr z,fun hp=>x.rel.off i p hp z⟩) (AA.er q e)
   have R:=x.rel.set (i:=i) (s:=some (.own,.fz d)) (o:=some v) (L:=[]) (O':=ad O []) (AG ha) (fun p z=>.inr z) (fun p hp=>by simp at hp) List.nodup_nil (fun p hp=>by simp at hp) (fun p hp=>by simp at hp)
    (fun j p _ h=>x.rel.off j p h) (fun st a e=>by cases e; exact⟨v,rfl,D8 q2⟩) (fun e=>by cases e)
   rw[IL hv] at R;refine⟨pt fp1 i [],⟨R,List.nodup_nil,fun p hp=>by simp at hp,fun p hp=>?_,x.kept,rfl,fun j st a' h n=>?_⟩,q2⟩
   .rcases hp with hp|⟨j,hp⟩
    .simp at hp
    .rcases By hp with ⟨_,z⟩|⟨_,z⟩
     .simp at z
     .exact x.new p (.inr ⟨j,z⟩)
   .obtain⟨a2,h2,_,f2⟩:=x.stab j st a' h n
    refine⟨a2,?_,rfl,f2⟩;rw[List.getElem?_set_ne]
    .exact h2
    .rintro rfl
     rw[ha] at h2; cases h2; exact n rfl
  .cases e
theorem NZ{v:V}{r:R}{a:A}(x:Post K O fp H Z Z1 σ σ L fp1 H1)(q:RR K (NN fp1 (ad O L)) H1 σ v r L)(e:move Z1 r=some (a,Z2)):
  ∃L2 fp2,Post K O fp H Z Z2 σ σ L2 fp2 H1/\AA K (NN fp2 (ad O L2)) H1 v a L2:=by
 cases r with
 | val a =>
  simp only[move,Option.some.injEq] at e;cases e;exact⟨L,fp1,x,q⟩
 | ref i =>
  obtain⟨rfl,hv⟩:=q;simp only[move] at e;split at e
  .rename_i a' ha
   cases e;obtain⟨v',hv',q⟩:=x.rel.slot i _ _ ha;rw[hv] at hv'; cases hv';have nn:∀p,NN (pt fp1 i []) (ad O (fp1 i)) p->NN fp1 (ad O []) p:=fun p z=>by
    rcases z with ⟨j,z⟩|z|z
    .rcases By z with ⟨_,z⟩|⟨_,z⟩
     .simp at z
     .exact .inl ⟨j,z⟩
    .exact .inr (.inl z)
    .exact .inl ⟨i,z⟩
   have R:=x.rel.set (i:=i) (s:=none) (o:=some v) (L:=[]) (O':=ad O (fp1 i)) (AG ha) (fun p z=>nn p (.inr z)) (fun p hp=>by simp at hp) List.nodup_nil (fun p hp=>by simp at hp) (fun p hp=>by simp at hp)
    (fun j p hj h z=>by
     rcases z with z|z
     .exact x.rel.off j p h (.inl z)
     .exact hj (x.rel.inj j i p h z)) (fun st a e=>by cases e) (fun _=>rfl)
   rw[IL hv] at R;refine⟨fp1 i,pt fp1 i [],⟨R,x.rel.nd i,fun p hp z=>x.rel.off i p hp (.inl z),fun p hp=>?_,x.kept,rfl,fun j st a' h n=>?_⟩,Dx nn q⟩
   .rcases hp with hp|⟨j,hp⟩
    .exact x.new p (.inr ⟨i,hp⟩)
    .rcases By hp with ⟨_,z⟩|⟨_,z⟩
     .simp at z
     .exact x.new p (.inr ⟨j,z⟩)
   .obtain⟨a2,h2,_,f2⟩:=x.stab j st a' h n
    refine⟨a2,?_,rfl,f2⟩;rw[List.getElem?_set_ne]
    .exact h2
    .rintro rfl
     rw[ha] at h2; cases h2; exact n rfl
  .cases e
end
section
variable{K:Frag}{Z Z' Z1 Z2:Ro}{σ σ' σ1 σ2:St}{H H' H1 H2:Hp}{O O' N:Addr->Prop}{fp fp' fp1 fp2:Nat->List Addr}{L L1 L2:List Addr}
theorem Ly{v:V}{d:D}(r:RepA N H v d):RR K N H σ v (.val (.fz d)) []:=D8 (K:=K) r
noncomputable def KI(K:Frag)(N:Addr->Prop)(H:Hp)(a:A)(v:V)(H':Hp):Prop:=Ew H H'/\∃L,AA K (fun p=>N p\/p∈L) H' v a L/\L.Nodup/\∀p∈L,H p=none
noncomputable abbrev JL(K:Frag)(N:Addr->Prop)(H:Hp):List V->List A->Prop
 | [],[]=>True
 | v::vs,a::as=>(∃L,AA K N H v a L)/\JL K N H vs as
 | _,_=>False
noncomputable def OpN(K:Frag)(f:List A->Option A)(r:List V->Hp->VK->Prop):Prop:=
 ∀N H xs as b Q,JL K N H xs as->f as=some b->(∀v H',KI K N H b v H'->Q v H')->r xs H Q
theorem Rel.peek{r:R}{v:V}{a:A}(x:Rel K Z σ H O fp)(q:RR K (NN fp O) H σ v r L)(e:peek Z r=some a):∃L,AA K (NN fp O) H v a L:=by
 cases r with
 | val b =>
  simp only[J.peek,Option.some.injEq] at e;subst e;exact⟨L,q⟩
 | ref i =>
  simp only[J.peek] at e;split at e
  .rename_i st b hb
   cases e;obtain⟨v',h1,h2⟩:=x.slot i _ _ hb;rw[q.2] at h1; cases h1;exact⟨_,h2⟩
  .cases e
theorem Rel.peeks(x:Rel K Z σ H O fp):∀{rs:List R} {vs:List V} {as:List A} {L:List Addr},RRs K (NN fp O) H σ vs rs L->J.peeks Z rs=some as->JL K (NN fp O) H vs as
 | [],[],as,L,_,e=>by
  simp only[J.peeks,Option.some.injEq] at e;subst e
  trivial
 | [],_::_,_,_,q,_=>by simp only[RRs] at q
 | _::_,[],_,_,q,_=>by simp only[RRs] at q
 | r::rs,v::vs,as,L,q,e=>by
  simp only[J.peeks,bind_eq_some_iff,map_eq_some_iff] at e;obtain⟨a,e1,as',e2,rfl⟩:=e;simp only[RRs] at q;obtain⟨L1,L2,rfl,q1,q2⟩:=q;exact⟨x.peek q1 e1,x.peeks q2 e2⟩
theorem Post.out{a:A}{v:V}(x:Post K O fp H Z Z1 σ σ L fp1 H1)(o:KI K (NN fp1 (ad O L)) H1 a v H2):Jp K O fp H Z Z1 σ (.val a) v H2:=by
 obtain⟨s,L',r,nd,nw⟩:=o;have al:=r.al;have alO:∀p,NN fp1 (ad O L) p->H1 p≠none:=x.rel.al;refine⟨L',fp1,⟨x.rel.grow s (fun p z=>z.imp .inl (nw p)) fun p z=>?_,nd,fun p hp z=>alO p (.inr (.inl z)) (nw p hp),fun p hp=>?_,x.kept.trans (Ew.kept (L:=fun _=>False) s) fun _ z=>z.elim,x.ln,x.stab⟩,?_⟩
 .rcases z with z|z
  .intro q
   have:=alO p (.inr (.inl z));cases e:H1 p with
   | none=>exact this e
   | some o=>rw[s p o e] at q; cases q
  .exact al p z
 .rcases hp with hp|hp
  .have e1:=nw p hp
   cases e:H p with
   | none=>exact .inr rfl
   | some o =>
    by_cases hf:Fp fp p
    .exact .inl hf
    .rw[x.kept p o e (.inl hf)] at e1; cases e1
  .exact x.new p (.inr hp)
 .refine Dx (fun p z=>?_) r
  rcases z with z|z|z
  .exact .inl (.inl z)
  .exact .inl (.inr (.inl z))
  .exact .inr z
theorem Qu{f:List A->Option A}{r:List V->Hp->VK->Prop}{m:MA}{Q:VK}(ok:OpN K f r)(h:tE K (opM f m) σ H Q):tA K m σ H fun vs H1=>r vs H1 Q:=by
 obtain⟨Z,O,fp,rl,x,Z',e,k⟩:=h;simp only[opM,bind_eq_some_iff,map_eq_some_iff] at e;obtain⟨⟨rs,Z1⟩,e1,as,e2,b,e3,e4⟩:=e;cases e4;refine⟨Z,O,fp,rl,rs,_,e1,fun vs H1 yy=>?_⟩;obtain⟨L,fp1,p,q⟩:=yy;exact ok _ H1 vs as b Q (p.rel.peeks q e2) e3 fun v H' o=>k v H' (p.out o)
theorem Qw{i:Nat}{Q:VK}(h:tE K (Ag i) σ H Q):Ox i σ H Q:=by
 obtain⟨Z,O,fp,rl,x,Z',e,k⟩:=h;simp only[Ag] at e;split at e
 .rename_i st d hd
  cases e;obtain⟨v,h1,h2⟩:=rl.slot i _ _ hd;refine⟨v,h1,k v H ⟨[],fp,rl.post,?_⟩⟩;rw[AA] at h2;exact Ly (E5 (fun p z=>F0.mp z) h2.2)
 .rename_i y hn hy
  cases e;obtain⟨st,a⟩:=y;obtain⟨v,h1,h2⟩:=rl.slot i _ _ hy;exact⟨v,h1,k v H ⟨[],fp,rl.post,rfl,h1⟩⟩
 .cases e
theorem IS{d:D}{v:V}{Q:VK}(hv:∀N H,RepA N H v d)(h:tE K (Af d) σ H Q):tC v σ H Q:=by
 obtain⟨Z,O,fp,rl,x,Z',e,k⟩:=h;cases e;exact k v H ⟨[],fp,rl.post,Ly (hv _ _)⟩
theorem Qv{m:ME}{Q:VK}(h:tE K (Ab m) σ H Q):tE K m σ H Q:=by
 obtain⟨Z,O,fp,rl,x,Z',e,k⟩:=h;simp only[Ab,bind_eq_some_iff,map_eq_some_iff] at e;obtain⟨⟨r,Z1⟩,e1,⟨d,Z2⟩,e2,e3⟩:=e;cases e3;refine⟨Z,O,fp,rl,r,Z1,e1,fun v H1 yy=>?_⟩;obtain⟨L,fp1,p,q⟩:=yy;obtain⟨fp2,p2,q2⟩:=E1 p q e2;exact k v H1 ⟨[],fp2,p2,Ly q2⟩
theorem Qc{v:V}{a:A}{b:Bool}(h:AA K N H v a L)(e:D2 a=some b):v=.bl b:=by
 cases a with
 | fz d =>
  cases d with
  | bl c =>
   simp only[D2,Option.some.injEq] at e;subst e;rw[AA] at h;obtain⟨_,h⟩:=h;cases h;rfl
  | _=>simp[D2] at e
 | _=>simp[D2] at e
theorem IT{m:ME}{Q:Bool->Hp->Prop}(h:tT K (AX m) σ H Q):tE K m σ H fun x H1=>∃c,x=.bl c/\Q c H1:=by
 obtain⟨Z,O,fp,rl,x,Z',e,k⟩:=h;simp only[AX,bind_eq_some_iff,map_eq_some_iff] at e;obtain⟨⟨r,Z1⟩,e1,a,e2,b,e3,e4⟩:=e;cases e4;refine⟨Z,O,fp,rl,r,_,e1,fun v H1 yy=>?_⟩;obtain⟨L,fp1,p,q⟩:=yy;obtain⟨L',q'⟩:=p.rel.peek q e2;exact⟨_,Qc q' e3,k fp1 H1 p.drop0⟩
theorem Post.next{σ2:St}(x:Post K O fp H Z Z1 σ σ1 [] fp1 H1)(y:Post K O fp1 H1 Z1 Z2 σ1 σ2 L2 fp2 H2):Post K O fp H Z Z2 σ σ2 L2 fp2 H2:=by
 have e:ad O []=O:=funext fun p=>propext JN;exact Post.then (L1:=[]) x (by rw[e]; exact y)
theorem Post.rel0(x:Post K O fp H Z Z1 σ σ1 [] fp1 H1):Rel K Z1 σ1 H1 O fp1:=x.rel.congr fun p=>JN
theorem Jp.pre{r:R}{v:V}(x:Post K O fp H Z Z1 σ σ [] fp1 H1)(y:Jp K O fp1 H1 Z1 Z2 σ r v H2):Jp K O fp H Z Z2 σ r v H2:=by
 obtain⟨L,fp2,p,q⟩:=y;exact⟨L,fp2,x.next p,q⟩
theorem Vg{a b:MT}{Q:Bool->Hp->Prop}(h:tT K (JQ a b) σ H Q):tT K a σ H fun c H1=>if c=true then tT K b σ H1 Q else Q false H1:=by
 obtain⟨Z,O,fp,rl,x,Z',e,k⟩:=h;simp only[JQ,bind_eq_some_iff] at e;obtain⟨⟨c,Z1⟩,e1,e2⟩:=e;refine⟨Z,O,fp,rl,c,Z1,e1,fun fp1 H1 p=>?_⟩;cases c with
 | true =>
  rw[if_pos rfl] at e2 |-;exact⟨Z1,O,fp1,p.rel0,x,Z',e2,fun fp2 H2 p2=>k fp2 H2 (p.next p2)⟩
 | false =>
  simp at e2;obtain⟨rfl,rfl⟩:=e2;rw[if_neg Bool.false_ne_true];exact k fp1 H1 p
theorem Wn{a b:MT}{Q:Bool->Hp->Prop}(h:tT K (orT a b) σ H Q):tT K a σ H fun c H1=>if c=true then Q true H1 else tT K b σ H1 Q:=by
 obtain⟨Z,O,fp,rl,x,Z',e,k⟩:=h;simp only[orT,bind_eq_some_iff] at e;obtain⟨⟨c,Z1⟩,e1,e2⟩:=e;refine⟨Z,O,fp,rl,c,Z1,e1,fun fp1 H1 p=>?_⟩;cases c with
 | false =>
  simp at e2;rw[if_neg Bool.false_ne_true];exact⟨Z1,O,fp1,p.rel0,x,Z',e2,fun fp2 H2 p2=>k fp2 H2 (p.next p2)⟩
 | true =>
  simp at e2;obtain⟨rfl,rfl⟩:=e2;rw[if_pos rfl];exact k fp1 H1 p
theorem Vh{a:MT}{Q:Bool->Hp->Prop}(h:tT K (C5 a) σ H Q):tT K a σ H fun c H1=>Q (!c) H1:=by
 obtain⟨Z,O,fp,rl,x,Z',e,k⟩:=h;simp only[C5,map_eq_some_iff] at e;obtain⟨⟨c,Z1⟩,e1,e2⟩:=e;cases e2;exact⟨Z,O,fp,rl,c,_,e1,k⟩
theorem Nz{m:ME}{Q:Bool->Hp->Prop}{Z Z':Ro}{b:Bool}{O:Addr->Prop}{fp:Nat->List Addr}(rl:Rel K Z σ H O fp)(e:AX m Z=some (b,Z'))(k:∀fp' H',Post K O fp H Z Z' σ σ [] fp' H'->Q b H'):tE K m σ H fun x H1=>∃c,x=.bl c/\Q c H1:=
 IT ⟨Z,O,fp,rl,b,Z',e,k⟩
theorem U1{a b:ME}{Q:VK}(h:tE K (andM a b) σ H Q):tE K a σ H fun x H1=>∃c,x=.bl c/\if c=true then tE K b σ H1 Q else Q (.bl false) H1:=by
 obtain⟨Z,O,fp,rl,x,Z',e,k⟩:=h;simp only[andM,bind_eq_some_iff] at e;obtain⟨⟨c,Z1⟩,e1,e2⟩:=e;refine Nz (Q:=fun c H1=>if c=true then tE K b σ H1 Q else Q (.bl false) H1) rl e1 fun fp1 H1 p=>?_;cases c with
 | true =>
  rw[if_pos rfl] at e2 |-;exact⟨Z1,O,fp1,p.rel0,x,Z',e2,fun v H2 p2=>k v H2 (p2.pre p)⟩
 | false =>
  simp at e2;obtain⟨rfl,rfl⟩:=e2;rw[if_neg Bool.false_ne_true];exact k _ H1 ⟨[],fp1,p,Ly (.bl _)⟩
theorem U4{a:ME}{Q:VK}(h:tE K (notM a) σ H Q):tE K a σ H fun x H1=>∃c,x=.bl c/\Q (.bl (!c)) H1:=by
 obtain⟨Z,O,fp,rl,x,Z',e,k⟩:=h;simp only[notM,map_eq_some_iff] at e;obtain⟨⟨c,Z1⟩,e1,e2⟩:=e;cases e2;exact Nz (Q:=fun c H1=>Q (.bl (!c)) H1) rl e1 fun fp1 H1 p=>k _ H1 ⟨[],fp1,p,Ly (.bl _)⟩
theorem RRs.vals:∀{rs:List R} {vs:List V} {as:List A} {L:List Addr},RRs K N H σ vs rs L->J.vals rs=some as->Ap K N H vs as L:=by
 intro _l;induction _l with
 | nil =>
  intro _m;cases _m with
  | nil =>
   intro as L q e;simp only[J.vals,Option.some.injEq] at e;subst e;simp only[RRs] at q;simp only[Ap];exact q
  | cons _ _ =>
   intro _ _ q _;simp only[RRs] at q
 | cons r rs ih =>
  intro _m;cases _m with
  | nil =>
   intro _ _ q _;simp only[RRs] at q
  | cons v vs =>
   intro as L q e;cases r with
   | ref i=>simp[J.vals] at e
   | val a =>
    simp only[J.vals,map_eq_some_iff] at e;obtain⟨as',e2,rfl⟩:=e;simp only[RRs] at q;obtain⟨L1,L2,rfl,q1,q2⟩:=q;simp only[Ap];exact⟨L1,L2,rfl,q1,ih q2 e2⟩
theorem EI{p:Addr}{o:HO}(h:H p=none):Ew H (upd H p o):=fun b o' e=>by
 rw[AE (C4 e h)]; exact e
theorem Post.more{L':List Addr}(x:Post K O fp H Z Z1 σ σ1 L fp1 H1)(s:Ew H1 H2)(nd:L'.Nodup)(h:∀p∈L',p∈L\/(H1 p=none/\H2 p≠none)):Post K O fp H Z Z1 σ σ1 L' fp1 H2 where
 rel:=x.rel.grow s (fun p z=>by
   rcases z with z|z
   .exact .inl (.inl z)
   .rcases h p z with q|q
    .exact .inl (.inr q)
    .exact .inr q.1) fun p z=>by
   have key:H1 p≠none->H2 p≠none:=fun n q=>by
    cases e:H1 p with
    | none=>exact n e
    | some o=>rw[s p o e] at q; cases q
   rcases z with z|z
   .exact key (x.rel.al p (.inr (.inl z)))
   .rcases h p z with q|q
    .exact key (x.rel.al p (.inr (.inr q)))
    .exact q.2
 nd:=nd
 lo:=fun p hp z=>by
  rcases h p hp with q|q
  .exact x.lo p q z
  .exact x.rel.al p (.inr (.inl z)) q.1
 new:=fun p hp=>by
  rcases hp with hp|hp
  .rcases h p hp with q|q
   .exact x.new p (.inl q)
   .cases e:H p with
    | none=>exact .inr rfl
    | some o =>
     by_cases hf:Fp fp p
     .exact .inl hf
     .have:=x.kept p o e (.inl hf)
      rw[q.1] at this; cases this
  .exact x.new p (.inr hp)
 kept:=x.kept.trans (Ew.kept (L:=fun _=>False) s) fun _ z=>z.elim
 ln:=x.ln
 stab:=x.stab
theorem U3{m:MA}{Q:VK}(h:tE K (lstM m) σ H Q):Wg (tA K m) σ H Q:=by
 obtain⟨Z,O,fp,rl,x,Z',e,k⟩:=h;simp only[lstM,bind_eq_some_iff] at e;obtain⟨⟨rs,Z1⟩,e1,as,e2,e3⟩:=e;split at e3
 .rename_i hz
  cases e3;refine⟨Z,O,fp,rl,rs,_,e1,fun vs H1 yy=>?_⟩
  obtain⟨L,fp1,p,q⟩:=yy;have q':=q.vals e2;have hl:=q'.len;refine⟨by rw[hl]; exact hz,fun a ha=>k _ _ ?_⟩;have s:=EI (o:=.lst vs) ha;have nL:a∉L:=fun z=>p.rel.al a (.inr (.inr z)) ha;refine⟨a::L,fp1,p.more s (List.nodup_cons.mpr ⟨nL,p.nd⟩) (fun b hb=>?_),?_⟩
  .rcases List.mem_cons.mp hb with rfl|hb
   .exact .inr ⟨ha,by rw[AR]; simp⟩
   .exact .inl hb
  .show AA _ _ _ _ _ _
   rw[AA];refine⟨a,vs,L,rfl,rfl,AR,by rw[hl]; exact hz,q'.tr (M:=fun _=>False) (fun _ z=>z.elim) (Ew.kept s) (fun b z=>?_) fun _ _ z=>z⟩;rcases z with z|z|z
   .exact .inl (.inl z)
   .exact .inl (.inr (.inl z))
   .rcases List.mem_cons.mp z with rfl|z
    .exact .inr ha
    .exact .inl (.inr (.inr z))
 .cases e3
end
noncomputable def OB(K:Frag)(O:Addr->Prop)(fp:Nat->List Addr)(H:Hp)(Z:Ro)(σ:St)(D:Ends):Fl->Prop
 | .next Z'=>∀σ' fp' H',Post K O fp H Z Z' σ σ' [] fp' H'->D.nx σ' H'
 | .brk Z'=>∀σ' fp' H',Post K O fp H Z Z' σ σ' [] fp' H'->D.bk σ' H'
 | .cnt Z'=>∀σ' fp' H',Post K O fp H Z Z' σ σ' [] fp' H'->D.ct σ' H'
 | .ret a Z'=>∀σ' v L fp' H',Post K O fp H Z Z' σ σ' L fp' H'->AA K (NN fp' (ad O L)) H' v a L->D.rt v H'
noncomputable def tS(K:Frag)(m:MS):TS:=fun D σ H=>∃Z O fp,Rel K Z σ H O fp/\∃fl,m Z=some fl/\OB K O fp H Z σ D fl
section
variable{K:Frag}{Z Z' Z1 Z2:Ro}{σ σ' σ1 σ2:St}{H H' H1 H2:Hp}{O O' N:Addr->Prop}{fp fp' fp1 fp2:Nat->List Addr}{L L1 L2:List Addr}{D:Ends}
theorem OB.pre{fl:Fl}(x:Post K O fp H Z Z1 σ σ1 [] fp1 H1)(w:OB K O fp H Z σ D fl):OB K O fp1 H1 Z1 σ1 D fl:=by
 cases fl with
 | next Z'=>exact fun σ' fp' H' p=>w σ' fp' H' (x.next p)
 | brk Z'=>exact fun σ' fp' H' p=>w σ' fp' H' (x.next p)
 | cnt Z'=>exact fun σ' fp' H' p=>w σ' fp' H' (x.next p)
 | ret a Z'=>exact fun σ' v L fp' H' p q=>w σ' v L fp' H' (x.next p) q
theorem Sm(h:tS K Bp D σ H):SM D σ H:=by
 obtain⟨Z,O,fp,rl,fl,e,w⟩:=h;cases e;exact w σ fp H rl.post
theorem Vf{a b:MS}(h:tS K (Az a b) D σ H):Wm (tS K a) (tS K b) D σ H:=by
 obtain⟨Z,O,fp,rl,fl,e,w⟩:=h;simp only[Az,bind_eq_some_iff] at e;obtain⟨f1,e1,e2⟩:=e;refine⟨Z,O,fp,rl,f1,e1,?_⟩;cases f1 with
 | next Z1=>exact fun σ1 fp1 H1 p=>⟨Z1,O,fp1,p.rel0,fl,e2,w.pre p⟩
 | brk Z1=>cases e2; exact w
 | cnt Z1=>cases e2; exact w
 | ret a Z1=>cases e2; exact w
theorem Wl{c:MT}{a b:MS}(h:tS K (ifS c a b) D σ H):U8 (tT K c) (tS K a) (tS K b) D σ H:=by
 obtain⟨Z,O,fp,rl,fl,e,w⟩:=h;simp only[ifS,bind_eq_some_iff] at e;obtain⟨⟨c,Z1⟩,e1,e2⟩:=e;refine⟨Z,O,fp,rl,c,Z1,e1,fun fp1 H1 p=>?_⟩;cases c with
 | true =>
  simp at e2;rw[if_pos rfl];exact⟨Z1,O,fp1,p.rel0,fl,e2,w.pre p⟩
 | false =>
  simp at e2;rw[if_neg Bool.false_ne_true];exact⟨Z1,O,fp1,p.rel0,fl,e2,w.pre p⟩
theorem Va{m:ME}(h:tS K (J7 m) D σ H):LC (tE K m) D σ H:=by
 obtain⟨Z,O,fp,rl,fl,e,w⟩:=h;simp only[J7,map_eq_some_iff] at e;obtain⟨⟨r,Z1⟩,e1,e2⟩:=e;cases e2;exact⟨Z,O,fp,rl,r,Z1,e1,fun v H1 ⟨L,fp1,p,q⟩=>w σ fp1 H1 p.drop0⟩
theorem Ve{m:ME}(h:tS K (retS m) D σ H):Wk (tE K m) D σ H:=by
 obtain⟨Z,O,fp,rl,fl,e,w⟩:=h;simp only[retS,bind_eq_some_iff,map_eq_some_iff] at e;obtain⟨⟨r,Z1⟩,e1,⟨a,Z2⟩,e2,e3⟩:=e;cases e3;refine⟨Z,O,fp,rl,r,Z1,e1,fun v H1 yy=>?_⟩;obtain⟨L,fp1,p,q⟩:=yy;obtain⟨L2,fp2,p2,q2⟩:=NZ p q e2;exact w σ v L2 fp2 H1 p2 q2
theorem OR{i:Nat}(h:free Z i=true):i<Z.length/\∀st a,Z[i]? = some (some (st,a))->st=.own:=by
 unfold free at h;split at h
 .rename_i e
  exact⟨AG e,fun st a e'=>by rw[e] at e'; cases e'⟩
 .rename_i a e
  exact⟨AG e,fun st a e'=>by rw[e] at e'; cases e'; rfl⟩
 .cases h
theorem Post.store{i:Nat}{v:V}{a:A}{σ1:St}(x:Post K O fp H Z Z1 σ σ1 (L1++L2) fp1 H1)(hf:free Z1 i=true)(q:AA K (NN fp1 (ad O (L1++L2))) H1 v a L1):
  Post K O fp H Z (Z1.set i (some (.own,a))) σ (σ1.set i (some v)) L2 (pt fp1 i L1) H1:=by
 obtain⟨hi,ho⟩:=OR hf;have nd:=List.nodup_append.mp x.nd;have nn:∀p,NN (pt fp1 i L1) (ad O L2) p->NN fp1 (ad O (L1++L2)) p:=fun p z=>by
  rcases z with ⟨j,z⟩|z|z
  .rcases By z with ⟨_,z⟩|⟨_,z⟩
   .exact .inr (.inr (List.mem_append_left _ z))
   .exact .inl ⟨j,z⟩
  .exact .inr (.inl z)
  .exact .inr (.inr (List.mem_append_right _ z))
 refine⟨x.rel.set (O':=ad O L2) hi (fun p z=>nn p (.inr z)) (fun p hp=>.inr (.inr (List.mem_append_left _ hp))) nd.1 (fun p hp j _ z=>x.rel.off j p z (.inr (List.mem_append_left _ hp))) (fun p hp z=>?_)
  (fun j p _ h z=>x.rel.off j p h (z.imp id (List.mem_append_right _))) (fun st a' e=>by cases e; exact⟨v,rfl,Dx nn q⟩) (fun e=>by cases e),nd.2.1,fun p hp=>x.lo p (List.mem_append_right _ hp),fun p hp=>?_,x.kept,by rw[List.length_set]; exact x.ln,fun j st a' h n=>?_⟩
 .rcases z with z|z
  .exact x.lo p (List.mem_append_left _ hp) z
  .exact nd.2.2 p hp p z rfl
 .rcases hp with hp|⟨j,hp⟩
  .exact x.new p (.inl (List.mem_append_right _ hp))
  .rcases By hp with ⟨_,z⟩|⟨_,z⟩
   .exact x.new p (.inl (List.mem_append_left _ z))
   .exact x.new p (.inr ⟨j,z⟩)
 .obtain⟨a2,h2,e2,f2⟩:=x.stab j st a' h n
  have hj:j≠i:=by
   rintro rfl;exact n (ho st a2 h2)
  exact⟨a2,by rw[List.getElem?_set_ne (Ne.symm hj)]; exact h2,by rw[List.getElem?_set_ne (Ne.symm hj)]; exact e2,f2⟩
theorem JB{v:V}{r:R}{a:A}(x:Post K O fp H Z Z1 σ σ L fp1 H1)(q:RR K (NN fp1 (ad O L)) H1 σ v r L)(e:keep Z1 r=some (a,Z2)):
  ∃L2 fp2,Post K O fp H Z Z2 σ σ L2 fp2 H1/\AA K (NN fp2 (ad O L2)) H1 v a L2:=by
 cases r with
 | val b =>
  simp only[keep,Option.some.injEq] at e;cases e;exact⟨L,fp1,x,q⟩
 | ref i =>
  simp only[keep,map_eq_some_iff] at e;obtain⟨⟨d,Z3⟩,e,e'⟩:=e;cases e';obtain⟨fp2,p,q2⟩:=E1 x q e;exact⟨[],fp2,p,D8 q2⟩
theorem Kw{i:Nat}{m:ME}(h:tS K (AF i m) D σ H):MQ (tE K m) (FK i) D σ H:=by
 obtain⟨Z,O,fp,rl,fl,e,w⟩:=h;simp only[AF,bind_eq_some_iff] at e;obtain⟨⟨r,Z1⟩,e1,⟨a,Z2⟩,e2,e3⟩:=e;split at e3
 .rename_i hf
  cases e3;refine⟨Z,O,fp,rl,r,Z1,e1,fun v H1 yy=>?_⟩
  obtain⟨L,fp1,p,q⟩:=yy;obtain⟨L2,fp2,p2,q2⟩:=JB p q e2;exact w _ _ H1 (Post.store (L1:=L2) (L2:=[]) (by rw[List.append_nil]; exact p2) hf (by rw[List.append_nil]; exact q2))
 .cases e3
noncomputable def LZ:List Nat->TGs
 | []=>WA
 | i::is=>VC (FK i) (LZ is)
theorem Ot{Q:St->Hp->Prop}:∀{is:List Nat} {as:List A} {vs:List V} {Z1 Z2:Ro} {σ1:St} {fp1:Nat->List Addr} {L:List Addr},Post K O fp H Z Z1 σ σ1 L fp1 H1->Ap K (NN fp1 (ad O L)) H1 vs as L->Cz is as Z1=some Z2 ->
  (∀σ' fp',Post K O fp H Z Z2 σ σ' [] fp' H1->Q σ' H1)->LZ is vs σ1 H1 Q:=by
 intro _l;induction _l with
 | nil =>
  intro _m;cases _m with
  | nil =>
   intro vs Z1 Z2 σ1 fp1 L x q e k;cases vs with
   | cons v vs=>simp only[Ap] at q
   | nil =>
    simp only[Cz,Option.some.injEq] at e;subst e;exact⟨rfl,k σ1 fp1 x.drop0⟩
  | cons _ _ =>
   intro _ _ _ _ _ _ _ _ e _;simp[Cz] at e
 | cons i is ih =>
  intro _m;cases _m with
  | nil =>
   intro _ _ _ _ _ _ _ _ e _;simp[Cz] at e
  | cons a as =>
   intro vs Z1 Z2 σ1 fp1 L x q e k;cases vs with
   | nil=>simp only[Ap] at q
   | cons v vs =>
    simp only[Ap] at q;obtain⟨L1,L2,rfl,q1,q2⟩:=q;simp only[Cz] at e;split at e
    .rename_i hf
     refine⟨v,vs,rfl,?_⟩;have p:=x.store hf q1;refine ih p (Vm (fun p z=>?_) q2) e k;rcases z with ⟨j,z⟩|z|z
     .rcases By z with ⟨_,z⟩|⟨_,z⟩
      .exact .inr (.inr (List.mem_append_left _ z))
      .exact .inl ⟨j,z⟩
     .exact .inr (.inl z)
     .exact .inr (.inr (List.mem_append_right _ z))
    .cases e
theorem ML:∀{is:List Nat} {as:List A} {Z1 Z2:Ro},Cz is as Z1=some Z2->is.length=as.length:=by
 intro _l;induction _l with
 | nil =>
  intro _m;cases _m with
  | nil =>
   intro _ _ _;exact rfl
  | cons _ _ =>
   intro _ _ e;simp[Cz] at e
 | cons i is ih =>
  intro _m;cases _m with
  | nil =>
   intro _ _ e;simp[Cz] at e
  | cons a as =>
   intro _ _ e;simp only[Cz] at e;split at e
   .simp[ih e]
   .cases e
theorem Qy{n:Nat}{c:MT}{b:MS}(h:tS K (KD n c b) D σ H):Qz (tT K c) (tS K b) D σ H:=by
 obtain⟨Z,O,fp,rl,fl,e,w⟩:=h;refine⟨fun n σ' H'=>∃Z' fp',Post K O fp H Z Z' σ σ' [] fp' H'/\Ds c b n Z'=some fl,⟨n,Z,fp,rl.post,e⟩,?_⟩;rintro n σ1 H1 ⟨Z1,fp1,p1,e1⟩;cases n with
 | zero=>simp[Ds] at e1
 | succ n =>
  simp only[Ds,bind_eq_some_iff] at e1;obtain⟨⟨c,Z2⟩,e2,e3⟩:=e1;refine⟨Z1,O,fp1,p1.rel0,c,Z2,e2,fun fp2 H2 p2=>?_⟩;have p12:=p1.next p2;cases c with
  | false =>
   simp at e3;subst e3;dsimp only;rw[if_neg Bool.false_ne_true];exact w _ _ _ p12
  | true =>
   simp only[if_true,bind_eq_some_iff] at e3;obtain⟨f,e4,e5⟩:=e3;dsimp only;rw[if_pos rfl];refine⟨_,fun σ' H' z=>⟨n,Nat.lt_succ_self n,z⟩,Z2,O,fp2,p12.rel0,f,e4,?_⟩;cases f with
   | next Z3=>exact fun σ' fp' H' p=>⟨Z3,fp',p12.next p,e5⟩
   | cnt Z3=>exact fun σ' fp' H' p=>⟨Z3,fp',p12.next p,e5⟩
   | brk Z3 =>
    cases e5;exact fun σ' fp' H' p=>w σ' fp' H' (p12.next p)
   | ret a Z3 =>
    cases e5;exact fun σ' v L fp' H' p q=>w σ' v L fp' H' (p12.next p) q
end
noncomputable def ItR(J:It)(C:(Addr->Prop)->Hp->Prop)(ds:List D):Prop:=∀N H,C N H->(∀i,i<ds.length->J.go i H)/\(∀i,ds.length<=i->J.stop i H)/\∀i x H' d,J.yld i H x H'->ds[i]? = some d->Ew H H'/\RepA N H' x d
noncomputable def Wu(H H':Hp):Prop:=∀p xs,H p=some (.tup xs)->H' p=some (.tup xs)
noncomputable def ItP(K:Frag)(O:Addr->Prop)(fp:Nat->List Addr)(H:Hp)(Z Z':Ro)(σ:St)(ds:List D)(n:Option Nat)(J:It)(H':Hp):Prop:=
 ∃r v a L fp',Post K O fp H Z Z' σ σ L fp' H'/\RR K (NN fp' (ad O L)) H' σ v r L/\n=nameOf r/\peek Z' r=some a/\ItR J (fun N H=>(∃L,AA K N H v a L)/\Wu H' H/\∀z dz,RepA (NN fp' (ad O L)) H' z dz->RepA N H z dz) ds
noncomputable def tI(K:Frag)(m:MI):TI:=fun σ H R=>∃Z O fp,Rel K Z σ H O fp/\∃ds n Z',m Z=some (ds,n,Z')/\∀J H',ItP K O fp H Z Z' σ ds n J H'->R J H'
section
variable{K:Frag}{Z Z' Z1 Z2:Ro}{σ σ' σ1 σ2:St}{H H' H1 H2:Hp}{O O' N:Addr->Prop}{fp fp' fp1 fp2:Nat->List Addr}{L L1 L2:List Addr}
theorem EB{n:Option Nat}{j:Nat}:(lock Z n)[j]? = match Z[j]? with
  | some (some (st,a))=>some (some (if n=some j then .ro else st,a))
  | x=>x:=by
 cases n with
 | none =>
  simp only[lock];split<;>simp_all
 | some i =>
  simp only[lock];split
  .rename_i st a e
   by_cases h:j=i
   .subst h
    rw[List.getElem?_set_self (AG e),e];simp
   .rw[List.getElem?_set_ne (Ne.symm h)]
    split
    .have:¬(some i=some j):=fun z=>h (Option.some.inj z).symm
     simp[this, *]
    .rfl
  .rename_i hn
   by_cases h:j=i
   .subst h
    split
    .rename_i st a e
     exact absurd e (hn st a)
    .rfl
   .split
    .have:¬(some i=some j):=fun z=>h (Option.some.inj z).symm
     simp[this, *]
    .rfl
theorem Rel.lock{n:Option Nat}(r:Rel K Z σ H O fp):Rel K (J.lock Z n) σ H O fp where
 len:=by
  rw[<- r.len];cases n with
  | none=>rfl
  | some i=>simp only[J.lock]; split<;>simp
 slot:=fun i st a e=>by
  rw[EB] at e;split at e
  .rename_i st' a' e'
   simp only[Option.some.injEq,Prod.mk.injEq] at e;obtain⟨_,rfl⟩:=e;exact r.slot i _ _ e'
  .exact r.slot i _ _ e
 out:=fun i h=>r.out i fun st a e=>h (if n=some i then .ro else st) a (by rw[EB,e])
 nd:=r.nd
 inj:=r.inj
 off:=r.off
 al:=r.al
theorem Post.unlock{n:Option Nat}{a:A}(hn:∀i,n=some i->∃st,Z1[i]? = some (some (st,a)))(x:Post K O fp1 H1 (J.lock Z1 n) Z2 σ1 σ2 L fp2 H2):Post K O fp1 H1 Z1 (J.unlock Z1 Z2 n) σ1 σ2 L fp2 H2:=by
 cases n with
 | none=>exact x
 | some i =>
  obtain⟨st,e⟩:=hn i rfl;obtain⟨a',e2,es,ea⟩:=x.stab i .ro a (by rw[EB,e]; simp) (by decide);cases ea rfl;have eu:J.unlock Z1 Z2 (some i)=Z2.set i (some (st,a)):=by simp only[J.unlock,e]
  rw[eu];have get:∀j st' b,(Z2.set i (some (st,a)))[j]? = some (some (st',b))->∃st'',Z2[j]? = some (some (st'',b)):=fun j st' b q=>by
   by_cases h:j=i
   .subst h
    rw[List.getElem?_set_self (AG e2)] at q;cases q;exact⟨_,e2⟩
   .rw[List.getElem?_set_ne (Ne.symm h)] at q
    exact⟨_,q⟩
  refine⟨⟨by rw[List.length_set]; exact x.rel.len,fun j st' b q=>?_,fun j h=>?_,x.rel.nd,x.rel.inj,x.rel.off,x.rel.al⟩,x.nd,x.lo,x.new,x.kept,x.ln,fun j st' b q hs=>?_⟩
  .obtain⟨st'',q⟩:=get j st' b q
   exact x.rel.slot j _ _ q
  .refine x.rel.out j fun st' b q=>?_
   by_cases hj:j=i
   .subst hj
    exact h st a (List.getElem?_set_self (AG e2))
   .exact h st' b (by rw[List.getElem?_set_ne (Ne.symm hj)]; exact q)
  .by_cases hj:j=i
   .subst hj
    rw[e] at q;cases q;exact⟨a,List.getElem?_set_self (AG e2),es,fun _=>rfl⟩
   .have q':(J.lock Z1 (some i))[j]? = some (some (st',b)):=by
     rw[EB,q];have:¬(some i=some j):=fun z=>hj (Option.some.inj z).symm;simp[this]
    obtain⟨b',q2,s2,f2⟩:=x.stab j st' b q' hs;exact⟨b',by rw[List.getElem?_set_ne (Ne.symm hj)]; exact q2,s2,f2⟩
noncomputable def Q7(K:Frag)(is:List Nat):Bool->TG
 | true=>FK (is.headD 0)
 | false=>WB K is.length (LZ is)
theorem QX{is:List Nat}{one:Bool}{d:D}{x:V}{Q:St->Hp->Prop}(p:Post K O fp H Z Z1 σ σ1 [] fp1 H1)(q:RepA (NN fp1 O) H1 x d)(e:Ju is one d Z1=some Z2)(k:∀σ' fp',Post K O fp H Z Z2 σ σ' [] fp' H1->Q σ' H1):
  Q7 K is one x σ1 H1 Q:=by
 have q0:RepA (NN fp1 (ad O [])) H1 x d:=E5 (fun p z=>F0.mp z) q;cases one with
 | true =>
  unfold Ju at e
  match is,e with
  | [i],e =>
   dsimp only at e;split at e
   .rename_i hf
    cases e;exact k _ _ (Post.store (L1:=[]) (L2:=[]) p hf (D8 (K:=K) q0))
   .cases e
  | [],e=>simp at e
  | _::_::_,e=>simp at e
 | false =>
  unfold Ju at e;dsimp only at e;cases d with
  | tup ds =>
   dsimp only at e;cases q0 with
   | tup h hz hl hr =>
    refine⟨_,_,rfl,.inl (.inl h),?_,Ot p (Ap.of (Ay.mk hl hr)) e k⟩;have:=ML e;rw[List.length_map] at this;rw[hl,this]
  | _=>simp at e
theorem UZ{r:R}{v:V}{a:A}{n:Option Nat}(hn:n=nameOf r)(hr:Rel K Z1 σ H1 (ad O L) fp1)(q:RR K (NN fp1 (ad O L)) H1 σ v r L)(e:peek Z1 r=some a)(p:Post K (ad O L) fp1 H1 (J.lock Z1 n) Z2 σ σ2 [] fp2 H2):
  ∃L',AA K (NN fp2 (ad O L)) H2 v a L':=by
 cases r with
 | val b =>
  simp only[peek,Option.some.injEq] at e;subst e;refine⟨L,AA.tr (M:=Fp fp1) (fun p z=>.inl z) p.kept (fun x z=>?_) (fun x hx z=>?_) q⟩
  .rcases z with z|z
   .exact(p.new x (.inr z)).imp (fun y=>.inl y) id
   .exact .inl (.inr z)
  .obtain⟨i,hi⟩:=z
   exact hr.off i x hi (.inr hx)
 | ref i =>
  subst hn;simp only[peek] at e;split at e
  .rename_i st b hb
   cases e;obtain⟨a',e2,es,ea⟩:=p.stab i .ro a (by rw[EB,hb]; simp[nameOf]) (by decide);cases ea rfl;obtain⟨v',h1,h2⟩:=p.rel0.slot i _ _ e2;rw[es,q.2] at h1;cases h1;exact⟨_,h2⟩
  .cases e
theorem Post.stay{dz:D}{z:V}(p:Post K O fp1 H1 Z1 Z2 σ σ2 [] fp2 H2)(q:RepA (NN fp1 O) H1 z dz):RepA (NN fp2 O) H2 z dz:=
 q.tr (M:=Fp fp1) (fun p z=>.inl z) p.kept fun x z=>by
  rcases z with z|z
  .exact(p.new x (.inr z)).imp (fun y=>.inl y) id
  .exact .inl (.inr z)
theorem Post.stayT{dz:D}{z:V}(p:Post K O fp1 H1 Z1 Z2 σ σ2 L fp2 H2)(q:RepA (NN fp1 O) H1 z dz):RepA (NN fp2 (ad O L)) H2 z dz:=
 q.tr (M:=Fp fp1) (fun p z=>.inl z) p.kept fun x z=>by
  rcases z with z|z|z
  .exact(p.new x (.inr z)).imp (fun y=>.inl y) id
  .exact .inl (.inr z)
  .exact(p.new x (.inl z)).imp (fun y=>.inl y) id
theorem Vb{is:List Nat}{one:Bool}{it:MI}{b:MS}{D:Ends}(h:tS K (G1 is one it b) D σ H):Wf (tI K it) (Q7 K is one) (tS K b) D σ H:=by
 obtain⟨Z,O,fp,rl,fl,e,w⟩:=h;simp only[G1,bind_eq_some_iff,map_eq_some_iff] at e;obtain⟨⟨ds,n,Z1⟩,e1,f,e2,e3⟩:=e;subst e3;refine⟨Z,O,fp,rl,ds,n,Z1,e1,fun J H1 yy=>?_⟩;obtain⟨r,v,a,L,fp1,p1,q1,hn,ha,hJ⟩:=yy;have hlk:∀i,n=some i->∃st,Z1[i]? = some (some (st,a)):=fun i hi=>by
  rw[hn] at hi;cases r with
  | val b=>simp[nameOf] at hi
  | ref j =>
   simp only[nameOf,Option.some.injEq] at hi;subst hi;simp only[peek] at ha;split at ha
   .rename_i st b hb
    cases ha;exact⟨st,hb⟩
   .cases ha
 have rl1:Rel K (lock Z1 n) σ H1 (ad O L) fp1:=p1.rel.lock
 -- what is wanted of the loop's end
 have w1:OB K (ad O L) fp1 H1 (lock Z1 n) σ D f:=by
  have un:∀{Z2:Ro} {σ2:St} {L2:List Addr} {fp2:Nat->List Addr} {H2:Hp},Post K (ad O L) fp1 H1 (lock Z1 n) Z2 σ σ2 L2 fp2 H2->Post K O fp H Z (unlock Z1 Z2 n) σ σ2 L2 fp2 H2:=fun y=>(p1.then (y.unlock hlk)).drop;cases f with
  | next Z2=>exact fun σ' fp' H' p=>w σ' fp' H' (un p)
  | brk Z2=>exact fun σ' fp' H' p=>w σ' fp' H' (un p)
  | cnt Z2=>exact fun σ' fp' H' p=>w σ' fp' H' (un p)
  | ret b Z2=>exact fun σ' v L2 fp' H' p q=>w σ' v L2 fp' H' (un p) (Dx (fun x z=>by
    rcases z with z|z|z
    .exact .inl z
    .exact .inr (.inl (.inl z))
    .exact .inr (.inr z)) q)
 refine⟨fun i m σ' H'=>m=ds.length-i/\i<=ds.length/\∃Z' fp',Post K (ad O L) fp1 H1 (lock Z1 n) Z' σ σ' [] fp' H'/\forL is one b (ds.drop i) Z'=some f,⟨ds.length,by simp,Nat.zero_le _,lock Z1 n,fp1,rl1.post,by simpa using e2⟩,?_⟩;rintro i m σ2 H2 ⟨rfl,hi,Z2,fp2,p2,e2⟩;obtain⟨L',src⟩:=UZ hn p1.rel q1 ha p2;obtain⟨go,stop,yld⟩:=hJ _ _ ⟨⟨L',src⟩,fun _ _ h=>p2.kept _ _ h (.inr rfl),fun _ _ q=>p2.stay q⟩;by_cases hlt:i<ds.length
 .refine .inr ⟨go i hlt,_,fun σ' H' z=>⟨ds.length-(i+1),by omega,rfl,hlt,z⟩,fun x H3 y=>?_⟩
  have hd:ds[i]? = some ds[i]:=by simp[hlt]
  obtain⟨sm,qx⟩:=yld i x H3 _ y hd;rw[List.drop_eq_getElem_cons hlt] at e2;simp only[forL,bind_eq_some_iff] at e2;obtain⟨Z3,e3,g,e4,e5⟩:=e2;have p3:Post K (ad O L) fp1 H1 (lock Z1 n) Z2 σ σ2 [] fp2 H3:=p2.more sm List.nodup_nil (fun p hp=>by simp at hp);refine QX p3 qx e3 fun σ4 fp4 p4=>?_;refine⟨Z3,ad O L,fp4,p4.rel0,g,e4,?_⟩;cases g with
  | next Z5=>exact fun σ' fp' H' p=>⟨Z5,fp',p4.next p,e5⟩
  | cnt Z5=>exact fun σ' fp' H' p=>⟨Z5,fp',p4.next p,e5⟩
  | brk Z5 =>
   cases e5;exact fun σ' fp' H' p=>w1 σ' fp' H' (p4.next p)
  | ret c Z5 =>
   cases e5;exact fun σ' v L fp' H' p q=>w1 σ' v L fp' H' (p4.next p) q
 .have:i=ds.length:=by omega
  subst this;simp only[List.drop_length,forL,Option.some.injEq] at e2;subst e2;exact .inl ⟨stop _ (Nat.le_refl _),w1 _ _ _ p2⟩
theorem Gq{v:V}{a:A}{ds:List D}(q:AA K N H v a L)(e:A8 a=some ds):∃p vs,v=.ref p/\(SqL K H p vs\/SqT K H p vs)/\Ay N H vs ds:=by
 cases a with
 | fz d =>
  rw[AA] at q;obtain⟨rfl,q⟩:=q;cases d with
  | lst es =>
   simp only[A8,Option.some.injEq] at e;subst e;cases q with
   | lst h hz hn hl hr=>exact⟨_,_,rfl,.inl (.inl (.inl h)),Ay.mk hl hr⟩
  | tup es =>
   simp only[A8,Option.some.injEq] at e;subst e;cases q with
   | tup h hz hl hr=>exact⟨_,_,rfl,.inr (.inl (.inl h)),Ay.mk hl hr⟩
  | _=>simp[A8] at e
 | lst as =>
  simp only[A8] at e;rw[AA] at q;obtain⟨p,vs,L',rfl,rfl,h,hz,hs⟩:=q;exact⟨p,vs,rfl,.inl (.inl (.inl h)),(hs.fzs e).2⟩
 | scr ns =>
  simp only[A8,Option.some.injEq] at e;subst e;rw[AA] at q;obtain⟨p,rfl,rfl,h,hz⟩:=q;refine⟨p,_,rfl,.inl (h H fun _ _ z=>z),Ay.mk (by simp) fun i v d e1 e2=>?_⟩;rw[List.getElem?_map] at e1 e2;cases q:ns[i]? with
  | none=>rw[q] at e1; cases e1
  | some k =>
   rw[q] at e1 e2;cases e1; cases e2;exact .int k
 | _=>simp[A8] at e
noncomputable def OZ:A->Bool
 | .fz (.tup _)=>true
 | _=>false
theorem FX{v:V}{a:A}{ds:List D}(q:AA K N H v a L)(e:A8 a=some ds):∃p vs,v=.ref p/\(if OZ a then SqT K H p vs else SqL K H p vs)/\Ay N H vs ds:=by
 cases a with
 | fz d =>
  rw[AA] at q;obtain⟨rfl,q⟩:=q;cases d with
  | lst es =>
   simp only[A8,Option.some.injEq] at e;subst e;cases q with
   | lst h hz hn hl hr=>exact⟨_,_,rfl,.inl (.inl h),Ay.mk hl hr⟩
  | tup es =>
   simp only[A8,Option.some.injEq] at e;subst e;cases q with
   | tup h hz hl hr=>exact⟨_,_,rfl,.inl (.inl h),Ay.mk hl hr⟩
  | _=>simp[A8] at e
 | lst as =>
  simp only[A8] at e;rw[AA] at q;obtain⟨p,vs,L',rfl,rfl,h,hz,hs⟩:=q;exact⟨p,vs,rfl,.inl (.inl h),(hs.fzs e).2⟩
 | scr ns =>
  obtain⟨p,vs,e1,e2,e3⟩:=Gq q e;rw[AA] at q;obtain⟨p',rfl,rfl,h,hz⟩:=q;cases e1;refine⟨p,_,rfl,h H fun _ _ z=>z,?_⟩;simp only[A8,Option.some.injEq] at e;subst e;refine Ay.mk (by simp) fun i v d e1 e2=>?_;rw[List.getElem?_map] at e1 e2;cases q:ns[i]? with
  | none=>rw[q] at e1; cases e1
  | some k =>
   rw[q] at e1 e2;cases e1; cases e2;exact .int k
 | _=>simp[A8] at e
noncomputable def VG(K:Frag)(tl:TE):TI:=fun σ H R=>tl σ H fun x H1=>∃a,x=.ref a/\(((∃xs,SqL K H1 a xs)/\R (Itl K a) H1)\/((∃xs,SqT K H1 a xs)/\R (Itt K a) H1))
theorem S3{vs:List V}{ds:List D}(q:Ay N H vs ds){i:Nat}(h:i<ds.length):∃x,vs[i]? = some x:=⟨vs[i]'(by rw[q.len]; exact h),by simp⟩
theorem U6{m:ME}{R:It->Hp->Prop}(h:tI K (Fs m) σ H R):VG K (tE K m) σ H R:=by
 obtain⟨Z,O,fp,rl,ds,n,Z',e,k⟩:=h;simp only[Fs,bind_eq_some_iff,map_eq_some_iff] at e;obtain⟨⟨r,Z1⟩,e1,a,e2,ds',e3,e4⟩:=e;cases e4;refine⟨Z,O,fp,rl,r,Z1,e1,fun v H1 yy=>?_⟩;obtain⟨L,fp1,p,q⟩:=yy;obtain⟨L',q'⟩:=p.rel.peek q e2;obtain⟨pa,vs,rfl,hk,_⟩:=FX q' e3;refine⟨pa,rfl,?_⟩;cases hT:OZ a with
 | false =>
  rw[hT] at hk;refine .inl ⟨⟨vs,hk⟩,k _ _ ⟨r,.ref pa,a,L,fp1,p,q,rfl,e2,fun N H2 yy=>?_⟩⟩;obtain⟨⟨L2,q2⟩,_⟩:=yy;obtain⟨pb,ws,e5,hk2,hd⟩:=FX q2 e3;cases e5;rw[hT] at hk2;have hk2:SqL K H2 pa ws:=hk2;refine⟨fun i hi=>?_,fun i hi=>⟨ws,hk2,by rw[hd.len]; exact hi⟩,fun i x H' d y e=>?_⟩
  .obtain⟨x,hx⟩:=S3 hd hi
   exact⟨ws,x,hk2,hx⟩
  .obtain⟨rfl,y⟩:=y
   exact⟨fun _ _ z=>z,hd.get i x d (y ws hk2) e⟩
 | true =>
  rw[hT] at hk;refine .inr ⟨⟨vs,hk⟩,k _ _ ⟨r,.ref pa,a,L,fp1,p,q,rfl,e2,fun N H2 yy=>?_⟩⟩;obtain⟨⟨L2,q2⟩,_⟩:=yy;obtain⟨pb,ws,e5,hk2,hd⟩:=FX q2 e3;cases e5;rw[hT] at hk2;have hk2:SqT K H2 pa ws:=hk2;refine⟨fun i hi=>?_,fun i hi=>⟨ws,hk2,by rw[hd.len]; exact hi⟩,fun i x H' d y e=>?_⟩
  .obtain⟨x,hx⟩:=S3 hd hi
   exact⟨ws,x,hk2,hx⟩
  .obtain⟨rfl,y⟩:=y
   exact⟨fun _ _ z=>z,hd.get i x d (y ws hk2) e⟩
end
noncomputable def Wr(K:Frag):Nat->TU
 | 0=>QK
 | n+1=>fun v H vs=>∃a,v=.ref a/\SqT K H a vs/\vs.length=n+1
noncomputable def sh(n:Nat)(fp:Nat->List Addr):Nat->List Addr:=fun j=>if j<n then [] else fp (j-n)
section
variable{K:Frag}{Z Z' Z1 Z2:Ro}{σ σ' σ1 σ2:St}{H H' H1 H2:Hp}{O O' N:Addr->Prop}{fp fp' fp1 fp2:Nat->List Addr}{L L1:List Addr}
theorem Na{n:Nat}{p:Addr}:Fp (sh n fp) p↔Fp fp p:=by
 constructor
 .rintro ⟨j,h⟩
  unfold sh at h;split at h
  .simp at h
  .exact⟨_,h⟩
 .rintro ⟨j,h⟩
  refine⟨j+n,?_⟩;unfold sh;rw[if_neg (by lia),Nat.add_sub_cancel];exact h
theorem Pr{n:Nat}{p:Addr}:NN (sh n fp) O p↔NN fp O p:=or_congr Na Iff.rfl
theorem Rel.block{vs:List V}{bs:List D}(r:Rel K Z σ H O fp)(q:Ay (NN fp O) H vs bs):Rel K (bs.map own++Z) (vs.map some++σ) H O (sh bs.length fp) where
 len:=by simp[r.len,q.len]
 slot:=fun i st a e=>by
  by_cases hi:i<bs.length
  .rw[List.getElem?_append_left (by simpa using hi),List.getElem?_map] at e
   have hb:bs[i]? = some bs[i]:=by simp[hi]
   rw[hb] at e;simp only[Option.map_some,own,Option.some.injEq,Prod.mk.injEq] at e;obtain⟨rfl,rfl⟩:=e;have hv:vs[i]? = some (vs[i]'(by rw[q.len]; exact hi)):=by simp
   refine⟨_,by rw[List.getElem?_append_left (by simpa[q.len] using hi),List.getElem?_map,hv]; rfl,?_⟩;simp only[sh,hi,if_true];exact D8 (E5 (fun p z=>Pr.mp z) (q.get i _ _ hv hb))
  .rw[List.getElem?_append_right (by simpa using hi),List.length_map] at e
   obtain⟨v,e1,q1⟩:=r.slot _ _ _ e;refine⟨v,by rw[List.getElem?_append_right (by simpa[q.len] using hi),List.length_map,q.len]; exact e1,?_⟩;simp only[sh,hi,if_false];exact Dx (fun p z=>Pr.mp z) q1
 out:=fun i h=>by
  unfold sh;split
  .rfl
  .rename_i hi
   exact r.out _ fun st a e=>h st a (by rw[List.getElem?_append_right (by simpa using hi),List.length_map]; exact e)
 nd:=fun i=>by
  unfold sh;split
  .exact List.nodup_nil
  .exact r.nd _
 inj:=fun i j p h1 h2=>by
  unfold sh at h1 h2;split at h1
  .simp at h1
  .split at h2
   .simp at h2
   .have:=r.inj _ _ p h1 h2
    lia
 off:=fun i p h=>by
  unfold sh at h;split at h
  .simp at h
  .exact r.off _ p h
 al:=fun p z=>r.al p (Pr.mp z)
theorem Post.unblock{vs:List V}{bs:List D}(hl:vs.length=bs.length)(x:Post K O (sh bs.length fp) H (bs.map own++Z) Z2 (vs.map some++σ) (vs.map some++σ) L fp2 H2):Post K O fp H Z (Z2.drop bs.length) σ σ L (fun j=>fp2 (j+bs.length)) H2 where
 rel:=by
  have nn:∀p,NN (fun j=>fp2 (j+bs.length)) (ad O L) p->NN fp2 (ad O L) p:=fun p z=>z.imp (fun⟨j,h⟩=>⟨_,h⟩) id;have hlen:=x.rel.len;rw[List.length_append,List.length_map,hl] at hlen;refine⟨by rw[List.length_drop,hlen]; lia,fun i st a e=>?_,fun i h=>?_,fun i=>x.rel.nd _,fun i j p h1 h2=>?_,fun i p h=>x.rel.off _ p h,fun p z=>x.rel.al p (nn p z)⟩
  .rw[List.getElem?_drop] at e
   obtain⟨v,e1,q⟩:=x.rel.slot _ _ _ e;refine⟨v,?_,Dx nn (by rw[Nat.add_comm]; exact q)⟩;rw[List.getElem?_append_right (by rw[List.length_map]; lia),List.length_map] at e1;rw[<- e1];congr 1;lia
  .exact x.rel.out _ fun st a e=>h st a (by rw[List.getElem?_drop,Nat.add_comm]; exact e)
  .have:=x.rel.inj _ _ p h1 h2
   lia
 nd:=x.nd
 lo:=x.lo
 new:=fun p hp=>(x.new p (hp.imp id fun⟨j,h⟩=>⟨_,h⟩)).imp Na.mp id
 kept:=x.kept.mono fun p z=>Na.mp z
 ln:=rfl
 stab:=fun j st a h n=>by
  have e:(bs.map own++Z)[j+bs.length]? = some (some (st,a)):=by rw[List.getElem?_append_right (by simp),List.length_map,Nat.add_sub_cancel]; exact h
  obtain⟨a',e1,_,f⟩:=x.stab _ _ _ e n;exact⟨a',by rw[List.getElem?_drop,Nat.add_comm]; exact e1,rfl,f⟩
theorem Post.updT{p:Addr}{o:HO}{ys:List V}(x:Post K O fp H Z Z1 σ σ1 L fp1 H1)(hp:p∈L)(hn:H p=none)(hy:H1 p=some (.lst ys)):Post K O fp H Z Z1 σ σ1 L fp1 (upd H1 p o):=by
 have off:∀i,p∉fp1 i:=fun i z=>x.rel.off i p z (.inr hp);have alp:∀q,H1 q≠none->upd H1 p o q≠none:=fun q z=>by
  by_cases e:q=p
  .subst e; rw[AR]; simp
  .rw[AE e]; exact z
 have k:Kept (fun q=>q=p) H1 (upd H1 p o):=fun b u e c=>by
  by_cases hb:b=p
  .subst hb
   rcases c with c|c
   .exact absurd rfl c
   .rw[hy] at e; cases e; cases c
  .rw[AE hb]; exact e
 refine⟨⟨x.rel.len,fun i st a e=>?_,x.rel.out,x.rel.nd,x.rel.inj,x.rel.off,fun q z=>alp q (x.rel.al q z)⟩,x.nd,x.lo,x.new,fun b u e c=>?_,x.ln,x.stab⟩
 .obtain⟨v,e1,q⟩:=x.rel.slot i st a e
  exact⟨v,e1,q.tr (M:=fun q=>q=p) (fun b z=>by rw[z]; exact .inr (.inr hp)) k (fun b z=>.inl z) fun b hb z=>off i (z ▸ hb)⟩
 .have hb:b≠p:=fun z=>by rw[z,hn] at e; cases e
  rw[AE hb];exact x.kept b u e c
theorem DF{p:Addr}{o:HO}{ys:List V}(hy:H p=some (.lst ys)):Kept (fun q=>q=p) H (upd H p o):=fun b u e c=>by
 by_cases hb:b=p
 .subst hb
  rcases c with c|c
  .exact absurd rfl c
  .rw[hy] at e; cases e; cases c
 .rw[AE hb]; exact e
theorem Post.ds{vs:List V}{ds:List D}(x:Post K O fp H Z Z1 σ σ1 L fp1 H1)(q:Ay (NN fp O) H vs ds):Ay (NN fp1 (ad O L)) H1 vs ds:=
 q.tr (M:=Fp fp) (fun p z=>.inl z) x.kept fun p z=>by
  rcases z with z|z|z
  .exact(x.new p (.inr z)).imp (fun y=>.inl y) id
  .exact .inl (.inr z)
  .exact(x.new p (.inl z)).imp (fun y=>.inl y) id
theorem Hf:∀{vs ws:List V} {ds es:List D},Ay N H vs ds->Ay N H ws es->Ay N H (vs++ws) (ds++es)
 | [],_,[],_,_,q=>q
 | [],_,_::_,_,r,_=>by simp only[Ay] at r
 | _::_,_,[],_,r,_=>by simp only[Ay] at r
 | v::vs,ws,d::ds,es,r,q=>⟨r.1,Hf r.2 q⟩
theorem RH{n:Nat}{d:D}{bs:List D}{x:V}(q:RepA N H x d)(e:My n d=some bs):∃vs,Wr K n x H vs/\Ay N H vs bs:=by
 cases n with
 | zero =>
  simp only[My,Option.some.injEq] at e;subst e;exact⟨[x],rfl,q,trivial⟩
 | succ n =>
  simp only[My] at e;cases d with
  | tup ds =>
   dsimp only at e;split at e
   .rename_i hl
    cases e;cases q with
    | tup h hz hl' hr=>exact⟨_,⟨_,rfl,.inl (.inl h),by rw[hl']; exact hl⟩,Ay.mk hl' hr⟩
   .cases e
  | _=>simp at e
theorem Sd{r:R}{v:V}{a:A}{n:Option Nat}{Lt:List Addr}(hn:n=nameOf r)(hr:Rel K Z1 σ H1 (ad O L) fp1)(q:RR K (NN fp1 (ad O L)) H1 σ v r L)(e:peek Z1 r=some a)(p:Post K (ad O L) fp1 H1 (J.lock Z1 n) Z2 σ σ2 Lt fp2 H2):
  ∃L',AA K (NN fp2 (ad (ad O L) Lt)) H2 v a L':=by
 cases r with
 | val b =>
  simp only[peek,Option.some.injEq] at e;subst e;refine⟨L,AA.tr (M:=Fp fp1) (fun p z=>.inl z) p.kept (fun x z=>?_) (fun x hx z=>?_) q⟩
  .rcases z with z|z|z
   .exact(p.new x (.inr z)).imp (fun y=>.inl y) id
   .exact .inl (.inr z)
   .exact(p.new x (.inl z)).imp (fun y=>.inl y) id
  .obtain⟨i,hi⟩:=z
   exact hr.off i x hi (.inr hx)
 | ref i =>
  subst hn;simp only[peek] at e;split at e
  .rename_i st b hb
   cases e;obtain⟨a',e2,es,ea⟩:=p.stab i .ro a (by rw[EB,hb]; simp[nameOf]) (by decide);cases ea rfl;obtain⟨v',h1,h2⟩:=p.rel.slot i _ _ e2;rw[es,q.2] at h1;cases h1;exact⟨_,h2⟩
  .cases e
theorem Kv{it:MI}{pat:Nat}{c:MT}{e:ME}{Q:VK}(h:tE K (BL it pat c e) σ H Q):tLc (tI K it) (Wr K pat) (tT K c) (tE K e) σ H Q:=by
 obtain⟨Z,O,fp,rl,x,Z',h0,k⟩:=h;simp only[BL,bind_eq_some_iff] at h0;obtain⟨⟨ds,n,Z1⟩,e1,h0⟩:=h0;split at h0
 case isFalse=>cases h0
 rename_i hz;simp only[map_eq_some_iff] at h0;obtain⟨⟨es,Z8⟩,e2,e3⟩:=h0;cases e3;refine⟨Z,O,fp,rl,ds,n,Z1,e1,fun J H1 yy acc hacc=>?_⟩;obtain⟨r,v,a,L,fp1,p1,q1,hn,ha,hJ⟩:=yy;have hlk:∀i,n=some i->∃st,Z1[i]? = some (some (st,a)):=fun i hi=>by
  rw[hn] at hi;cases r with
  | val b=>simp[nameOf] at hi
  | ref j =>
   simp only[nameOf,Option.some.injEq] at hi;subst hi;simp only[peek] at ha;split at ha
   .rename_i st b hb
    cases ha;exact⟨st,hb⟩
   .cases ha
 have rl1:Rel K (lock Z1 n) σ H1 (ad O L) fp1:=p1.rel.lock;have st0:Post K (ad O L) fp1 H1 (lock Z1 n) (lock Z1 n) σ σ [acc] fp1 (upd H1 acc (.lst [])):=rl1.post.more (EI hacc) (by simp) fun p hp=>by
  have:p=acc:=by simpa using hp
  subst this;exact .inr ⟨hacc,by rw[AR]; simp⟩
 refine⟨fun i m ys H'=>m=ds.length-i/\i<=ds.length/\H' acc=some (.lst ys)/\ys.length<=i/\∃Z' fp' done rest,Post K (ad O L) fp1 H1 (lock Z1 n) Z' σ σ [acc] fp' H'/\Ay (NN fp' (ad (ad O L) [acc])) H' ys done/\Fc pat c e (ds.drop i) Z'=some (rest,Z8)/\es=done++rest,
  ⟨ds.length,by simp,Nat.zero_le _,AR,by simp,lock Z1 n,fp1,[],es,st0,trivial,by simpa using e2,rfl⟩,?_⟩
 rintro i m ys H2 ⟨rfl,hi,hy,hyl,Z2,fp2,done,rest,p2,qd,e2,ees⟩;refine⟨hy,?_⟩;obtain⟨L',src⟩:=Sd hn p1.rel q1 ha p2;have offacc:∀j,acc∉fp2 j:=fun j z=>p2.rel.off j acc z (.inr (by simp));by_cases hlt:i<ds.length
 .obtain⟨go,stop,yld⟩:=hJ _ _ ⟨⟨L',src⟩,fun _ _ h=>p2.kept _ _ h (.inr rfl),fun _ _ q=>p2.stayT q⟩
  refine .inr ⟨go i hlt,fun x H3 y=>?_⟩;have hd:ds[i]? = some ds[i]:=by simp[hlt]
  obtain⟨sm,qx0⟩:=yld i x H3 _ y hd;have qx:RepA (NN fp2 (ad (ad O L) [acc])) H3 x ds[i]:=qx0;have p3:Post K (ad O L) fp1 H1 (lock Z1 n) Z2 σ σ [acc] fp2 H3:=p2.more sm p2.nd fun p hp=>.inl hp;have hy3:H3 acc=some (.lst ys):=sm _ _ hy;have qd3:Ay (NN fp2 (ad (ad O L) [acc])) H3 ys done:=qd.tr (M:=fun _=>False) (fun _ z=>z.elim) (Ew.kept sm) fun p z=>.inl z;rw[List.drop_eq_getElem_cons hlt] at e2;simp only[Fc,bind_eq_some_iff] at e2;obtain⟨bs,eb,⟨b,Z3⟩,ec,e4⟩:=e2;obtain⟨vs,hu,hvs⟩:=RH (K:=K) qx eb;have rb:=p3.rel.block hvs;refine⟨vs,hu,_,_,_,rb,b,Z3,ec,fun fp4 H4 p4=>?_⟩;have keep:∀{Z5:Ro} {fp5:Nat->List Addr} {H5:Hp},Post K (ad (ad O L) [acc]) (sh bs.length fp2) H3 (bs.map own++Z2) Z5 (vs.map some++σ) (vs.map some++σ) [] fp5 H5 ->
    H5 acc=some (.lst ys)/\Post K (ad O L) fp1 H1 (lock Z1 n) (Z5.drop bs.length) σ σ [acc] (fun j=>fp5 (j+bs.length)) H5/\Ay (NN (fun j=>fp5 (j+bs.length)) (ad (ad O L) [acc])) H5 ys done:=fun {Z5 fp5 H5} p5=>by
   have u:=p5.unblock hvs.len;refine⟨p5.kept _ _ hy3 (.inl fun z=>?_),p3.then u,IW (fun p z=>F0.mpr z) (u.ds qd3)⟩;obtain⟨j,z⟩:=Na.mp z;exact offacc j z
  cases b with
  | false =>
   simp only[Bool.false_eq_true,if_false] at e4;dsimp only;rw[if_neg Bool.false_ne_true];obtain⟨h1,h2,h3⟩:=keep p4;exact⟨ds.length-(i+1),by lia,rfl,hlt,h1,by lia,_,_,done,rest,h2,h3,e4,ees⟩
  | true =>
   simp only[if_true,bind_eq_some_iff,map_eq_some_iff] at e4;obtain⟨⟨r5,Z5⟩,e5,⟨d6,Z6⟩,e6,⟨rest',Z7⟩,e7,e8⟩:=e4;cases e8;dsimp only;rw[if_pos rfl];refine⟨Z3,_,fp4,p4.rel0,r5,Z5,e5,fun y H5 yy=>?_⟩;obtain⟨L5,fp5,p5,q5⟩:=yy;obtain⟨fp6,p6,q6⟩:=E1 p5 q5 e6;obtain⟨h1,h2,h3⟩:=keep (p4.next p6);have hacc1:H1 acc=none:=hacc;refine⟨h1,Nat.lt_of_lt_of_le (Nat.lt_of_le_of_lt hyl hlt) hz,ds.length-(i+1),by lia,rfl,hlt,AR,by simp; lia,_,_,done++[d6],rest',h2.updT (by simp) hacc1 h1,?_,e7,by rw[ees]; simp⟩;have tr:∀{ws:List V} {fs:List D},Ay (NN (fun j=>fp6 (j+bs.length)) (ad (ad O L) [acc])) H5 ws fs->Ay (NN (fun j=>fp6 (j+bs.length)) (ad (ad O L) [acc])) (upd H5 acc (.lst (ys++[y]))) ws fs:=fun q =>
    q.tr (M:=fun q=>q=acc) (fun b z=>by rw[z]; exact .inr (.inr (by simp))) (DF h1) fun p z=>.inl z
   refine tr (Hf h3 ⟨E5 (fun p z=>?_) q6,trivial⟩);exact F0.mpr (z.imp (fun⟨j,q⟩=>⟨_,q⟩) id)
 .have:i=ds.length:=by lia
  subst this;obtain⟨go,stop,yld⟩:=hJ _ _ ⟨⟨L',src⟩,fun _ _ h=>p2.kept _ _ h (.inr rfl),fun _ _ q=>p2.stayT q⟩;simp only[List.drop_length,Fc,Option.some.injEq,Prod.mk.injEq] at e2;obtain⟨rfl,rfl⟩:=e2;refine .inl ⟨stop _ (Nat.le_refl _),k _ _ ?_⟩;have p3:=(p1.then (p2.unlock hlk)).drop;refine⟨[acc],fp2,p3,?_⟩;show AA _ _ _ _ _ _;rw[AA];rw[List.append_nil] at ees;subst ees;refine⟨acc,ys,[],rfl,rfl,hy,Nat.le_trans hyl hz,Ap.of (IW (fun p z=>?_) qd)⟩;rcases z with z|z|z
  .exact .inl z
  .exact .inr (.inl (.inl z))
  .exact .inr (.inr z)
end
noncomputable def EZ:List (Own×A)->List A->Ro
 | (st,_)::args,a::as=>(if st=.own then none else some (st,a))::EZ args as
 | [],_=>[]
 | _::_,[]=>[]
noncomputable def Vn(K:Frag)(O:Addr->Prop)(fp:Nat->List Addr)(H:Hp)(args:List (Own×A))(as':List A)(vs:List V)(a:A)(v:V)(H':Hp):Prop:=
 ∃L fp',Post K O fp H (args.map some) (EZ args as') (vs.map some) (vs.map some) L fp' H'/\AA K (NN fp' (ad O L)) H' v a L
noncomputable def spJ(K:Frag)(Φ:Fn)(np:Nat):Sp:=fun vs H Q _=>∃args O fp,vs.length=np/\Rel K (args.map some) (vs.map some) H O fp/\∃a as',Φ args=some (a,as')/\∀v H',Vn K O fp H args as' vs a v H'->Q v H'
theorem Ip:∀{args:List (Own×A)} {as:List A} {j:Nat} {st:Own} {a:A},(EZ args as)[j]? = some (some (st,a))->∃a0,args[j]? = some (st,a0)/\st≠.own/\as[j]? = some a
 | [],_,j,st,a,h=>by simp[EZ] at h
 | _::_,[],j,st,a,h=>by simp[EZ] at h
 | (st0,a0)::args,b::as,0,st,a,h=>by
  simp only[EZ,List.getElem?_cons_zero,Option.some.injEq] at h;split at h
  .cases h
  .rename_i hs
   cases h;exact⟨a0,rfl,hs,rfl⟩
 | (st0,a0)::args,b::as,j+1,st,a,h=>by
  simp only[EZ,List.getElem?_cons_succ] at h;obtain⟨a1,h1,h2,h3⟩:=Ip h;exact⟨a1,by simpa using h1,h2,by simpa using h3⟩
theorem HZ:∀{args:List (Own×A)} {as:List A} {j:Nat} {st:Own} {a0 a:A},args[j]? = some (st,a0)->st≠.own->as[j]? = some a->(EZ args as)[j]? = some (some (st,a))
 | [],_,j,st,a0,a,h,_,_=>by simp at h
 | _::_,[],j,st,a0,a,_,_,h=>by simp at h
 | (st0,b0)::args,b::as,0,st,a0,a,h,hs,h2=>by
  simp at h h2;obtain⟨rfl,rfl⟩:=h;subst h2;simp[EZ,hs]
 | (st0,b0)::args,b::as,j+1,st,a0,a,h,hs,h2=>by
  simp only[EZ,List.getElem?_cons_succ];exact HZ (by simpa using h) hs (by simpa using h2)
theorem Iq:∀{args:List (Own×A)} {as:List A},(EZ args as).length=min args.length as.length
 | [],_=>by simp[EZ]
 | _::_,[]=>by simp[EZ]
 | (st,_)::args,a::as=>by simp[EZ,Iq]
section
variable{K:Frag}{Z Z' Z1 Z2:Ro}{σ σ' σ1 σ2:St}{H H' H1 H2:Hp}{O O' N:Addr->Prop}{fp fp' fp1 fp2:Nat->List Addr}{L L1:List Addr}
theorem Lx{args:List (Own×A)}{vs:List V}{n:Nat}(hl:vs.length=args.length)(x:Post K O fp H (args.map some++List.replicate n none) Z' (vs.map some++List.replicate n none) σ' L fp' H'):
  ∃fp2,Post K O fp H (args.map some) (EZ args ((Z'.take args.length).map GD)) (vs.map some) (vs.map some) L fp2 H'/\∀p,NN fp2 (ad O L) p->NN fp' (ad O L) p:=by
 have hlen:args.length <= Z'.length:=by
  have:=x.rel.len;have:=x.ln;simp at this;lia
 have a0:∀{j:Nat} {st:Own} {a:A},args[j]? = some (st,a)->(args.map some++List.replicate n (none:Slot))[j]? = some (some (st,a)):=fun {j st a} e=>by
  rw[List.getElem?_append_left (by simpa using AG e),List.getElem?_map,e]; rfl
 have v0:∀{j:Nat},j<args.length->(vs.map some++List.replicate n (none:Option V))[j]? = (vs.map some)[j]?:=fun {j} h=>by
  rw[List.getElem?_append_left (by rw[List.length_map,hl]; exact h)]
 -- where a lent name stands
 have key:∀{j:Nat} {st:Own} {a:A},args[j]? = some (st,a)->st≠.own->∃a',Z'[j]? = some (some (st,a'))/\σ'[j]? = (vs.map some)[j]?/\(st=.ro->a'=a)/\((Z'.take args.length).map GD)[j]? = some a':=fun {j st a} e h=>by
  obtain⟨a',e1,e2,e3⟩:=x.stab j st a (a0 e) h;refine⟨a',e1,by rw[e2,v0 (AG e)],e3,?_⟩;rw[List.getElem?_map,List.getElem?_take_of_lt (AG e),e1];rfl
 let fp2:Nat->List Addr:=fun j=>match (EZ args ((Z'.take args.length).map GD))[j]? with
  | some (some _)=>fp' j
  | _=>[]
 have sub:∀j p,p∈fp2 j->p∈fp' j/\∃st a,(EZ args ((Z'.take args.length).map GD))[j]? = some (some (st,a)):=fun j p h=>by
  simp only[fp2] at h;split at h
  .rename_i y e
   exact⟨h,y.1,y.2,e⟩
  .simp at h
 have nn:∀p,NN fp2 (ad O L) p->NN fp' (ad O L) p:=fun p z=>z.imp (fun⟨j,q⟩=>⟨j,(sub j p q).1⟩) id;refine⟨fp2,⟨⟨?_,fun j st a e=>?_,fun j h=>?_,fun j=>?_,fun i j p h1 h2=>x.rel.inj i j p (sub i p h1).1 (sub j p h2).1,fun j p h=>x.rel.off j p (sub j p h).1,fun p z=>x.rel.al p (nn p z)⟩,x.nd,x.lo,fun p hp=>x.new p (hp.imp id fun⟨j,q⟩=>⟨j,(sub j p q).1⟩),x.kept,rfl,fun j st a e h=>?_⟩,nn⟩
 .rw[Iq]; simp[hl]; lia
 .obtain⟨a0,e1,e2,e3⟩:=Ip e
  obtain⟨a',e4,e5,_,e6⟩:=key e1 e2;rw[e3] at e6; cases e6;obtain⟨v,e7,q⟩:=x.rel.slot j st a e4;refine⟨v,by rw[<- e5]; exact e7,?_⟩;have:fp2 j=fp' j:=by simp only[fp2,e]
  rw[this];exact Dx nn q
 .simp only[fp2]
  split
  .rename_i y e
   exact absurd e (h y.1 y.2)
  .rfl
 .simp only[fp2]
  split
  .exact x.rel.nd j
  .exact List.nodup_nil
 .rw[List.getElem?_map] at e
  cases q:args[j]? with
  | none=>rw[q] at e; cases e
  | some y =>
   rw[q] at e;cases e;obtain⟨a',e4,e5,e6,e7⟩:=key q h;exact⟨a',HZ q h e7,rfl,e6⟩
theorem Rel.start{args:List (Own×A)}{vs:List V}(r:Rel K (args.map some) (vs.map some) H O fp)(n:Nat):Rel K (args.map some++List.replicate n none) (vs.map some++List.replicate n none) H O fp where
 len:=by have:=r.len; simp at this |-; exact this
 slot:=fun i st a e=>by
  by_cases hi:i<args.length
  .rw[List.getElem?_append_left (by simpa using hi)] at e
   obtain⟨v,e1,q⟩:=r.slot i st a e;exact⟨v,by rw[List.getElem?_append_left (by simpa using AG e1)]; exact e1,q⟩
  .rw[List.getElem?_append_right (by simpa using hi),List.getElem?_replicate] at e
   split at e<;>cases e
 out:=fun i h=>r.out i fun st a e=>h st a (by rw[List.getElem?_append_left (by simpa using AG e)]; exact e)
 nd:=r.nd
 inj:=r.inj
 off:=r.off
 al:=r.al
theorem JY{np nn:Nat}{b:MS}{vs:List V}{Q:VK}{E:XK}(h:spJ K (fnM np nn b) np vs H Q E):tS K b { nx:=fun _ H'=>Q .non H',rt:=Q } (vs.map some++List.replicate (nn-np) none) H:=by
 obtain⟨args,O,fp,hl,rl,a,as',e,k⟩:=h;have hl2:vs.length=args.length:=by have:=rl.len; simp at this; exact this.symm
 simp only[fnM] at e;split at e
 .rename_i ha
  simp only[bind_eq_some_iff] at e;obtain⟨f,e1,e2⟩:=e;refine⟨_,O,fp,rl.start (nn-np),f,e1,?_⟩;cases f with
  | next Z' =>
   cases e2;intro σ' fp' H' p;obtain⟨fp2,p2,_⟩:=Lx hl2 p;rw[ha] at p2;exact k _ _ ⟨[],fp2,p2,D8 .non⟩
  | ret b Z' =>
   cases e2;intro σ' v L fp' H' p q;obtain⟨fp2,p2,n2⟩:=Lx hl2 p;rw[ha] at p2;exact k _ _ ⟨L,fp2,p2,Dx n2 q⟩
  | brk Z'=>cases e2
  | cnt Z'=>cases e2
 .cases e
theorem RRs.split:∀{rs:List R} {vs:List V} {L:List Addr},RRs K N H σ vs rs L->L.Nodup->∃Ls:Nat->List Addr,(∀j v r,vs[j]? = some v->rs[j]? = some r->RR K N H σ v r (Ls j))/\(∀j p,p∈Ls j->p∈L)/\(∀j,(Ls j).Nodup) /\
  (∀i j p,p∈Ls i->p∈Ls j->i=j)/\vs.length=rs.length/\∀j,rs.length<=j->Ls j=[]:=by
 intro _l;induction _l with
 | nil =>
  intro _m;cases _m with
  | nil =>
   intro L q nd;exact⟨fun _=>[],fun j v r h=>by simp at h,fun j p h=>by simp at h,fun _=>List.nodup_nil,fun i j p h=>by simp at h,rfl,fun _ _=>rfl⟩
  | cons _ _ =>
   intro _ q _;simp only[RRs] at q
 | cons r rs ih =>
  intro _m;cases _m with
  | nil =>
   intro _ q _;simp only[RRs] at q
  | cons v vs =>
   intro L q nd;simp only[RRs] at q;obtain⟨L1,L2,rfl,q1,q2⟩:=q;obtain⟨n1,n2,n3⟩:=List.nodup_append.mp nd;obtain⟨Ls,h1,h2,h3,h4,h5,h6⟩:=ih q2 n2;refine⟨fun j=>match j with|0=>L1|j+1=>Ls j,fun j w s e1 e2=>?_,fun j p h=>?_,fun j=>?_,fun i j p e1 e2=>?_,by simp[h5],fun j hj=>?_⟩
   .cases j with
    | zero=>simp at e1 e2; subst e1; subst e2; exact q1
    | succ j=>exact h1 j w s (by simpa using e1) (by simpa using e2)
   .cases j with
    | zero=>exact List.mem_append_left _ h
    | succ j=>exact List.mem_append_right _ (h2 j p h)
   .cases j with
    | zero=>exact n1
    | succ j=>exact h3 j
   .cases i with
    | zero =>
     cases j with
     | zero=>rfl
     | succ j=>exact absurd rfl (n3 p e1 p (h2 j p e2))
    | succ i =>
     cases j with
     | zero=>exact absurd rfl (n3 p e2 p (h2 i p e1))
     | succ j=>rw[h4 i j p e1 e2]
   .cases j with
    | zero=>simp at hj
    | succ j=>exact h6 j (by simpa using hj)
theorem EC:∀{rs:List R} {j i:Nat},rs[j]? = some (.ref i)->i∈refs rs
 | [],j,i,h=>by simp at h
 | .ref k::rs,0,i,h=>by simp at h; subst h; simp[refs]
 | .val a::rs,0,i,h=>by simp at h
 | .ref k::rs,j+1,i,h=>by simp only[refs]; exact List.mem_cons_of_mem _ (EC (by simpa using h))
 | .val a::rs,j+1,i,h=>by simp only[refs]; exact EC (by simpa using h)
theorem IE:∀{rs:List R},(refs rs).Nodup->∀{i j k:Nat},rs[i]? = some (.ref k)->rs[j]? = some (.ref k)->i=j
 | [],_,i,j,k,h,_=>by simp at h
 | .val a::rs,nd,0,_,_,h,_=>by simp at h
 | .val a::rs,nd,_+1,0,_,_,h=>by simp at h
 | .val a::rs,nd,i+1,j+1,k,h1,h2=>by
  have e:=IE (rs:=rs) nd (i:=i) (j:=j) (k:=k) (by simpa using h1) (by simpa using h2);rw[e]
 | .ref a::rs,nd,0,0,_,_,_=>rfl
 | .ref a::rs,nd,0,j+1,k,h1,h2=>by
  simp at h1; subst h1;simp only[refs,List.nodup_cons] at nd;exact absurd (EC (by simpa using h2)) nd.1
 | .ref a::rs,nd,i+1,0,k,h1,h2=>by
  simp at h2; subst h2;simp only[refs,List.nodup_cons] at nd;exact absurd (EC (by simpa using h1)) nd.1
 | .ref a::rs,nd,i+1,j+1,k,h1,h2=>by
  simp only[refs,List.nodup_cons] at nd;have e:=IE (rs:=rs) nd.2 (i:=i) (j:=j) (k:=k) (by simpa using h1) (by simpa using h2);rw[e]
theorem IK{i k:Nat}{a:A}:(MK Z k a)[i]? = if i=k then (match Z[i]? with|some (some (st,_))=>some (some (st,a))|x=>x) else Z[i]?:=by
 unfold MK;split
 .rename_i st b e
  by_cases h:i=k
  .subst h
   rw[List.getElem?_set_self (AG e),if_pos rfl,e]
  .rw[List.getElem?_set_ne (Ne.symm h),if_neg h]
 .rename_i hn
  by_cases h:i=k
  .subst h
   rw[if_pos rfl];split
   .rename_i st b e
    exact absurd e (hn st b)
   .rfl
  .rw[if_neg h]
theorem Ez:∀{rs:List R} {as:List A} {Z:Ro} {i:Nat},i∉refs rs->(back rs as Z)[i]? = Z[i]?
 | [],as,Z,i,_=>by cases as<;>rfl
 | .ref k::rs,[],Z,i,_=>rfl
 | .val k::rs,[],Z,i,_=>rfl
 | .ref k::rs,a::as,Z,i,h=>by
  simp only[refs,List.mem_cons,not_or] at h;simp only[back];rw[Ez h.2,IK,if_neg h.1]
 | .val k::rs,a::as,Z,i,h=>by
  simp only[refs] at h;simp only[back];exact Ez h
theorem Gf:∀{rs:List R} {as:List A} {Z:Ro} {i j:Nat} {st:Own} {b a:A},(refs rs).Nodup->rs[j]? = some (.ref i)->as[j]? = some a -> Z[i]? = some (some (st,b))->(back rs as Z)[i]? = some (some (st,a))
 | [],as,Z,i,j,st,b,a,_,h,_,_=>by simp at h
 | _::_,[],Z,i,j,st,b,a,_,_,h,_=>by simp at h
 | .ref k::rs,c::as,Z,i,0,st,b,a,nd,h1,h2,h3=>by
  simp at h1 h2;subst h1; subst h2;simp only[refs,List.nodup_cons] at nd;simp only[back];rw[Ez nd.1,IK,if_pos rfl,h3]
 | .val k::rs,c::as,Z,i,0,st,b,a,nd,h1,h2,h3=>by simp at h1
 | .ref k::rs,c::as,Z,i,j+1,st,b,a,nd,h1,h2,h3=>by
  simp only[refs,List.nodup_cons] at nd;simp only[back];have hk:i≠k:=by
   rintro rfl;exact nd.1 (EC (by simpa using h1))
  exact Gf nd.2 (by simpa using h1) (by simpa using h2) (by rw[IK,if_neg hk]; exact h3)
 | .val k::rs,c::as,Z,i,j+1,st,b,a,nd,h1,h2,h3=>by
  simp only[refs] at nd;simp only[back];exact Gf nd (by simpa using h1) (by simpa using h2) h3
theorem HQ:∀{rs:List R} {as:List A} {Z:Ro},(back rs as Z).length=Z.length
 | [],as,Z=>by cases as<;>rfl
 | .ref k::rs,[],Z=>rfl
 | .val k::rs,[],Z=>rfl
 | .ref k::rs,a::as,Z=>by
  simp only[back];rw[HQ];unfold MK;split<;>simp
 | .val k::rs,a::as,Z=>by simp only[back]; exact HQ
theorem args_get:∀{rs:List R} {args:List (Own×A)},CI Z rs=some args->args.length=rs.length/\∀(j:Nat) (r:R),rs[j]? = some r->∃y,args[j]? = some y/\E9 Z r=some y:=by
 intro _l;induction _l with
 | nil =>
  intro args h;simp only[CI,Option.some.injEq] at h;subst h;exact⟨rfl,fun j r h=>by simp at h⟩
 | cons r rs ih =>
  intro args h;simp only[CI,bind_eq_some_iff,map_eq_some_iff] at h;obtain⟨y,h1,ys,h2,rfl⟩:=h;obtain⟨e1,e2⟩:=ih h2;refine⟨by simp[e1],fun j s hj=>?_⟩;cases j with
  | zero=>simp at hj; subst hj; exact⟨y,rfl,h1⟩
  | succ j=>exact e2 j s (by simpa using hj)
theorem Ey{i:Nat}{y:Own×A}(h:E9 Z (.ref i)=some y):∃st,Z[i]? = some (some (st,y.2))/\y.1≠.own/\(st=.ro->y.1=.ro):=by
 simp only[E9] at h;split at h
 .rename_i a e
  cases h;exact⟨_,e,fun z=>(by cases z),fun _=>rfl⟩
 .rename_i st a hn e
  cases h;refine⟨_,e,fun z=>(by cases z),fun z=>?_⟩
  exact(hn z).elim
 .cases h
end
section
variable{K:Frag}{Z Z' Z1 Z2:Ro}{σ σ' σ1 σ2:St}{H H' H1 H2:Hp}{O O' N:Addr->Prop}{fp fp' fp1 fp2:Nat->List Addr}{L L1:List Addr}
noncomputable def fpC(rs:List R)(Ls fp1:Nat->List Addr):Nat->List Addr:=fun j=>match rs[j]? with
 | some (.val _)=>Ls j
 | some (.ref i)=>fp1 i
 | none=>[]
noncomputable def ixR(rs:List R)(i:Nat):Option Nat:=rs.findIdx? fun r=>match r with
 | .ref k=>k==i
 | .val _=>false
theorem Gs{rs:List R}{i j:Nat}(h:ixR rs i=some j):rs[j]? = some (.ref i):=by
 unfold ixR at h;obtain⟨hj,h1,_⟩:=List.findIdx?_eq_some_iff_getElem.mp h;cases e:rs[j] with
 | val a=>rw[e] at h1; simp at h1
 | ref k =>
  rw[e] at h1;have:k=i:=by simpa using h1
  subst this;rw[List.getElem?_eq_getElem hj,e]
theorem Gr{rs:List R}{i:Nat}(h:ixR rs i=none):i∉refs rs:=by
 unfold ixR at h;rw[List.findIdx?_eq_none_iff] at h;intro hm;have:∀{rs:List R},i∈refs rs->R.ref i∈rs:=by
  intro rs;induction rs with
  | nil=>intro h; simp[refs] at h
  | cons r rs ih =>
   intro h;cases r with
   | val a=>simp only[refs] at h; exact List.mem_cons_of_mem _ (ih h)
   | ref k =>
    simp only[refs,List.mem_cons] at h;rcases h with rfl|h
    .exact List.mem_cons_self
    .exact List.mem_cons_of_mem _ (ih h)
 have:=h _ (this hm);simp at this
theorem Nw{Φ:Fn}{np:Nat}{m:MA}{Q:VK}{E:XK}(hnp:∀args y,Φ args=some y->args.length=np)(h:tE K (Au Φ m) σ H Q):LB (spJ K Φ np) [] E (tA K m) σ H Q:=by
 obtain⟨Z,O,fp,rl,x,Z',e,k⟩:=h;simp only[Au,bind_eq_some_iff] at e;obtain⟨⟨rs,Z1⟩,e1,args,e2,e3⟩:=e;split at e3
 case isFalse=>cases e3
 rename_i hnd;simp only[map_eq_some_iff] at e3;obtain⟨⟨a,as'⟩,e3,e4⟩:=e3;cases e4;refine⟨Z,O,fp,rl,rs,Z1,e1,fun vs H1 yy=>?_⟩;obtain⟨L,fp1,p,q⟩:=yy;obtain⟨Ls,s1,s2,s3,s4,s5,s6⟩:=q.split p.nd;obtain⟨g1,g2⟩:=args_get e2;rw[List.append_nil];have rs_of:∀{j:Nat} {y:Own×A},args[j]? = some y->∃r v,rs[j]? = some r/\vs[j]? = some v/\E9 Z1 r=some y:=fun {j y} hy=>by
  have hj:j<rs.length:=by rw[<- g1]; exact AG hy
  obtain⟨y',h1,h2⟩:=g2 j rs[j] (by simp[hj]);rw[hy] at h1; cases h1;exact⟨rs[j],vs[j]'(by rw[s5]; exact hj),by simp[hj],by simp,h2⟩
 -- what goes with the call
 have fpc:∀j pp,pp∈fpC rs Ls fp1 j->(∃a,rs[j]? = some (.val a)/\pp∈Ls j)\/(∃i,rs[j]? = some (.ref i)/\pp∈fp1 i):=fun j pp hp=>by
  unfold fpC at hp;split at hp
  .rename_i a e; exact .inl ⟨a,e,hp⟩
  .rename_i i e; exact .inr ⟨i,e,hp⟩
  .simp at hp
 have cN:∀pp,Fp (fpC rs Ls fp1) pp->NN fp1 (ad O L) pp:=fun pp ⟨j,hp⟩=>by
  rcases fpc j pp hp with ⟨_,_,hp⟩|⟨i,_,hp⟩
  .exact .inr (.inr (s2 j pp hp))
  .exact .inl ⟨i,hp⟩
 have oN:∀pp,O pp->¬Fp (fpC rs Ls fp1) pp:=fun pp ho ⟨j,hp⟩=>by
  rcases fpc j pp hp with ⟨_,_,hp⟩|⟨i,_,hp⟩
  .exact p.lo pp (s2 j pp hp) ho
  .exact p.rel.off i pp hp (.inl ho)
 have kN:∀i pp,pp∈fp1 i->i∉refs rs->¬Fp (fpC rs Ls fp1) pp:=fun i pp hp hi ⟨j,hq⟩=>by
  rcases fpc j pp hq with ⟨_,_,hq⟩|⟨i',hr,hq⟩
  .exact p.rel.off i pp hp (.inr (s2 j pp hq))
  .have:=p.rel.inj i i' pp hp hq
   subst this;exact hi (EC hr)
 let OC:Addr->Prop:=fun pp=>NN fp1 (ad O L) pp/\¬Fp (fpC rs Ls fp1) pp
 have cNN:∀pp,NN (fpC rs Ls fp1) OC pp->NN fp1 (ad O L) pp:=fun pp z=>z.elim (cN pp) fun z=>z.1;have relC:Rel K (args.map some) (vs.map some) H1 OC (fpC rs Ls fp1):=by
  refine⟨by simp[g1,s5],fun j st b hb=>?_,fun j h=>?_,fun j=>?_,fun i j pp h1 h2=>?_,fun j pp hp z=>z.2 ⟨j,hp⟩,fun pp z=>p.rel.al pp (cNN pp z)⟩
  .rw[List.getElem?_map] at hb
   cases hy:args[j]? with
   | none=>rw[hy] at hb; cases hb
   | some y =>
    rw[hy] at hb;cases hb;obtain⟨r,v,hr,hv,ha⟩:=rs_of hy;refine⟨v,by rw[List.getElem?_map,hv]; rfl,Dx cNN ?_⟩;have q1:=s1 j v r hv hr;cases r with
    | val c =>
     simp only[E9,Option.some.injEq] at ha;cases ha;have:fpC rs Ls fp1 j=Ls j:=by simp[fpC,hr]
     rw[this];exact q1
    | ref i =>
     obtain⟨st',h1,h2,_⟩:=Ey ha;obtain⟨v',h3,h4⟩:=p.rel.slot i _ _ h1;rw[q1.2] at h3; cases h3;have:fpC rs Ls fp1 j=fp1 i:=by simp[fpC,hr]
     rw[this];exact h4
  .unfold fpC
   split
   .rename_i c e
    obtain⟨y,hy,_⟩:=g2 j _ e;exact absurd (by rw[List.getElem?_map,hy]; rfl) (h y.1 y.2)
   .rename_i c e
    obtain⟨y,hy,_⟩:=g2 j _ e;exact absurd (by rw[List.getElem?_map,hy]; rfl) (h y.1 y.2)
   .rfl
  .unfold fpC
   split
   .exact s3 j
   .exact p.rel.nd _
   .exact List.nodup_nil
  .rcases fpc i pp h1 with ⟨c1,r1,z1⟩|⟨i1,r1,z1⟩
   .rcases fpc j pp h2 with ⟨c2,r2,z2⟩|⟨i2,r2,z2⟩
    .exact s4 i j pp z1 z2
    .exact absurd (.inr (s2 i pp z1)) (p.rel.off i2 pp z2)
   .rcases fpc j pp h2 with ⟨c2,r2,z2⟩|⟨i2,r2,z2⟩
    .exact absurd (.inr (s2 j pp z2)) (p.rel.off i1 pp z1)
    .have:=p.rel.inj i1 i2 pp z1 z2
     subst this;exact IE hnd r1 r2
 refine⟨args,OC,fpC rs Ls fp1,by rw[s5,<- g1]; exact hnp _ _ e3,relC,a,as',e3,fun v H2 ⟨L',fpD,pc,qc⟩=>k v H2 ?_⟩
 -- behind the call
 have hlen:rs.length<=as'.length:=by
  have:=pc.rel.len;rw[Iq] at this;simp at this;lia
 let fp2:Nat->List Addr:=fun i=>match ixR rs i with
  | some j=>fpD j
  | none=>fp1 i
 have fp2c:∀i pp,pp∈fp2 i->(∃j,rs[j]? = some (.ref i)/\pp∈fpD j)\/(i∉refs rs/\pp∈fp1 i):=fun i pp hp=>by
  simp only[fp2] at hp;split at hp
  .rename_i j e; exact .inl ⟨j,Gs e,hp⟩
  .rename_i e; exact .inr ⟨Gr e,hp⟩
 have oOC:∀pp,O pp->OC pp:=fun pp z=>⟨.inr (.inl z),oN pp z⟩;have fOC:∀i pp,pp∈fp1 i->i∉refs rs->OC pp:=fun i pp hp hi=>⟨.inl ⟨i,hp⟩,kN i pp hp hi⟩;have nD:∀pp,NN fp2 (ad O L') pp->NN fpD (ad OC L') pp:=fun pp z=>by
  rcases z with ⟨i,z⟩|z|z
  .rcases fp2c i pp z with ⟨j,_,z⟩|⟨hi,z⟩
   .exact .inl ⟨j,z⟩
   .exact .inr (.inl (fOC i pp z hi))
  .exact .inr (.inl (oOC pp z))
  .exact .inr (.inr z)
 have hnew:∀pp,(pp∈L'\/Fp fpD pp)->NN fp1 (ad O L) pp\/H1 pp=none:=fun pp z=>(pc.new pp z).imp (cN pp) id;have back1:∀pp,(Fp (fpC rs Ls fp1) pp\/H1 pp=none)->Fp fp pp\/H pp=none:=fun pp z=>by
  rcases z with ⟨j,z⟩|z
  .rcases fpc j pp z with ⟨_,_,z⟩|⟨i,_,z⟩
   .exact p.new pp (.inl (s2 j pp z))
   .exact p.new pp (.inr ⟨i,z⟩)
  .cases e:H pp with
   | none=>exact .inr rfl
   | some o =>
    by_cases hf:Fp fp pp
    .exact .inl hf
    .rw[p.kept pp o e (.inl hf)] at z; cases z
 have slot2:∀i st b,(back rs as' Z1)[i]? = some (some (st,b))->(∃j,ixR rs i=some j/\rs[j]? = some (.ref i)/\as'[j]? = some b/\∃c,Z1[i]? = some (some (st,c)))\/(ixR rs i=none/\i∉refs rs/\Z1[i]? = some (some (st,b))):=fun i st b hb=>by
  cases e:ixR rs i with
  | some j =>
   have hr:=Gs e;have hj:j<rs.length:=AG hr;obtain⟨y,hy,ha⟩:=g2 j _ hr;obtain⟨st',h1,_,_⟩:=Ey ha;have hb':=Gf (as:=as') (a:=as'[j]'(by lia)) hnd hr (by simp) h1;rw[hb] at hb';cases hb';exact .inl ⟨j,rfl,hr,by simp,_,h1⟩
  | none =>
   have hi:=Gr e;rw[Ez hi] at hb;exact .inr ⟨rfl,hi,hb⟩
 have rel2:Rel K (back rs as' Z1) σ H2 (ad O L') fp2:=by
  refine⟨by rw[HQ]; exact p.rel.len,fun i st b hb=>?_,fun i h=>?_,fun i=>?_,fun i1 i2 pp h1 h2=>?_,fun i pp h z=>?_,fun pp z=>pc.rel.al pp (nD pp z)⟩
  .rcases slot2 i st b hb with ⟨j,ej,hr,hb2,c,hc⟩|⟨ej,hi,hb2⟩
   .obtain⟨y,hy,ha⟩:=g2 j _ hr
    obtain⟨st',h1,h2,_⟩:=Ey ha;obtain⟨v',h3,h4⟩:=pc.rel.slot j _ _ (HZ (st:=y.1) (a0:=y.2) hy h2 hb2);have hv:vs[j]? = some v':=by
     rw[List.getElem?_map] at h3;cases e:vs[j]? with
     | none=>rw[e] at h3; cases h3
     | some w=>rw[e] at h3; cases h3; rfl
    have q1:=s1 j v' _ hv hr;have:fp2 i=fpD j:=by simp only[fp2,ej]
    exact⟨v',q1.2,by rw[this]; exact Dx nD h4⟩
   .obtain⟨v',h3,h4⟩:=p.rel.slot i _ _ hb2
    have:fp2 i=fp1 i:=by simp only[fp2,ej]
    refine⟨v',h3,?_⟩;rw[this];refine h4.tr (M:=Fp (fpC rs Ls fp1)) cN pc.kept (fun pp z=>?_) fun pp hp=>kN i pp hp hi;rcases z with ⟨i',z⟩|z|z
    .rcases fp2c i' pp z with ⟨j,_,z⟩|⟨_,z⟩
     .exact hnew pp (.inr ⟨j,z⟩)
     .exact .inl (.inl ⟨i',z⟩)
    .exact .inl (.inr (.inl z))
    .exact hnew pp (.inl z)
  .simp only[fp2]
   split
   .rename_i j ej
    have hr:=Gs ej;have hj:j<rs.length:=AG hr;obtain⟨y,hy,ha⟩:=g2 j _ hr;obtain⟨st',h1,_,_⟩:=Ey ha;exact absurd (Gf (as:=as') (a:=as'[j]'(by lia)) hnd hr (by simp) h1) (h _ _)
   .rename_i ej
    exact p.rel.out i fun st b hb=>h st b (by rw[Ez (Gr ej)]; exact hb)
  .simp only[fp2]
   split
   .exact pc.rel.nd _
   .exact p.rel.nd _
  .rcases fp2c i1 pp h1 with ⟨j1,r1,z1⟩|⟨r1,z1⟩
   .rcases fp2c i2 pp h2 with ⟨j2,r2,z2⟩|⟨r2,z2⟩
    .have:=pc.rel.inj j1 j2 pp z1 z2
     subst this;rw[r1] at r2; cases r2; rfl
    .exact absurd (.inl (fOC i2 pp z2 r2)) (pc.rel.off j1 pp z1)
   .rcases fp2c i2 pp h2 with ⟨j2,r2,z2⟩|⟨r2,z2⟩
    .exact absurd (.inl (fOC i1 pp z1 r1)) (pc.rel.off j2 pp z2)
    .exact p.rel.inj i1 i2 pp z1 z2
  .rcases fp2c i pp h with ⟨j,r1,z1⟩|⟨r1,z1⟩
   .exact pc.rel.off j pp z1 (z.imp (oOC pp) id)
   .rcases z with z|z
    .exact p.rel.off i pp z1 (.inl z)
    .exact pc.lo pp z (fOC i pp z1 r1)
 refine⟨L',fp2,⟨rel2,pc.nd,fun pp hp z=>pc.lo pp hp (oOC pp z),fun pp hp=>?_,p.kept.trans pc.kept fun pp z=>back1 pp (.inl z),rfl,p.stab.trans fun i st b hb hs=>?_⟩,Dx nD qc⟩
 .rcases hp with hp|⟨i,hp⟩
  .exact back1 pp (pc.new pp (.inl hp))
  .rcases fp2c i pp hp with ⟨j,_,z⟩|⟨_,z⟩
   .exact back1 pp (pc.new pp (.inr ⟨j,z⟩))
   .exact p.new pp (.inr ⟨i,z⟩)
 .cases e:ixR rs i with
  | none=>exact⟨b,by rw[Ez (Gr e)]; exact hb,rfl,fun _=>rfl⟩
  | some j =>
   have hr:=Gs e;have hj:j<rs.length:=AG hr;obtain⟨y,hy,ha⟩:=g2 j _ hr;obtain⟨st',h1,h2,h3⟩:=Ey ha;rw[hb] at h1; cases h1;refine⟨_,Gf (as:=as') (a:=as'[j]'(by lia)) hnd hr (by simp) hb,rfl,fun z=>?_⟩;obtain⟨a',h4,_,h5⟩:=pc.stab j y.1 y.2 (by rw[List.getElem?_map,hy]; rfl) h2;obtain⟨_,_,_,h6⟩:=Ip h4;have:as'[j]? = some (as'[j]'(by lia)):=by simp
   rw[this] at h6;have e5:=h5 (h3 z);have e6:as'[j]'(by lia)=a':=Option.some.inj h6;rw[e6,e5]
end
end J
end
section
namespace J
open PySem PySem.Spec PyProof.Rows L2
noncomputable def JE(X:Cx)(e:Expr)(m:ME):Prop:=PE X e (tE X.K m)
noncomputable def JT(X:Cx)(e:Expr)(m:MT):Prop:=PT X e (tT X.K m)
noncomputable def JW(X:Cx)(e:Expr)(m:MT):Prop:=PW X e (tT X.K m)
noncomputable def JA(X:Cx)(es:List Expr)(m:MA):Prop:=PA X es (tA X.K m)
noncomputable def JI(X:Cx)(tg e:Expr)(m:MI):Prop:=PI X tg e (tI X.K m)
noncomputable def JS(X:Cx)(s:Stmt)(m:MS):Prop:=PS X s (tS X.K m)
noncomputable def JSs(X:Cx)(s:List Stmt)(m:MS):Prop:=PSs X s (tS X.K m)
section
variable{X:Cx}{a b c e:Expr}{es:List Expr}{m m1 m2 m3:ME}{ms:MA}{mt mt2:MT}{mi:MI}{p pos pos':Pos}{x:Str}{s:Stmt}{ss:List Stmt}{w1 w2:MS}
theorem AO{t t':TE}(h:PE X e t)(w:∀σ H Q,t' σ H Q->t σ H Q):PE X e t':=fun pins s σ H Q I q=>h pins s σ H Q I (w σ H Q q)
theorem FC{t t':TT}(h:PT X e t)(w:∀σ H Q,t' σ H Q->t σ H Q):PT X e t':=fun pins s σ H Q I q=>h pins s σ H Q I (w σ H Q q)
theorem Np{t t':TT}(h:PW X e t)(w:∀σ H Q,t' σ H Q->t σ H Q):PW X e t':=fun wh pins s σ H Q I q=>h wh pins s σ H Q I (w σ H Q q)
theorem Nk{t t':TA}(h:PA X es t)(w:∀σ H Q,t' σ H Q->t σ H Q):PA X es t':=fun pp pins s σ H Q I q=>h pp pins s σ H Q I (w σ H Q q)
theorem Bg{t t':TS}(h:PS X s t)(w:∀D σ H,t' D σ H->t D σ H):PS X s t':=fun pins s σ H D I q=>h pins s σ H D I (w D σ H q)
theorem IB{t t':TS}(h:PSs X ss t)(w:∀D σ H,t' D σ H->t D σ H):PSs X ss t':=fun pins s σ H D I q=>h pins s σ H D I (w D σ H q)
theorem Kn{tg:Expr}{t t':TI}(h:PI X tg e t)(w:∀σ H R,t' σ H R->t σ H R):PI X tg e t':=fun pins s σ H R I q=>h pins s σ H R I (w σ H R q)
theorem Pc(i:Nat)(hN:X.N[i]? = some x)(hv:Vis X.env.scope x)(hd:(x==("__debug__" : Str))=false)(hcd:(x==("__classdict__" : Str))=false):JE X (.Name x pos) (Ag i):=AO (Iz hN hv hd hcd) fun _ _ _ h=>Qw h
theorem Ai{i:Int}{j:Nat}:JE X (.Constant (.int i) j pos) (Af (.int i)):=AO Ur fun _ _ _ h=>IS (fun _ _=>.int i) h
theorem CC{b:Bool}{j:Nat}:JE X (.Constant (.bool b) j pos) (Af (.bl b)):=AO VV fun _ _ _ h=>IS (fun _ _=>.bl b) h
theorem G6{j:Nat}:JE X (.Constant .none j pos) (Af .non):=AO Uz fun _ _ _ h=>IS (fun _ _=>.non) h
theorem Al{z:Str}{j:Nat}(hz:z.length<=sizeLine):JE X (.Constant (.str z) j pos) (Af (.str z)):=AO UC fun _ _ _ h=>IS (fun _ _=>.str z hz) h
theorem Fv{n:Int}(G:GInt X.mg x n)(hg:Gl X x)(hd:(x==("__debug__" : Str))=false):JE X (.Name x pos) (Af (.int n)):=AO (RK G rfl hg hd) fun _ _ _ h=>IS (fun _ _=>.int n) h
theorem Ad(h:JE X e m):JE X e (Ab m):=AO h fun _ _ _ h=>Qv h
theorem Ae:JA X [] Ah:=Nk Fq fun _ _ _ h=>Ku h
theorem Ac(hs:starEach (e::es) X.env=(false,eval e X.env)::starEach es X.env)(h:JE X e m)(t:JA X es ms):JA X (e::es) (Aa m ms):=Nk (De h t hs) fun _ _ _ h=>GL h
noncomputable def r1L(r:V->Hp->VK->Prop):List V->Hp->VK->Prop:=fun xs H Q=>∃x,xs=[x]/\r x H Q
noncomputable def r2L(r:R2):List V->Hp->VK->Prop:=fun xs H Q=>∃x y,xs=[x,y]/\r x y H Q
noncomputable def m1L(m:ME):MA:=Aa m Ah
noncomputable def m2L(m m':ME):MA:=Aa m (Aa m' Ah)
theorem two{K:Frag}{f:List A->Option A}{r:R2}(ok:OpN K f (r2L r)){σ:L2.St}{H:Hp}{Q:VK}(h:tE K (opM f (m2L m1 m2)) σ H Q):tOp r (tE K m1) (tE K m2) σ H Q:=by
 have h1:=GL (Qu ok h);refine tE.mono h1 fun v H1 h2=>tE.mono (GL h2) fun u H2 h3=>?_;obtain⟨x,y,e,q⟩:=Ku h3;cases e;exact q
theorem one{K:Frag}{f:List A->Option A}{r:V->Hp->VK->Prop}(ok:OpN K f (r1L r)){σ:L2.St}{H:Hp}{Q:VK}(h:tE K (opM f (m1L m)) σ H Q):tUn r (tE K m) σ H Q:=by
 refine tE.mono (GL (Qu ok h)) fun v H1 h2=>?_;obtain⟨x,e,q⟩:=Ku h2;cases e;exact q
theorem Ax{op:Operator}{f:List A->Option A}{r:R2}(ok:OpN X.K f (r2L r))(ho:OpR X (binaryOp op) r)(ha:JE X a m1)(hb:JE X b m2):JE X (.BinOp a op b pos) (opM f (m2L m1 m2)):=AO (VY ho ha hb) fun _ _ _ h=>two ok h
theorem VJ{op:UnaryOp}{f:List A->Option A}{r:V->Hp->VK->Prop}(ok:OpN X.K f (r1L r))(ho:UnR X (unaryOp op) r)(ha:JE X a m):JE X (.UnaryOp op a pos) (opM f (m1L m)):=AO (VZ ho ha) fun _ _ _ h=>one ok h
theorem ES{op:CmpOp}{f:List A->Option A}{r:R2}(ok:OpN X.K f (r2L r))(ho:OpR X (compareOp op) r)(hm:behindInMarks op b=false)(ha:JE X a m1)(hb:JE X b m2):JE X (.Compare a [op] [b] pos) (opM f (m2L m1 m2)):=AO (RJ ho ha hb hm) fun _ _ _ h=>two ok h
theorem CP{op:CmpOp}{f:List A->Option A}{r:R2}(ok:OpN X.K f (r2L r))(ho:OpR X (compareOp op) r)(hm:behindInMarks op b=false)(ha:JE X a m1)(hb:JE X b m2):JT X (.Compare a [op] [b] pos) (AX (opM f (m2L m1 m2))):=
 FC (Nm ho ha hb hm) fun _ _ _ h=>two ok (IT h)
theorem AM{f:List A->Option A}{r:R2}(ok:OpN X.K f (r2L r))(ho:IxR X r)(hs:M4 b)(ha:JE X a m1)(hb:JE X b m2):JE X (.Subscript a b pos) (opM f (m2L m1 m2)):=AO (VW ho ha hb hs) fun _ _ _ h=>two ok h
theorem AK{id:String}{f:List A->Option A}{r:List V->Hp->VK->Prop}(ok:OpN X.K f r)(hc:Dh X (.builtin id) r)(hm:X.mg x=none)(hv:bootBuiltins x=some (.builtin id))(hn:x ≠ "__name__")(hdb:(x==("__debug__" : Str))=false)(hg:Gl X x)(he:starEach (e::es) X.env=(false,eval e X.env)::starEach es X.env)(hpl:(backTo pos (starEach es X.env)).any (·.1)=false)(ha:JA X (e::es) ms):JE X (.Call (.Name x p) (e::es) [] pos) (opM f ms):=
 AO (Ob hc hm hv hn hdb hg he hpl ha) fun _ _ _ h=>Qu ok h
theorem DW{op:BoolOp}(h:JE X a m):JE X (.BoolOp op [a] pos) m:=UB h
theorem Dq(ha:JE X a m1)(hb:JE X (.BoolOp .And (b::es) pos) m2):JE X (.BoolOp .And (a::b::es) pos) (andM m1 m2):=AO (Uo ha hb) fun _ _ _ h=>U1 h
theorem Tw(ha:JE X a m1):JE X (.UnaryOp .Not a pos) (notM m1):=AO (UA ha) fun _ _ _ h=>U4 h
theorem Cb(he:∀whole,isTrue e X.env whole=(do let v <- whole; standAt e.pos; holding [v] (truthy v)))(h:JE X e m):JT X e (AX m):=FC (RS he h) fun _ _ _ h=>IT h
theorem Rp(ha:JT X a mt):JW X (.BoolOp .And [a] pos) mt:=RV ha
theorem G8(ha:JT X a mt):JW X (.BoolOp .Or [a] pos) mt:=UM ha
theorem TB(ha:JT X a mt)(hb:JW X (.BoolOp .And (b::es) pos) mt2):JW X (.BoolOp .And (a::b::es) pos) (JQ mt mt2):=Np (UL ha hb) fun _ _ _ h=>Vg h
theorem Ie(ha:JT X a mt)(hb:JW X (.BoolOp .Or (b::es) pos) mt2):JW X (.BoolOp .Or (a::b::es) pos) (orT mt mt2):=Np (V0 ha hb) fun _ _ _ h=>Wn h
theorem EU(h:JW X e mt):JT X e mt:=h.pt
theorem Cw(ha:JT X a mt):JT X (.UnaryOp .Not a pos) (C5 mt):=FC (P7 ha) fun _ _ _ h=>Vh h
theorem Qt{K:Frag}{f g:List A->Option A}{r r':R2}(ok:OpN K f (r2L r))(ok':OpN K g (r2L r')){σ:L2.St}{H:Hp}{Q:VK}(h:tE K (IZ f g m1 m2 m3) σ H Q):MU r r' (tE K m1) (tE K m2) (tE K m3) σ H Q:=by
 obtain⟨Z,O,fp,rl,y,Z',h0,k⟩:=h;simp only[IZ,bind_eq_some_iff] at h0;obtain⟨⟨r1,Z1⟩,e1,⟨r2,Z2⟩,e2,as,e3,z,e4,kb,e5,e6⟩:=h0;refine⟨Z,O,fp,rl,r1,Z1,e1,fun v1 H1 yy=>?_⟩;obtain⟨L1,fp1,p1,q1⟩:=yy;refine⟨Z1,ad O L1,fp1,p1.rel,r2,Z2,e2,fun v2 H2 yy=>?_⟩;obtain⟨L2,fp2,p2,q2⟩:=yy;have p12:=p1.then p2;have q1':=p2.rr p1.rel q1 fun _ z=>z;have q2':RR K (NN fp2 (ad O (L1++L2))) H2 σ v2 r2 L2:=by
  have e:ad (ad O L1) L2=ad O (L1++L2):=funext fun p=>propext JM;rw[<- e];exact q2
 have hs:JL K (NN fp2 (ad O (L1++L2))) H2 [v1,v2] as:=p12.rel.peeks (rs:=[r1,r2]) (L:=L1++L2) ⟨L1,L2,rfl,q1',L2,[],by simp,q2',rfl⟩ e3;have key:=ok _ H2 [v1,v2] as z (fun u H3=>∃kk,u=.bl kk/\if kk=true then tE K m3 σ H3 fun w H4=>r' v2 w H4 Q else Q (.bl false) H3) hs e4 ?_
 .obtain⟨x',y',e,q⟩:=key
  cases e;exact q
 intro u H3 o;obtain⟨sm,L3,q3,nd3,nw3⟩:=o;have hb:=Qc q3 e5;refine⟨kb,hb,?_⟩;have p3:Post K O fp H Z Z2 σ σ (L1++L2) fp2 H3:=p12.more sm p12.nd fun p hp=>.inl hp;cases kb with
 | false =>
  rw[if_neg Bool.false_ne_true];simp at e6;obtain⟨rfl,rfl⟩:=e6;exact k _ H3 ⟨[],fp2,p3.drop0,Ly (.bl _)⟩
 | true =>
  rw[if_pos rfl];simp only[if_true,bind_eq_some_iff,map_eq_some_iff] at e6;obtain⟨⟨r3,Z3⟩,e7,bs,e8,z2,e9,e10⟩:=e6;cases e10;refine⟨Z2,ad O (L1++L2),fp2,p3.rel,r3,Z3,e7,fun v3 H4 yy=>?_⟩;obtain⟨L4,fp4,p4,q4⟩:=yy;have p34:=p3.then p4;have q2'':RR K (NN fp2 (ad O (L1++L2))) H3 σ v2 r2 L2:=by
   cases r2 with
   | ref i=>exact q2'
   | val a=>exact AA.tr (M:=fun _=>False) (fun _ z=>z.elim) (Ew.kept sm) (fun p z=>.inl z) (fun _ _ z=>z) q2'
  have q2f:=p4.rr p3.rel q2'' fun p z=>List.mem_append_right _ z;have q4':RR K (NN fp4 (ad O ((L1++L2)++L4))) H4 σ v3 r3 L4:=by
   have e:ad (ad O (L1++L2)) L4=ad O ((L1++L2)++L4):=funext fun p=>propext JM;rw[<- e];exact q4
  have hs2:JL K (NN fp4 (ad O ((L1++L2)++L4))) H4 [v2,v3] bs:=p34.rel.peeks (rs:=[r2,r3]) (L:=L2++L4) ⟨L2,L4,rfl,q2f,L4,[],by simp,q4',rfl⟩ e8;obtain⟨x',y',e,q⟩:=ok' _ H4 [v2,v3] bs z2 Q hs2 e9 fun u H5 o=>k u H5 (p34.out o);cases e;exact q
theorem Me{op op':CmpOp}{f g:List A->Option A}{r r':R2}(ok:OpN X.K f (r2L r))(ok':OpN X.K g (r2L r'))(ho:OpR X (compareOp op) r)(ho':OpR X (compareOp op') r')(hm:lastMarks [op,op'] [b,c]=false)(ha:JE X a m1)(hb:JE X b m2)(hc:JE X c m3):
  JE X (.Compare a [op,op'] [b,c] pos) (IZ f g m1 m2 m3):=AO (PL ho ho' ha hb hc hm) fun _ _ _ h=>Qt ok ok' h
theorem Tz{op op':CmpOp}{f g:List A->Option A}{r r':R2}(ok:OpN X.K f (r2L r))(ok':OpN X.K g (r2L r'))(ho:OpR X (compareOp op) r)(ho':OpR X (compareOp op') r')(hm:lastMarks [op,op'] [b,c]=false)(ha:JE X a m1)(hb:JE X b m2)(hc:JE X c m3):
  JT X (.Compare a [op,op'] [b,c] pos) (AX (IZ f g m1 m2 m3)):=FC (P6 ho ho' ha hb hc hm) fun _ _ _ h=>Qt ok ok' (IT h)
theorem Aq(h:JA X es ms):JE X (.List es pos) (lstM ms):=AO (Uy h) fun _ _ _ h=>U3 h
theorem Av{P:Program}{w:World}{K:Frag}{mg:Str->Option Value}{base:Heap}{CX:CXT}{k j:Nat}{ps:List Str}{Φ:Fn}{np:Nat}{E:XK}(D:Def P w K mg base CX k x ps (spJ K Φ np))(hnp:∀args y,Φ args=some y->args.length=np)(hP:X.prog=P)(hw:X.w=w)(hK:X.K=K)(hm:X.mg=mg)(hb:X.base=base)(hr:Room j X.A)(hkj:k<=j)(hx:Passes CX X E)(hdb:(x==("__debug__" : Str))=false)(hg:Gl X x)(he:starEach (e::es) X.env=(false,eval e X.env)::starEach es X.env)(hpl:(backTo pos (starEach es X.env)).any (·.1)=false)(ha:JA X (e::es) ms):JE X (.Call (.Name x p) (e::es) [] pos) (Au Φ ms):=by
 subst hP hw hK hm hb;exact AO (Iw D hr hkj hx ha hg hdb he hpl) fun _ _ _ h=>Nw hnp h
noncomputable def JEc(X:Cx)(own:List Str)(scope:Scope)(e:Expr)(m:ME):Prop:=∀C s H fp pins,JE (cxC X own scope C s H fp pins) e m
noncomputable def JTc(X:Cx)(own:List Str)(scope:Scope)(ifs:List Expr)(m:MT):Prop:=∀C s H fp pins,PTs (cxC X own scope C s H fp pins) ifs (tT X.K m)
theorem D6{own:List Str}{scope:Scope}:JTc X own scope [] Hj:=fun C s H fp pins=>fun _ _ _ H _ I h=>by
 obtain⟨Z,O,fp,r,x,Z',e,k⟩:=h;cases e;exact RT _ _ _ H _ I (k fp H r.post)
theorem Ka{own:List Str}{scope:Scope}(h:∀C s H fp pins,JT (cxC X own scope C s H fp pins) c mt):JTc X own scope [c] mt:=fun C s H fp pins=>RU (h C s H fp pins)
theorem ET{scope:Scope}{iter elt:Expr}{ifs:List Expr}{px:Pos}(hok:BR [x] X.N scope X.env.scope=true)(hc:X.calm=true)(hn:X.N.Nodup)(hx:scope.names.lookup x=some .local)(hs:∀z,foldedSetIterable iter X.env z=pure z)(hi:JI X (.Name x px) iter mi)(ht:JTc X [x] scope ifs mt)(he:JEc X [x] scope elt m):
  JE X (.ListComp elt [⟨.Name x px,iter,ifs,0⟩] scope pos) (BL mi 0 mt m):=
 AO (Ux (te:=tE X.K m) hok hc ⟨hn⟩ rfl hx hs hi ht (fun C s H fp pins=>he C s H fp pins)) fun _ _ _ h=>Kv h
theorem UG{tg l:Expr}{tl:TE}(hl:PE X l tl):PI X tg l (VG X.K tl):=by
 intro pins s σ H R I h;refine thn (hl pins s σ H _ I h) fun v s1 yy=>?_;obtain⟨y,H1,I1,r1,q1⟩:=yy;obtain⟨a,e,q1⟩:=q1;subst e;cases r1;rcases q1 with ⟨⟨xs,hq⟩,q⟩|⟨⟨xs,hq⟩,q⟩
 .obtain⟨its,rv,p,hz⟩:=I1.list hq
  refine wpAny_pyIter_list p.isList ?_;refine⟨s1.heap.objs.size,[s1.heap.objs.size],_,_,H1,rfl,I1.kept (t':=s1.toks) fun b o e=>Heap.get?_push_of_some _ e,Oy a _,⟨_,Heap.get?_push_size _ rfl,rfl,rfl⟩,fun b hb=>?_,q⟩;have e:b=s1.heap.objs.size:=by simpa using hb
  subst e;exact I1.fpOk (Nat.le_refl _) (I1.hok.fresh (Nat.le_refl _))
 .obtain⟨its,rv,p,hz⟩:=I1.tuple hq
  refine wpAny_pyIter_tuple (show s1.heap.IsTuple a its.toArray from p) ?_;refine⟨s1.heap.objs.size,[s1.heap.objs.size],_,_,H1,rfl,I1.kept (t':=s1.toks) fun b o e=>Heap.get?_push_of_some _ e,MX a _,⟨_,Heap.get?_push_size _ rfl,rfl,rfl⟩,fun b hb=>?_,q⟩;have e:b=s1.heap.objs.size:=by simpa using hb
  subst e;exact I1.fpOk (Nat.le_refl _) (I1.hok.fresh (Nat.le_refl _))
theorem Ic{tg:Expr}(h:JE X e m):JI X tg e (Fs m):=Kn (UG h) fun _ _ _ h=>U6 h
theorem U7{K:Frag}{σ:L2.St}{H:Hp}{R:It->Hp->Prop}(h:tI K (Jn m) σ H R):VH (tE K m) σ H R:=by
 obtain⟨Z,O,fp,rl,ds,n,Z',e,k⟩:=h;simp only[Jn,bind_eq_some_iff] at e;obtain⟨⟨r,Z1⟩,e1,e2⟩:=e;dsimp only at e2;split at e2
 .rename_i z
  split at e2
  .rename_i hz
   cases e2;refine⟨Z,O,fp,rl,_,_,e1,fun v H1 yy=>?_⟩
   obtain⟨L,fp1,p,q⟩:=yy;have q':AA K (NN fp1 (ad O L)) H1 v (.fz (.str z)) L:=q;rw[AA] at q';obtain⟨rfl,q'⟩:=q';cases q';refine⟨z,rfl,k _ _ ⟨.val (.fz .non),.non,.fz .non,[],fp1,p,D8 (K:=K) .non,rfl,rfl,fun N H2 _=>?_⟩⟩;have hl:(BU z).length=z.cps.size:=by simp[BU]
   refine⟨fun i hi=>by show i<z.cps.size; lia,fun i hi=>by show z.cps.size<=i; lia,fun i v H' d y e=>?_⟩;obtain⟨rfl,c,hc,rfl⟩:=y;refine⟨fun _ _ z=>z,?_⟩;have:d=.str ⟨#[c]⟩:=by
    simp only[BU,List.getElem?_map] at e;have hc':z.cps.toList[i]? = some c:=by simpa using hc
    rw[hc'] at e;cases e;rfl
   subst this;exact .str _ (by show 1<=sizeLine; decide)
  .cases e2
 .cases e2
theorem Mg{tg:Expr}(h:JE X e m):JI X tg e (Jn m):=Kn (UH h) fun _ _ _ h=>U7 h
theorem Nx{K:Frag}{σ:L2.St}{H:Hp}{R:It->Hp->Prop}(h:tI K (Cj m) σ H R):OV (B7 (tE K m) GN) σ H R:=by
 obtain⟨Z,O,fp,rl,ds,n,Z',e,k⟩:=h;simp only[Cj,bind_eq_some_iff] at e;obtain⟨⟨r,Z1⟩,e1,e2⟩:=e;dsimp only at e2;split at e2
 .rename_i j
  split at e2
  .rename_i hz
   cases e2;refine⟨Z,O,fp,rl,_,_,e1,fun v H1 yy=>?_⟩
   obtain⟨L,fp1,p,q⟩:=yy;have q':AA K (NN fp1 (ad O L)) H1 v (.fz (.int j)) L:=q;rw[AA] at q';obtain⟨rfl,q'⟩:=q';cases q';refine⟨j,rfl,hz.1,hz.2,k _ _ ⟨.val (.fz .non),.non,.fz .non,[],fp1,p,D8 (K:=K) .non,rfl,rfl,fun N H2 _=>?_⟩⟩;have hl:(EJ 0 j.toNat).length=j.toNat:=by simp[EJ]
   refine⟨fun i hi=>by show i<j.toNat; lia,fun i hi=>by show j.toNat<=i; lia,fun i v H' d y e=>?_⟩;obtain⟨rfl,rfl⟩:=y;refine⟨fun _ _ z=>z,?_⟩;have hi:i<j.toNat:=by have:=AG e; lia
   simp only[EJ,List.getElem?_map,List.getElem?_range hi,Option.map_some,Option.some.injEq] at e;subst e;exact .int _
  .cases e2
 .cases e2
theorem D5{tg:Expr}(hg:Gl X "range")(hm:X.mg "range" = none)(hs:starEach [a] X.env=[(false,eval a X.env)])(h:JE X a m):JI X tg (.Call (.Name "range" p) [a] [] pos) (Cj m):=Kn (Oc hg hm (De h Fq hs) hs) fun _ _ _ h=>Nx h
theorem Bn:JSs X [] Bp:=IB RP fun _ _ _ h=>Sm h
theorem As(h:JS X s w1):JSs X [s] w1:=RQ h
theorem Aj(h:JS X s w1)(t:JSs X ss w2):JSs X (s::ss) (Az w1 w2):=IB (Lp h t) fun _ _ _ h=>Vf h
theorem Jz:JSs X ss E3:=fun _ _ _ _ _ _ y=>by
 obtain⟨_,_,_,_,_,h,_⟩:=y;cases h
theorem Pk:JS X s E3:=fun _ _ _ _ _ _ y=>by
 obtain⟨_,_,_,_,_,h,_⟩:=y;cases h
theorem Pj(hs:swapsWith e none pos.line X.env=pure false)(h:JE X e m):JS X (.Expr e pos) (J7 m):=Bg (GG h hs) fun _ _ _ h=>Va h
theorem AH(h:JE X e m):JS X (.Return (some e) pos) (retS m):=Bg (P0 h) fun _ _ _ h=>Ve h
theorem CO{st st':List Stmt}(hc:JT X c mt)(ha:JSs X st w1)(hb:JSs X st' w2):JS X (.If c st st' pos) (ifS mt w1 w2):=Bg (PY hc ha hb) fun _ _ _ h=>Wl h
theorem AB(i:Nat)(hN:X.N.Nodup)(hi:X.N[i]? = some x)(hx:Loc X.env.scope x)(hf:X.fn x=true)(hs:swapsWith e (some (.Name x pos')) pos.line X.env=pure false)(h:JE X e m):JS X (.Assign [.Name x pos'] e pos) (AF i m):=
 Bg (UK hN hi hx h hs (.inl hf)) fun _ _ _ h=>Kw h
theorem Pl{st:List Stmt}(n:Nat)(hp:PassesOwn (model X.prog X.w) X.A X.env X.xe)(hc:JT X c mt)(hb:JSs X st w1):JS X (.While c st [] pos) (KD n mt w1):=Bg (P5 hp hc hb) fun _ _ _ h=>Qy h
theorem G7{tg iter:Expr}{st:List Stmt}{is:List Nat}{one:Bool}(hp:PassesOwn (model X.prog X.w) X.A X.env X.xe)(hc:X.calm=true)(hi:JI X tg iter mi)(hg:PG X tg (Q7 X.K is one))(hb:JSs X st w1)(hs:∀y,foldedSetIterable iter X.env y=pure y):JS X (.For tg iter st [] pos) (G1 is one mi w1):=Bg (UJ hp hc hi hg hb hs) fun _ _ _ h=>Vb h
theorem Hc(i:Nat)(hN:X.N.Nodup)(hi:X.N[i]? = some x)(hx:Loc X.env.scope x)(hf:X.fn x=true):PG X (.Name x pos) (Q7 X.K [i] true):=Nl hN hi hx (.inl hf)
end
end J
end
section
namespace L2
open PySem PySem.Spec PyProof.Rows
section
variable{P:Program}{w:World}{H:Hp}{s:Shared}{N N':Addr->Prop}
theorem Lv(hok:HOk P w H s.heap){A:Around}{n:Nat}{x y:V}{d e:D}{v u:Value}(r:RepA N H x d)(q:RepA N' H y e)(rx:RelV x v)(ry:RelV y u)(hs:Sh n d)(hu:A.units+n<cLine):SeqAt.RcNeAt A s v u (!eqD d e):=by
 cases r with
 | non =>
  cases rx;cases q with
  | non=>cases ry; exact SeqAt.RcNeAt.none_none
  | bl b=>cases ry; exact SeqAt.RcNeAt.none_bool b
  | int b=>obtain⟨t,rfl⟩:=ry; exact SeqAt.RcNeAt.none_int b t
  | str b=>obtain⟨t,rfl⟩:=ry; exact SeqAt.RcNeAt.none_str b t
  | lst h=>cases ry; obtain⟨its,_,hl⟩:=AZ hok h; exact SeqAt.RcNeAt.none_list hl (lt0 hu)
  | tup h=>cases ry; obtain⟨its,_,hl⟩:=A9 hok h; exact SeqAt.RcNeAt.none_tuple hl (lt0 hu)
 | bl a =>
  cases rx;cases q with
  | non=>cases ry; exact SeqAt.RcNeAt.bool_none a
  | bl b=>cases ry; exact SeqAt.RcNeAt.bool_bool a b
  | int b=>obtain⟨t,rfl⟩:=ry; exact SeqAt.RcNeAt.bool_int a b t
  | str b=>obtain⟨t,rfl⟩:=ry; exact SeqAt.RcNeAt.bool_str a b t
  | lst h=>cases ry; obtain⟨its,_,hl⟩:=AZ hok h; exact SeqAt.RcNeAt.bool_list a hl (lt0 hu)
  | tup h=>cases ry; obtain⟨its,_,hl⟩:=A9 hok h; exact SeqAt.RcNeAt.bool_tuple a hl (lt0 hu)
 | int a =>
  obtain⟨t',rfl⟩:=rx;cases q with
  | non=>cases ry; exact SeqAt.RcNeAt.int_none a t'
  | bl b=>cases ry; exact SeqAt.RcNeAt.int_bool a t' b
  | int b=>obtain⟨t,rfl⟩:=ry; exact SeqAt.RcNeAt.int_int a t' b t
  | str b=>obtain⟨t,rfl⟩:=ry; exact SeqAt.RcNeAt.int_str a t' b t
  | lst h=>cases ry; obtain⟨its,_,hl⟩:=AZ hok h; exact SeqAt.RcNeAt.int_list a t' hl (lt0 hu)
  | tup h=>cases ry; obtain⟨its,_,hl⟩:=A9 hok h; exact SeqAt.RcNeAt.int_tuple a t' hl (lt0 hu)
 | str a =>
  obtain⟨t',rfl⟩:=rx;cases q with
  | non=>cases ry; exact SeqAt.RcNeAt.str_none a t'
  | bl b=>cases ry; exact SeqAt.RcNeAt.str_bool a t' b
  | int b=>obtain⟨t,rfl⟩:=ry; exact SeqAt.RcNeAt.str_int a t' b t
  | str b=>obtain⟨t,rfl⟩:=ry; exact SeqAt.RcNeAt.str_str a t' b t
  | lst h=>cases ry; obtain⟨its,_,hl⟩:=AZ hok h; exact SeqAt.RcNeAt.str_list a t' hl (lt0 hu)
  | tup h=>cases ry; obtain⟨its,_,hl⟩:=A9 hok h; exact SeqAt.RcNeAt.str_tuple a t' hl (lt0 hu)
 | @lst a vs ds h hz hn hl hr =>
  cases rx;obtain⟨its,rv,hil⟩:=AZ hok h;cases hs with
  | @lst n _ hs =>
   cases q with
   | non=>cases ry; exact SeqAt.RcNeAt.list_none hil (lt0 hu)
   | bl b=>cases ry; exact SeqAt.RcNeAt.list_bool b hil (lt0 hu)
   | int b=>obtain⟨t,rfl⟩:=ry; exact SeqAt.RcNeAt.list_int b t hil (lt0 hu)
   | str b=>obtain⟨t,rfl⟩:=ry; exact SeqAt.RcNeAt.list_str b t hil (lt0 hu)
   | @lst a' vs' es h' hz' hn' hl' hr' =>
    cases ry;obtain⟨its',rv',hil'⟩:=AZ hok h';have l1:=rv.length;have l2:=rv'.length;rw[Ho];by_cases hlen:ds.length=es.length
    .rw[Di hlen,show ds.length=its.toArray.size by simp; lia]
     refine SeqAt.RcNeAt.lists hil hil' (by simp; lia) (lt0 hu) (EA rv rv' hl hl' fun i v d v' e u u' e1 e2 e3 e4 ru ru'=>?_);exact HW hok (hr i v d e1 e2) (hr' i v' e e3 e4) ru ru' (hs d (List.mem_of_getElem? e2)) (lt1 hu)
    .have:D1 ds es=false:=by
      cases q:D1 ds es with
      | false=>rfl
      | true=>exact absurd (Dj q) hlen
     rw[this];exact SeqAt.RcNeAt.lists_lengths hil hil' (by simp; lia) (lt0 hu)
   | tup h' =>
    cases ry;obtain⟨its',_,hl'⟩:=A9 hok h';exact SeqAt.RcNeAt.list_tuple hil hl' (lt0 hu)
 | @tup a vs ds h hz hl hr =>
  cases rx;obtain⟨its,rv,hil⟩:=A9 hok h;cases hs with
  | @tup n _ hs =>
   cases q with
   | non=>cases ry; exact SeqAt.RcNeAt.tuple_none hil (lt0 hu)
   | bl b=>cases ry; exact SeqAt.RcNeAt.tuple_bool b hil (lt0 hu)
   | int b=>obtain⟨t,rfl⟩:=ry; exact SeqAt.RcNeAt.tuple_int b t hil (lt0 hu)
   | str b=>obtain⟨t,rfl⟩:=ry; exact SeqAt.RcNeAt.tuple_str b t hil (lt0 hu)
   | @tup a' vs' es h' hz' hl' hr' =>
    cases ry;obtain⟨its',rv',hil'⟩:=A9 hok h';have l1:=rv.length;have l2:=rv'.length;have q:=SeqAt.RcNeAt.tuples (A:=A) hil hil' (lt0 hu) (EA rv rv' hl hl' fun i v d v' e u u' e1 e2 e3 e4 ru ru'=>HW hok (hr i v d e1 e2) (hr' i v' e e3 e4) ru ru' (hs d (List.mem_of_getElem? e2)) (lt1 hu))
    rw[Gk];by_cases hlen:ds.length=es.length
    .have e1:(its.toArray.size==its'.toArray.size)=true:=by simp; lia
     have e2:min its.toArray.size its'.toArray.size=ds.length:=by simp; lia
     rw[e1,e2,Bool.and_true,<- Di hlen] at q;exact q
    .have e1:(its.toArray.size==its'.toArray.size)=false:=by simp; lia
     have e3:D1 ds es=false:=by
      cases q:D1 ds es with
      | false=>rfl
      | true=>exact absurd (Dj q) hlen
     rw[e1,Bool.and_false] at q;rw[e3];exact q
   | lst h' =>
    cases ry;obtain⟨its',_,hl'⟩:=AZ hok h';exact SeqAt.RcNeAt.tuple_list hil hl' (lt0 hu)
end
section
variable{X:Cx}{k:Nat}
noncomputable def UO:R2:=fun x y H Q=>∃d e,Rep H x d/\Rep H y e/\Sh 16 d/\Q (.bl (!eqD d e)) H
theorem Mw(hr:Room k X.A):OpR X (compareOp .NotEq) UO:=by
 intro pins s σ H x y v u Q I rx ry h;obtain⟨d,e,r1,r2,hs,q⟩:=h;exact EqBoolInt.of_rcne (Lv I.hok r1 r2 rx ry hs (by have:=hr.units; lia)) ⟨.bl _,H,I,rfl,q⟩
end
end L2
namespace J
open PySem PySem.Spec PyProof.Rows L2
section
variable{K:Frag}{N:Addr->Prop}{H H':Hp}{L:List Addr}{v:V}{a:A}
theorem D9{d:D}:AA K N H v (.fz d) L↔L=[]/\RepA N H v d:=by rw[AA]
theorem Bc{i:Int}(h:AA K N H v (.fz (.int i)) L):v=.int i:=by
 obtain⟨_,h⟩:=D9.mp h;cases h; rfl
theorem CT{z:Str}(h:AA K N H v (.fz (.str z)) L):v=.str z/\z.length<=sizeLine:=by
 obtain⟨_,h⟩:=D9.mp h;cases h with
 | str z hz=>exact⟨rfl,hz⟩
theorem Iu{d:D}(h:RepA N H v d):KI K N H (.fz d) v H:=⟨fun _ _ z=>z,[],D8 (K:=K) (E5 (fun p z=>z.elim id fun q=>by simp at q) h),List.nodup_nil,fun _ h=>by simp at h⟩
theorem CS{i:Int}:KI K N H (.fz (.int i)) (.int i) H:=Iu (.int i)
theorem CQ{b:Bool}:KI K N H (.fz (.bl b)) (.bl b) H:=Iu (.bl b)
theorem HK{z:Str}(h:z.length<=sizeLine):KI K N H (.fz (.str z)) (.str z) H:=Iu (.str z h)
theorem RF{p:Addr}{vs:List V}{ds:List D}(hp:H p=none)(hz:vs.length<=sizeLine)(q:Ay N H vs ds):KI K N H (.lst (ds.map A.fz)) (.ref p) (upd H p (.lst vs)):=by
 have sm:=EI (o:=.lst vs) hp;refine⟨sm,[p],?_,by simp,fun b hb=>by simp at hb; rw[hb]; exact hp⟩;rw[AA];refine⟨p,vs,[],rfl,rfl,AR,hz,Ap.of (q.tr (M:=fun _=>False) (fun _ z=>z.elim) (Ew.kept sm) fun b z=>?_)⟩;rcases z with z|z
 .exact .inl z
 .simp at z; subst z; exact .inr hp
theorem RG{p:Addr}{vs:List V}{ds:List D}(hp:H p=none)(hz:vs.length<=sizeLine)(q:Ay N H vs ds):KI K N H (.fz (.tup ds)) (.ref p) (upd H p (.tup vs)):=by
 have sm:=EI (o:=.tup vs) hp;refine⟨sm,[],D8 (K:=K) (MD AR hz (q.tr (M:=fun _=>False) (fun _ z=>z.elim) (Ew.kept sm) fun b z=>?_)),List.nodup_nil,fun _ h=>by simp at h⟩;rcases z with z|z
 .exact .inl z
 .simp at z
noncomputable def fzU:A->Option D
 | .fz d=>some d
 | .lst _ | .tup _ | .scr _ | .dic _ | .dct _ | .opq _ _=>none
noncomputable def E6:D->Option Int
 | .int i=>some i
 | .non | .bl _ | .str _ | .lst _ | .tup _=>none
noncomputable def Ft:D->Option Str
 | .str z=>some z
 | .non | .bl _ | .int _ | .lst _ | .tup _=>none
noncomputable def BF(a:A):Option Int:=(fzU a).bind E6
noncomputable def Ck(a:A):Option Str:=(fzU a).bind Ft
theorem G2{a:A}{d:D}(h:fzU a=some d):a=.fz d:=by
 cases a with
 | fz d'=>cases h; rfl
 | _=>cases h
theorem A4{a:A}{i:Int}(h:BF a=some i):a=.fz (.int i):=by
 obtain⟨d,h1,h2⟩:=bind_eq_some_iff.mp h;cases G2 h1;cases d with
 | int j=>cases h2; rfl
 | _=>cases h2
theorem B5{a:A}{z:Str}(h:Ck a=some z):a=.fz (.str z):=by
 obtain⟨d,h1,h2⟩:=bind_eq_some_iff.mp h;cases G2 h1;cases d with
 | str j=>cases h2; rfl
 | _=>cases h2
noncomputable def on1(f:A->Option A):List A->Option A
 | []=>none
 | [a]=>f a
 | _::_::_=>none
noncomputable def on2(f:A->A->Option A):List A->Option A
 | []=>none
 | [_]=>none
 | [a,b]=>f a b
 | _::_::_::_=>none
noncomputable def on3(f:A->A->A->Option A):List A->Option A
 | []=>none
 | [_]=>none
 | [_,_]=>none
 | [a,b,c]=>f a b c
 | _::_::_::_::_=>none
theorem Ek{f:A->Option A}{as:List A}{c:A}(h:on1 f as=some c):∃a,as=[a]/\f a=some c:=by
 cases as with
 | nil=>cases h
 | cons a as=>cases as with
  | nil=>exact⟨a,rfl,h⟩
  | cons b as=>cases h
theorem Cy{f:A->A->Option A}{as:List A}{c:A}(h:on2 f as=some c):∃a b,as=[a,b]/\f a b=some c:=by
 cases as with
 | nil=>cases h
 | cons a as=>cases as with
  | nil=>cases h
  | cons b as=>cases as with
   | nil=>exact⟨a,b,rfl,h⟩
   | cons b as=>cases h
noncomputable def HV:A->Option (List (Key×D))
 | .dic kvs=>some kvs
 | .fz _ | .lst _ | .tup _ | .scr _ | .dct _ | .opq _ _=>none
noncomputable def Ig:A->Option Unit
 | .fz .non=>some ()
 | .fz (.bl _) | .fz (.int _) | .fz (.str _) | .fz (.lst _) | .fz (.tup _) | .lst _ | .tup _ | .scr _ | .dic _ | .dct _ | .opq _ _=>none
noncomputable def FU(C:Int->Int->Bool)(g:Int->Int->Int):List A->Option A:=on2 fun a b=>(BF a).bind fun i=>(BF b).bind fun j=>if C i j then some (.fz (.int (g i j))) else none
noncomputable def K4(g:Int->Int->Bool):List A->Option A:=on2 fun q1 q2=>(BF q1).bind fun i=>(BF q2).bind fun j=>some (.fz (.bl (g i j)))
theorem cons_of{xs:List V}{a:A}{as:List A}(h:JL K N H xs (a::as)):∃x t L1,xs=x::t/\AA K N H x a L1/\JL K N H t as:=by
 cases xs with
 | nil=>cases h
 | cons x t =>
  obtain⟨⟨L,h⟩,q⟩:=h;exact⟨x,t,L,rfl,h,q⟩
theorem Dr{xs:List V}{a:A}(h:JL K N H xs [a]):∃x L1,xs=[x]/\AA K N H x a L1:=by
 obtain⟨x,t,L1,rfl,h1,q⟩:=cons_of h;cases t with
 | nil=>exact⟨x,L1,rfl,h1⟩
 | cons y t=>cases q
theorem Bq{xs:List V}{a b:A}(h:JL K N H xs [a,b]):∃x y L1 L2,xs=[x,y]/\AA K N H x a L1/\AA K N H y b L2:=by
 obtain⟨x,t,L1,rfl,h1,q⟩:=cons_of h;obtain⟨y,L2,rfl,h2⟩:=Dr q;exact⟨x,y,L1,L2,rfl,h1,h2⟩
theorem Gx{C:Int->Int->Bool}{C':Int->Int->Prop}{g:Int->Int->Int}(hC:∀i j,C i j=true->C' i j):OpN K (FU C g) (r2L (rI C' fun i j=>.int (g i j))):=by
 intro N H xs as b Q hs e k
 replace e:=Cy e
 obtain⟨a1,b1,rfl,e⟩:=e;simp only[bind_eq_some_iff] at e;obtain⟨i,ei,j,ej,e⟩:=e;cases A4 ei;cases A4 ej;split at e
 .rename_i hc
  cases e;obtain⟨x,y,L1,L2,rfl,h1,h2⟩:=Bq hs;cases Bc h1;cases Bc h2;exact⟨_,_,rfl,i,j,rfl,rfl,hC i j hc,k _ _ CS⟩
 .cases e
theorem Gy{g:Int->Int->Int}:OpN K (FU (fun _ _=>true) g) (r2L (rI0 fun i j=>.int (g i j))):=by
 intro N H xs as b Q hs e k
 replace e:=Cy e
 obtain⟨a1,b1,rfl,e⟩:=e;simp only[bind_eq_some_iff] at e;obtain⟨i,ei,j,ej,e⟩:=e;cases A4 ei;cases A4 ej;rw[if_pos trivial] at e;cases e;obtain⟨x,y,L1,L2,rfl,h1,h2⟩:=Bq hs;cases Bc h1;cases Bc h2;exact⟨_,_,rfl,i,j,rfl,rfl,k _ _ CS⟩
theorem Lf{g:Int->Int->Bool}:OpN K (K4 g) (r2L (rI0 fun i j=>.bl (g i j))):=by
 intro N H xs as b Q hs e k
 replace e:=Cy e
 obtain⟨q1,q2,rfl,e⟩:=e
 replace e:=bind_eq_some_iff.mp e
 obtain⟨i,eq1,e⟩:=e;cases A4 eq1;clear eq1
 replace e:=bind_eq_some_iff.mp e
 obtain⟨j,eq2,e⟩:=e;cases A4 eq2;clear eq2;cases e;obtain⟨x,y,L1,L2,rfl,h1,h2⟩:=Bq hs;cases Bc h1;cases Bc h2;exact⟨_,_,rfl,i,j,rfl,rfl,k _ _ CQ⟩
noncomputable def FD:=FU (fun _ _=>true) fun i j=>i-j
noncomputable def KY:=FU (fun _ j=>decide (0<j/\j<1099511627776)) fun i j=>i / j
noncomputable def La:=FU (fun _ j=>decide (0<j)) fun i j=>i % j
noncomputable def RO:=FU (fun i j=>decide (0<=j/\j<=1000000/\i.natAbs<2 ^ 64)) fun i j=>i ^ j.toNat
noncomputable def Kt:=FU (fun i j=>decide (0<=j/\j<=1000000/\i.natAbs<2 ^ 64)) fun i j=>i*2 ^ j.toNat
noncomputable def MO:=FU (fun _ j=>decide (0<=j)) fun i j=>i / 2 ^ j.toNat
noncomputable def KL:=FU (fun _ _=>true) fun i j=>Builtin.bitAnd i j
noncomputable def Q1:=FU (fun _ _=>true) fun i j=>Builtin.bitOr i j
noncomputable def gtA:=K4 fun i j=>decide (j<i)
noncomputable def geA:=K4 fun i j=>decide (j<=i)
theorem Ng:OpN K KY (r2L (rI SQ fun i j=>.int (i / j))):=Gx fun i j h=>by simpa[SQ] using h
theorem Im:OpN K La (r2L (rI (fun _ j=>0<j) fun i j=>.int (i % j))):=Gx fun i j h=>by simpa using h
theorem Ua:OpN K RO (r2L (rI ND fun i j=>.int (i ^ j.toNat))):=Gx fun i j h=>by simpa[ND] using h
theorem Mu:OpN K Kt (r2L (rI ND fun i j=>.int (i*2 ^ j.toNat))):=Gx fun i j h=>by simpa[ND] using h
theorem Uc:OpN K MO (r2L (rI (fun _ j=>0<=j) fun i j=>.int (i / 2 ^ j.toNat))):=Gx fun i j h=>by simpa using h
noncomputable def DX:A->Option (List D)
 | .fz (.lst ds)=>some ds
 | .lst as=>fzs as
 | .fz .non | .fz (.bl _) | .fz (.int _) | .fz (.str _) | .fz (.tup _) | .tup _ | .scr _ | .dic _ | .dct _ | .opq _ _=>none
theorem Ei{ds:List D}(q:AA K N H v a L)(e:DX a=some ds):∃p vs,v=.ref p/\H p=some (.lst vs)/\vs.length<=sizeLine/\Ay N H vs ds:=by
 cases a with
 | fz d =>
  obtain⟨_,q⟩:=D9.mp q;cases d with
  | lst es =>
   simp only[DX,Option.some.injEq] at e;subst e;cases q with
   | lst h hz hn hl hr=>exact⟨_,_,rfl,h,hz,Ay.mk hl hr⟩
  | _=>simp[DX] at e
 | lst as =>
  simp only[DX] at e;rw[AA] at q;obtain⟨p,vs,L',rfl,rfl,h,hz,hs⟩:=q;exact⟨p,vs,rfl,h,hz,(hs.fzs e).2⟩
 | _=>simp[DX] at e
noncomputable def A3:List A->Option A:=on2 fun a b=>((BF a).bind fun i=>(BF b).map fun j=>A.fz (.int (i+j))).or (((Ck a).bind fun x=>(Ck b).bind fun y=>if x.length+y.length<=LIM then some (.fz (.str (x++y))) else none).or ((DX a).bind fun xs=>(DX b).bind fun ys=>if xs.length+ys.length<=LIM then some (.lst ((xs++ys).map A.fz)) else none))
theorem LA(x y:Str):(x++y).length=x.length+y.length:=strLen_append x y
theorem AU:OpN K A3 (r2L fun x y H Q=>(rI0 (fun i j=>.int (i+j))) x y H Q\/(∃i j,x=.str i/\y=.str j/\i.length+j.length<=sizeLine/\Q (.str (i++j)) H)\/UN x y H Q):=by
 intro N H xs as b Q hs e k
 replace e:=Cy e
 obtain⟨a,b,rfl,e⟩:=e;rcases Option.or_eq_some_iff.mp e with e|⟨_,e⟩
 .simp only[bind_eq_some_iff,map_eq_some_iff] at e
  obtain⟨i,ei,j,ej,rfl⟩:=e;cases A4 ei;cases A4 ej;obtain⟨x,y,L1,L2,rfl,h1,h2⟩:=Bq hs;cases Bc h1;cases Bc h2;exact⟨_,_,rfl,.inl ⟨i,j,rfl,rfl,k _ _ CS⟩⟩
 .rcases Option.or_eq_some_iff.mp e with e|⟨_,e⟩
  .simp only[bind_eq_some_iff] at e
   obtain⟨i,ei,j,ej,e9⟩:=e;cases B5 ei;cases B5 ej;split at e9
   .rename_i hz
    cases e9;obtain⟨x,y,L1,L2,rfl,h1,h2⟩:=Bq hs;obtain⟨rfl,_⟩:=CT h1;obtain⟨rfl,_⟩:=CT h2;exact⟨_,_,rfl,.inr (.inl ⟨i,j,rfl,rfl,hz,k _ _ (HK (by rw[LA]; exact hz))⟩)⟩
   .cases e9
  .simp only[bind_eq_some_iff] at e
   obtain⟨ds,e1,es,e2,e3⟩:=e;split at e3
   .rename_i hz
    cases e3;obtain⟨x,y,L1,L2,rfl,h1,h2⟩:=Bq hs;obtain⟨p,vs,rfl,hp,z1,q1⟩:=Ei h1 e1;obtain⟨p',vs',rfl,hp',z2,q2⟩:=Ei h2 e2;have hl:(vs++vs').length<=sizeLine:=by rw[List.length_append,q1.len,q2.len]; exact hz
    exact⟨_,_,rfl,.inr (.inr ⟨p,p',vs,vs',rfl,rfl,hp,hp',by rw[List.length_append] at hl; exact hl,fun q hq=>k _ _ (RF hq hl (Hf q1 q2))⟩)⟩
   .cases e3
theorem AI{X:Cx}:OpR X (binaryOp .Add) (fun x y H Q=>(rI0 (fun i j=>.int (i+j))) x y H Q\/(∃i j,x=.str i/\y=.str j/\i.length+j.length<=sizeLine/\Q (.str (i++j)) H)\/UN x y H Q):=Ud.or (Mv.or Uh)
noncomputable def Gv:List A->Option A:=on2 fun q1 q2=>(BF q1).bind fun i=>(BF q2).bind fun j=>if (-(2 ^ 64)<i/\i<2 ^ 64)\/(-(2 ^ 64)<j/\j<2 ^ 64) then some (.fz (.int (i*j))) else none
theorem F8:OpN K Gv (r2L (rI QO fun i j=>.int (i*j))):=by
 intro N H xs as b Q hs e k
 replace e:=Cy e
 obtain⟨q1,q2,rfl,e⟩:=e
 replace e:=bind_eq_some_iff.mp e
 obtain⟨i,eq1,e⟩:=e;cases A4 eq1;clear eq1
 replace e:=bind_eq_some_iff.mp e
 obtain⟨j,eq2,e⟩:=e;cases A4 eq2;clear eq2;split at e
 .rename_i hc
  cases e;obtain⟨x,y,L1,L2,rfl,h1,h2⟩:=Bq hs;cases Bc h1;cases Bc h2;exact⟨_,_,rfl,i,j,rfl,rfl,hc,k _ _ CS⟩
 .cases e
noncomputable def Rt:List A->Option A:=on1 fun q1=>(BF q1).bind fun i=>some (.fz (.int (-i)))
theorem T9:OpN K Rt (r1L (rU fun i=>.int (-i))):=by
 intro N H xs as b Q hs e k
 replace e:=Ek e
 obtain⟨q1,rfl,e⟩:=e
 replace e:=bind_eq_some_iff.mp e
 obtain⟨i,eq1,e⟩:=e;cases A4 eq1;clear eq1;cases e;obtain⟨x,L1,rfl,h1⟩:=Dr hs;cases Bc h1;exact⟨_,rfl,i,rfl,k _ _ CS⟩
mutual
noncomputable def shB:Nat->D->Bool
 | _,.non=>true
 | _,.bl _=>true
 | _,.int _=>true
 | _,.str _=>true
 | 0,.lst _=>false
 | 0,.tup _=>false
 | n+1,.lst ds=>MN n ds
 | n+1,.tup ds=>MN n ds
noncomputable def MN:Nat->List D->Bool
 | _,[]=>true
 | n,d::ds=>shB n d&&MN n ds
end
mutual
theorem MM:∀{n:Nat} {d:D},shB n d=true->Sh n d
 | _,.non,_=>.non
 | _,.bl b,_=>.bl b
 | _,.int i,_=>.int i
 | _,.str x,_=>.str x
 | 0,.lst _,h=>by simp[shB] at h
 | 0,.tup _,h=>by simp[shB] at h
 | n+1,.lst ds,h=>.lst (Ks (by simpa[shB] using h))
 | n+1,.tup ds,h=>.tup (Ks (by simpa[shB] using h))
theorem Ks:∀{n:Nat} {ds:List D},MN n ds=true->∀d∈ds,Sh n d
 | _,[],_,d,hd=>by simp at hd
 | n,e::ds,h,d,hd=>by
  simp only[MN,Bool.and_eq_true] at h;rcases List.mem_cons.mp hd with q|hd
  .rw[q]; exact MM h.1
  .exact Ks h.2 d hd
end
noncomputable def eqA:List A->Option A:=on2 fun a b=>(er a).bind fun d=>(er b).bind fun e=>if shB 16 d then some (.fz (.bl (eqD d e))) else none
noncomputable def neA:List A->Option A:=on2 fun a b=>(er a).bind fun d=>(er b).bind fun e=>if shB 16 d then some (.fz (.bl (!eqD d e))) else none
theorem IG{d:D}(q:AA K N H v a L)(e:er a=some d):Rep H v d:=(AA.er q e).rep
theorem Il:OpN K eqA (r2L WL):=by
 intro N H xs as b Q hs e k
 replace e:=Cy e
 obtain⟨a,b,rfl,e⟩:=e;simp only[bind_eq_some_iff] at e;obtain⟨d,e1,d',e2,e3⟩:=e;split at e3
 .rename_i hz
  cases e3;obtain⟨x,y,L1,L2,rfl,h1,h2⟩:=Bq hs;exact⟨_,_,rfl,d,d',IG h1 e1,IG h2 e2,MM hz,k _ _ CQ⟩
 .cases e3
theorem Nh:OpN K neA (r2L UO):=by
 intro N H xs as b Q hs e k
 replace e:=Cy e
 obtain⟨a,b,rfl,e⟩:=e;simp only[bind_eq_some_iff] at e;obtain⟨d,e1,d',e2,e3⟩:=e;split at e3
 .rename_i hz
  cases e3;obtain⟨x,y,L1,L2,rfl,h1,h2⟩:=Bq hs;exact⟨_,_,rfl,d,d',IG h1 e1,IG h2 e2,MM hz,k _ _ CQ⟩
 .cases e3
noncomputable def ltA:List A->Option A:=on2 fun a b=>((BF a).bind fun i=>(BF b).map fun j=>A.fz (.bl (decide (i<j)))).or ((Ck a).bind fun x=>(Ck b).map fun y=>A.fz (.bl (decide (x.cps.toList<y.cps.toList))))
noncomputable def leA:List A->Option A:=on2 fun a b=>((BF a).bind fun i=>(BF b).map fun j=>A.fz (.bl (decide (i<=j)))).or ((Ck a).bind fun x=>(Ck b).map fun y=>A.fz (.bl (!decide (y.cps.toList<x.cps.toList))))
theorem Lj:OpN K ltA (r2L SH):=by
 intro N H xs as b Q hs e k
 replace e:=Cy e
 obtain⟨a,b,rfl,e⟩:=e;rcases Option.or_eq_some_iff.mp e with e|⟨_,e⟩
 .simp only[bind_eq_some_iff,map_eq_some_iff] at e
  obtain⟨i,ei,j,ej,rfl⟩:=e;cases A4 ei;cases A4 ej;obtain⟨x,y,L1,L2,rfl,h1,h2⟩:=Bq hs;cases Bc h1;cases Bc h2;exact⟨_,_,rfl,.inl ⟨i,j,rfl,rfl,k _ _ CQ⟩⟩
 .simp only[bind_eq_some_iff,map_eq_some_iff] at e
  obtain⟨i,ei,j,ej,rfl⟩:=e;cases B5 ei;cases B5 ej;obtain⟨x,y,L1,L2,rfl,h1,h2⟩:=Bq hs;obtain⟨rfl,_⟩:=CT h1;obtain⟨rfl,_⟩:=CT h2;exact⟨_,_,rfl,.inr ⟨i,j,rfl,rfl,k _ _ CQ⟩⟩
theorem GA:OpN K leA (r2L SG):=by
 intro N H xs as b Q hs e k
 replace e:=Cy e
 obtain⟨a,b,rfl,e⟩:=e;rcases Option.or_eq_some_iff.mp e with e|⟨_,e⟩
 .simp only[bind_eq_some_iff,map_eq_some_iff] at e
  obtain⟨i,ei,j,ej,rfl⟩:=e;cases A4 ei;cases A4 ej;obtain⟨x,y,L1,L2,rfl,h1,h2⟩:=Bq hs;cases Bc h1;cases Bc h2;exact⟨_,_,rfl,.inl ⟨i,j,rfl,rfl,k _ _ CQ⟩⟩
 .simp only[bind_eq_some_iff,map_eq_some_iff] at e
  obtain⟨i,ei,j,ej,rfl⟩:=e;cases B5 ei;cases B5 ej;obtain⟨x,y,L1,L2,rfl,h1,h2⟩:=Bq hs;obtain⟨rfl,_⟩:=CT h1;obtain⟨rfl,_⟩:=CT h2;exact⟨_,_,rfl,.inr ⟨i,j,rfl,rfl,k _ _ CQ⟩⟩
noncomputable def BX:D->Bool
 | .lst _=>false
 | .tup _=>false
 | .non | .bl _ | .int _ | .str _=>true
theorem J8{d:D}(r:RepA N H v d)(h:BX d=true):FJ v=true:=by
 cases r with
 | lst=>simp[BX] at h
 | tup=>simp[BX] at h
 | _=>rfl
theorem S6{x y:V}{d e:D}(r:RepA N H x d)(q:RepA N H y e)(hd:BX d=true)(he:BX e=true):eqV x y=eqD d e:=by
 cases r with
 | lst=>simp[BX] at hd
 | tup=>simp[BX] at hd
 | _ =>
  cases q with
  | lst=>simp[BX] at he
  | tup=>simp[BX] at he
  | _=>rfl
noncomputable def inD(d:D)(ds:List D):Bool:=ds.any fun e=>eqD e d
theorem Ma{x:V}{d:D}(r:RepA N H x d)(hd:BX d=true):∀{vs:List V} {ds:List D},Ay N H vs ds->ds.all BX=true->vs.all FJ=true/\inV x vs=inD d ds
 | [],[],_,_=>⟨rfl,rfl⟩
 | [],_::_,q,_=>by simp only[Ay] at q
 | _::_,[],q,_=>by simp only[Ay] at q
 | v::vs,e::ds,q,h=>by
  simp only[List.all_cons,Bool.and_eq_true] at h;obtain⟨h1,h2⟩:=Ma r hd q.2 h.2;refine⟨by simp[J8 q.1 h.1,h1],?_⟩;simp only[inV,inD,List.any_cons] at h2 |-;rw[h2,S6 q.1 r h.1 hd]
noncomputable def inA(neg:Bool):List A->Option A:=on2 fun a b=>((Ck a).bind fun x=>(Ck b).map fun y=>A.fz (.bl (if neg then !(!(Builtin.Str.occurrences y x 0 y.length 1).isEmpty) else !(Builtin.Str.occurrences y x 0 y.length 1).isEmpty))).or ((fzU a).bind fun d=>(A8 b).bind fun ds=>if BX d&&ds.all BX then some (.fz (.bl (if neg then !inD d ds else inD d ds))) else none)
theorem SF(neg:Bool):OpN K (inA neg) (r2L fun x y H Q=>rIn K neg x y H Q\/∃i j,x=.str i/\y=.str j/\Q (.bl (if neg then !(!(Builtin.Str.occurrences j i 0 j.length 1).isEmpty) else !(Builtin.Str.occurrences j i 0 j.length 1).isEmpty)) H):=by
 intro N H xs as b Q hs e k
 replace e:=Cy e
 obtain⟨a,b,rfl,e⟩:=e;rcases Option.or_eq_some_iff.mp e with e|⟨_,e⟩
 .simp only[bind_eq_some_iff,map_eq_some_iff] at e
  obtain⟨i,ei,j,ej,rfl⟩:=e;cases B5 ei;cases B5 ej;obtain⟨x,y,L1,L2,rfl,h1,h2⟩:=Bq hs;obtain⟨rfl,_⟩:=CT h1;obtain⟨rfl,_⟩:=CT h2;exact⟨_,_,rfl,.inr ⟨i,j,rfl,rfl,k _ _ CQ⟩⟩
 .simp only[bind_eq_some_iff] at e
  obtain⟨d,ed,ds,e1,e2⟩:=e;cases G2 ed;split at e2
  .rename_i hz
   cases e2;simp only[Bool.and_eq_true] at hz;obtain⟨x,y,L1,L2,rfl,h1,h2⟩:=Bq hs;obtain⟨_,h1⟩:=D9.mp h1;obtain⟨p,vs,rfl,hp,q⟩:=Gq h2 e1;obtain⟨f1,f2⟩:=Ma h1 hz.1 q hz.2;refine⟨_,_,rfl,.inl ⟨p,vs,rfl,hp,J8 h1 hz.1,f1,?_⟩⟩;rw[f2];exact k _ _ CQ
  .cases e2
theorem Ui{X:Cx}:OpR X (compareOp .In) (fun x y H Q=>rIn X.K false x y H Q\/∃i j,x=.str i/\y=.str j/\Q (.bl (if false=true then !(!(Builtin.Str.occurrences j i 0 j.length 1).isEmpty) else !(Builtin.Str.occurrences j i 0 j.length 1).isEmpty)) H):=N6.or N7
theorem Oa{X:Cx}:OpR X (compareOp .NotIn) (fun x y H Q=>rIn X.K true x y H Q\/∃i j,x=.str i/\y=.str j/\Q (.bl (if true=true then !(!(Builtin.Str.occurrences j i 0 j.length 1).isEmpty) else !(Builtin.Str.occurrences j i 0 j.length 1).isEmpty)) H):=GC.or Kl
noncomputable def ixA:List A->Option A:=on2 fun a b=>(BF b).bind fun i=>((Ck a).bind fun z=>(atI z.cps.toList i).map fun c=>A.fz (.str ⟨#[c]⟩)).or ((A8 a).bind fun ds=>(atI ds i).map A.fz)
theorem SY{vs:List V}{ds:List D}{i:Int}{d:D}(q:Ay N H vs ds)(e:atI ds i=some d):∃v,atI vs i=some v/\RepA N H v d:=by
 unfold atI at e |-;rw[q.len];simp only[bind_eq_some_iff] at e |-;obtain⟨j,e1,e2⟩:=e;obtain⟨v,hv⟩:=S3 q (AG e2);exact⟨v,⟨j,e1,hv⟩,q.get j v d hv e2⟩
theorem AN:OpN K ixA (r2L (rIx K)):=by
 intro N H xs as b Q hs e k
 replace e:=Cy e
 obtain⟨a,b,rfl,e⟩:=e;obtain⟨i,ei,e8⟩:=bind_eq_some_iff.mp e;cases A4 ei;rcases Option.or_eq_some_iff.mp e8 with e|⟨_,e⟩
 .simp only[bind_eq_some_iff,map_eq_some_iff] at e
  obtain⟨z,ez,c,e1,rfl⟩:=e;cases B5 ez;obtain⟨x,y,L1,L2,rfl,h1,h2⟩:=Bq hs;obtain⟨rfl,hz⟩:=CT h1;cases Bc h2;exact⟨_,_,rfl,.inr (.inr ⟨z,i,c,rfl,rfl,hz,e1,k _ _ (HK (by show 1<=sizeLine; decide))⟩)⟩
 .simp only[bind_eq_some_iff,map_eq_some_iff] at e
  obtain⟨ds,e1,d,e2,rfl⟩:=e;obtain⟨x,y,L1,L2,rfl,h1,h2⟩:=Bq hs;cases Bc h2;obtain⟨p,vs,rfl,hp,q⟩:=Gq h1 e1;obtain⟨v,hv,q2⟩:=SY q e2;rcases hp with hp|hp
  .exact⟨_,_,rfl,.inl ⟨p,vs,i,v,rfl,rfl,hp,hv,k _ _ (Iu q2)⟩⟩
  .exact⟨_,_,rfl,.inr (.inl ⟨p,vs,i,v,rfl,rfl,hp,hv,k _ _ (Iu q2)⟩)⟩
noncomputable def BZ:List A->Option A:=on1 fun a=>((Ck a).map fun z=>A.fz (.int z.length)).or ((A8 a).map fun ds=>A.fz (.int ds.length))
theorem BS:OpN K BZ (V6 K):=by
 intro N H xs as b Q hs e k
 replace e:=Ek e
 obtain⟨a,rfl,e⟩:=e;rcases Option.or_eq_some_iff.mp e with e|⟨_,e⟩
 .obtain⟨z,ez,rfl⟩:=map_eq_some_iff.mp e
  cases B5 ez;obtain⟨x,L1,rfl,h1⟩:=Dr hs;obtain⟨rfl,hz⟩:=CT h1;exact .inr ⟨z,rfl,hz,k _ _ CS⟩
 .obtain⟨ds,e1,rfl⟩:=map_eq_some_iff.mp e
  obtain⟨x,L1,rfl,h1⟩:=Dr hs;obtain⟨p,vs,rfl,hp,q⟩:=Gq h1 e1;refine .inl ⟨p,vs,rfl,hp,?_⟩;rw[q.len];exact k _ _ CS
theorem AY{X:Cx}:Dh X (.builtin "len") (V6 X.K):=JZ.or J0
noncomputable def OE:List A->Option A:=on1 fun q1=>(BF q1).bind fun i=>some (.fz (.int (if i<0 then -i else i)))
theorem Pz:OpN K OE (fun xs H Q=>∃i,xs=[.int i]/\Q (.int (if i<0 then -i else i)) H):=by
 intro N H xs as b Q hs e k
 replace e:=Ek e
 obtain⟨q1,rfl,e⟩:=e
 replace e:=bind_eq_some_iff.mp e
 obtain⟨i,eq1,e⟩:=e;cases A4 eq1;clear eq1;cases e;obtain⟨x,L1,rfl,h1⟩:=Dr hs;cases Bc h1;exact⟨i,rfl,k _ _ CS⟩
noncomputable def TR:List A->Option A:=on2 fun q1 q2=>(BF q1).bind fun i=>(BF q2).bind fun j=>some (.fz (.int (if j > i then j else i)))
noncomputable def TY:List A->Option A:=on2 fun q1 q2=>(BF q1).bind fun i=>(BF q2).bind fun j=>some (.fz (.int (if j<i then j else i)))
theorem T7:OpN K TR (fun xs H Q=>∃i j,xs=[.int i,.int j]/\Q (.int (if j > i then j else i)) H):=by
 intro N H xs as b Q hs e k
 replace e:=Cy e
 obtain⟨q1,q2,rfl,e⟩:=e
 replace e:=bind_eq_some_iff.mp e
 obtain⟨i,eq1,e⟩:=e;cases A4 eq1;clear eq1
 replace e:=bind_eq_some_iff.mp e
 obtain⟨j,eq2,e⟩:=e;cases A4 eq2;clear eq2;cases e;obtain⟨x,y,L1,L2,rfl,h1,h2⟩:=Bq hs;cases Bc h1;cases Bc h2;exact⟨i,j,rfl,k _ _ CS⟩
theorem T8:OpN K TY (fun xs H Q=>∃i j,xs=[.int i,.int j]/\Q (.int (if j<i then j else i)) H):=by
 intro N H xs as b Q hs e k
 replace e:=Cy e
 obtain⟨q1,q2,rfl,e⟩:=e
 replace e:=bind_eq_some_iff.mp e
 obtain⟨i,eq1,e⟩:=e;cases A4 eq1;clear eq1
 replace e:=bind_eq_some_iff.mp e
 obtain⟨j,eq2,e⟩:=e;cases A4 eq2;clear eq2;cases e;obtain⟨x,y,L1,L2,rfl,h1,h2⟩:=Bq hs;cases Bc h1;cases Bc h2;exact⟨i,j,rfl,k _ _ CS⟩
noncomputable def DL:List D->Option (List Bool)
 | []=>some []
 | .bl b::ds=>(DL ds).map (b :: ·)
 | _::_=>none
theorem OI:∀{vs:List V} {ds:List D} {bs:List Bool},Ay N H vs ds->DL ds=some bs->vs=GR bs:=by
 intro _l;induction _l with
 | nil =>
  intro _m;cases _m with
  | nil =>
   intro bs _ e;simp[DL] at e; subst e; rfl
  | cons _ _ =>
   intro _ q _;simp only[Ay] at q
 | cons v vs ih =>
  intro _m;cases _m with
  | nil =>
   intro _ q _;simp only[Ay] at q
  | cons d ds =>
   intro bs q e;cases d with
   | bl b =>
    simp only[DL,map_eq_some_iff] at e;obtain⟨bs',e1,rfl⟩:=e;have:=ih q.2 e1;obtain⟨q1,_⟩:=q;cases q1;subst this;rfl
   | _=>simp[DL] at e
noncomputable def GP:List A->Option A:=on1 fun a=>(DX a).bind fun ds=>(DL ds).map fun bs=>.fz (.bl (bs.all id))
noncomputable def Wx:List A->Option A:=on1 fun a=>(DX a).bind fun ds=>(DL ds).map fun bs=>.fz (.bl (bs.any id))
theorem Ij:OpN K GP (WK K):=by
 intro N H xs as b Q hs e k
 replace e:=Ek e
 obtain⟨a,rfl,e⟩:=e;simp only[bind_eq_some_iff,map_eq_some_iff] at e;obtain⟨ds,e1,bs,e2,rfl⟩:=e;obtain⟨x,L1,rfl,h1⟩:=Dr hs;obtain⟨p,vs,rfl,hp,hz,q⟩:=Ei h1 e1;cases OI q e2;exact⟨p,bs,rfl,.inl (.inl hp),k _ _ CQ⟩
noncomputable def E7(f:D->Bool):List A->Option A:=on1 fun a=>(er a).map fun d=>.fz (.bl (f d))
theorem T4{T:String}{f:D->Bool}:OpN K (E7 f) (r1L fun x H Q=>∃d,Rep H x d/\Q (.bl (f d)) H):=by
 intro N H xs as b Q hs e k
 replace e:=Ek e
 obtain⟨a,rfl,e⟩:=e;simp only[map_eq_some_iff] at e;obtain⟨d,e1,rfl⟩:=e;obtain⟨x,L1,rfl,h1⟩:=Dr hs;exact⟨x,rfl,d,IG h1 e1,k _ _ CQ⟩
theorem IQ{T:String}{f:D->Bool}{m:ME}{σ:L2.St}{Q:VK}(h:tE K (opM (E7 f) (m1L m)) σ H Q):tCB (rIs T f) (B7 (tE K m) (B7 (tC (.ty T)) GN)) σ H Q:=by
 have h2:=one (T4 (T:=T)) h;exact tE.mono h2 fun x H1 ⟨d,r,q⟩=>⟨x,d,rfl,r,q⟩
end
end J
end
section
namespace L2
open PySem PySem.Spec PyProof.Rows
section
variable{X:Cx}
end
end L2
namespace J
open PySem PySem.Spec PyProof.Rows L2
section
variable{X:Cx}{a b c e:Expr}{es:List Expr}{m m1 m2 m3:ME}{ms:MA}{p pos pos' p2 apos cpos q:Pos}{x:Str}
variable{K:Frag}{H:Hp}{σ:L2.St}
theorem Tu(hg:Gl X "isinstance")(hg2:Gl X "int")(B:Blt X.mg X.K)(he:starEach [a,.Name "int" q] X.env=[(false,eval a X.env),(false,eval (.Name "int" q) X.env)])(he2:starEach [.Name "int" q] X.env=[(false,eval (.Name "int" q) X.env)])(ha:JE X a m):
  JE X (.Call (.Name "isinstance" p) [a,.Name "int" q] [] pos) (opM (E7 isInt) (m1L m)):=AO (Ut hg hg2 B he he2 ha) fun _ _ _ h=>IQ h
theorem Tt(hg:Gl X "isinstance")(hg2:Gl X "bool")(B:Blt X.mg X.K)(he:starEach [a,.Name "bool" q] X.env=[(false,eval a X.env),(false,eval (.Name "bool" q) X.env)])(he2:starEach [.Name "bool" q] X.env=[(false,eval (.Name "bool" q) X.env)])(ha:JE X a m):
  JE X (.Call (.Name "isinstance" p) [a,.Name "bool" q] [] pos) (opM (E7 isBool) (m1L m)):=AO (Us hg hg2 B he he2 ha) fun _ _ _ h=>IQ h
theorem O8(hg:Gl X "isinstance")(hg2:Gl X "list")(B:Blt X.mg X.K)(he:starEach [a,.Name "list" q] X.env=[(false,eval a X.env),(false,eval (.Name "list" q) X.env)])(he2:starEach [.Name "list" q] X.env=[(false,eval (.Name "list" q) X.env)])(ha:JE X a m):
  JE X (.Call (.Name "isinstance" p) [a,.Name "list" q] [] pos) (opM (E7 Hr) (m1L m)):=AO (Uu hg hg2 B he he2 ha) fun _ _ _ h=>IQ h
theorem O9(hg:Gl X "isinstance")(hg2:Gl X "tuple")(B:Blt X.mg X.K)(he:starEach [a,.Name "tuple" q] X.env=[(false,eval a X.env),(false,eval (.Name "tuple" q) X.env)])(he2:starEach [.Name "tuple" q] X.env=[(false,eval (.Name "tuple" q) X.env)])(ha:JE X a m):
  JE X (.Call (.Name "isinstance" p) [a,.Name "tuple" q] [] pos) (opM (E7 isTup) (m1L m)):=AO (Uv hg hg2 B he he2 ha) fun _ _ _ h=>IQ h
theorem Mf(hg:Gl X "isinstance")(hg2:Gl X "str")(B:Blt X.mg X.K)(he:starEach [a,.Name "str" q] X.env=[(false,eval a X.env),(false,eval (.Name "str" q) X.env)])(he2:starEach [.Name "str" q] X.env=[(false,eval (.Name "str" q) X.env)])(ha:JE X a m):
  JE X (.Call (.Name "isinstance" p) [a,.Name "str" q] [] pos) (opM (E7 isStr) (m1L m)):=AO (Uw hg hg2 B he he2 ha) fun _ _ _ h=>IQ h
noncomputable def slF(x:A)(lo hi:Option Int):Option A:=match x with
 | .fz (.str z)=>some (.fz (.str (Txt.slice z lo hi)))
 | _=>none
noncomputable def WM:List A->Option A:=on2 fun x q2=>(BF q2).bind fun j=>slF x none (some j)
noncomputable def WN:List A->Option A:=on2 fun x q2=>(BF q2).bind fun i=>slF x (some i) none
noncomputable def Hv:List D->Option (List Str)
 | []=>some []
 | .str z::ds=>(Hv ds).map (z :: ·)
 | _::_=>none
theorem Se{N:Addr->Prop}:∀{vs:List V} {ds:List D} {zs:List Str},Ay N H vs ds->Hv ds=some zs->vs=zs.map V.str:=by
 intro _l;induction _l with
 | nil =>
  intro _m;cases _m with
  | nil =>
   intro zs _ e;simp[Hv] at e; subst e; rfl
  | cons _ _ =>
   intro _ q _;simp only[Ay] at q
 | cons v vs ih =>
  intro _m;cases _m with
  | nil =>
   intro _ q _;simp only[Ay] at q
  | cons d ds =>
   intro zs q e;cases d with
   | str z =>
    simp only[Hv,map_eq_some_iff] at e;obtain⟨zs',e1,rfl⟩:=e;have:=ih q.2 e1;obtain⟨q1,_⟩:=q;cases q1;subst this;rfl
   | _=>simp[Hv] at e
theorem OS(zs:List Str):(glue zs).length=(zs.map (·.length)).sum:=by
 show(glue zs).cps.size=_;simp[glue,List.length_flatten,Function.comp_def];rfl
theorem R9{sep:Str}(h:sep.length=0):sep=("" : Str):=by
 cases sep with
 | mk c =>
  have:c = #[]:=Array.eq_empty_of_size_eq_zero h;subst this;decide +kernel
noncomputable def MP(f:Str->List A->Option A)(m:ME)(ms:MA):ME:=fun Z=>(m Z).bind fun p=>match p.1 with
 | .val (.fz (.str z))=>(ms p.2).bind fun q=>(peeks q.2 q.1).bind fun as=>(f z as).map fun a=>(.val a,q.2)
 | _=>none
theorem U5{f:Str->List A->Option A}{r:V->List V->Hp->VK->Prop}{Q:VK}(ok:∀z,z.length<=sizeLine->OpN K (f z) fun xs H Q=>r (.str z) xs H Q)(h:tE K (MP f m ms) σ H Q):tBM K "str" r (tE K m) (tA K ms) σ H Q:=by
 obtain⟨Z,O,fp,rl,y,Z',h0,k⟩:=h;simp only[MP,bind_eq_some_iff] at h0;obtain⟨⟨r1,Z1⟩,e1,h0⟩:=h0;dsimp only at h0;split at h0
 .rename_i z
  simp only[bind_eq_some_iff,map_eq_some_iff] at h0;obtain⟨⟨rs,Z2⟩,e2,as,e3,c,e4,e5⟩:=h0;cases e5;refine⟨Z,O,fp,rl,_,Z1,e1,fun v H1 yy=>?_⟩;obtain⟨L,fp1,p,q⟩:=yy;obtain⟨rfl,hz⟩:=CT (K:=K) q;have p':=p.drop0;refine⟨rfl,Z1,O,fp1,p'.rel0,rs,Z2,e2,fun vs H2 yy=>?_⟩;obtain⟨L2,fp2,p2,q2⟩:=yy;exact ok z hz _ H2 vs as c Q (p2.rel.peeks q2 e3) e4 fun u H3 o=>k u H3 ((p2.out o).pre p')
 .cases h0
noncomputable def Jy(sep:Str):List A->Option A:=on1 fun b=>if sep.length=0 then (DX b).bind fun ds=>(Hv ds).bind fun zs=>if (zs.map (·.length)).sum<=16777216 then some (.fz (.str (glue zs))) else none else none
theorem Rz(sep:Str)(hz:sep.length<=sizeLine):OpN K (Jy sep) fun xs H Q=>rJoin K (.str sep) xs H Q:=by
 intro N H xs as b Q hs e k
 replace e:=Ek e
 obtain⟨b,rfl,e⟩:=e;split at e
 .rename_i h0
  simp only[bind_eq_some_iff] at e;obtain⟨ds,e1,zs,e2,e3⟩:=e;split at e3
  .rename_i hl
   cases e3;obtain⟨x,L1,rfl,h1⟩:=Dr hs;obtain⟨p,vs,rfl,hp,hz',q⟩:=Ei h1 e1;cases Se q e2;cases R9 h0;refine⟨_,p,zs,rfl,rfl,.inl (.inl hp),?_,?_⟩
   .have:("" : Str).length=0:=by decide +kernel
    rw[this,Nat.mul_zero,Nat.add_zero];exact hl
   .rw[Mh]
    exact k _ _ (HK (by rw[OS]; exact hl))
  .cases e3
 .cases e
theorem Rg(hbase:attributeBase a "join" X.env (eval a X.env)=eval a X.env)(hline:(apos.endLine==cpos.line)=true)(B:Blt X.mg X.K)(hs:starEach [e] X.env=[(false,eval e X.env)])(ha:JE X a m1)(he:JE X e m2):
  JE X (.Call (.Attribute a "join" apos) [e] [] cpos) (MP Jy m1 (m1L m2)):=by
 refine AO (RL rfl B hbase hline hs ha he) fun σ H Q h=>?_;exact tE.mono (U5 Rz h) fun x H1 ⟨ty,q⟩=>⟨ty,GL q |> fun q=>tE.mono q fun y H2 q=>Ku q⟩
noncomputable def Th(z:Str):List A->Option A:=on1 fun q1=>(Ck q1).bind fun y=>if 0<=Txt.find z y then some (.fz (.int (Txt.find z y))) else none
noncomputable def OY:List D->Option (List Int)
 | []=>some []
 | .int z::ds=>(OY ds).map (z :: ·)
 | _::_=>none
end
section
variable{K:Frag}{Z Z' Z1 Z2:Ro}{σ σ' σ1 σ2:L2.St}{H H' H1 H2:Hp}{O O' N:Addr->Prop}{fp fp' fp1 fp2:Nat->List Addr}{L L1:List Addr}
theorem Post.mut{i:Nat}{st:Own}{a a':A}{v:V}{p:Addr}{o:HO}{vs:List V}{L':List Addr}(x:Post K O fp H Z Z1 σ σ L fp1 H1)(hi : Z1[i]? = some (some (st,a)))(hst:st≠.ro)(hv : σ[i]? = some (some v))(hp:p∈fp1 i)(hy:H1 p=some (.lst vs))(hL:∀q∈L',q∈fp1 i\/q∈L)(nd:L'.Nodup)(hr:AA K (NN fp1 (ad O L)) (upd H1 p o) v a' L'):Post K O fp H Z (Z1.set i (some (st,a'))) σ σ [] (pt fp1 i L') (upd H1 p o):=by
 have alp:∀q,H1 q≠none->upd H1 p o q≠none:=fun q z=>by
  by_cases e:q=p
  .subst e; rw[AR]; simp
  .rw[AE e]; exact z
 have k:=DF (o:=o) hy
 -- first the heap,then the slot
 have nn:∀q,NN (pt fp1 i L') (ad O []) q->NN fp1 (ad O L) q:=fun q z=>by
  rcases z with ⟨j,z⟩|z|z
  .rcases By z with ⟨_,z⟩|⟨_,z⟩
   .rcases hL q z with z|z
    .exact .inl ⟨i,z⟩
    .exact .inr (.inr z)
   .exact .inl ⟨j,z⟩
  .exact .inr (.inl z)
  .simp at z
 have dis:∀q∈L',∀j,j≠i->q∉fp1 j:=fun q hq j hj z=>by
  rcases hL q hq with w|w
  .exact hj (x.rel.inj j i q z w)
  .exact x.rel.off j q z (.inr w)
 refine⟨⟨by rw[List.length_set]; exact x.rel.len,fun j st' b e=>?_,fun j h=>?_,fun j=>?_,fun j1 j2 q h1 h2=>?_,fun j q h z=>?_,fun q z=>alp q (x.rel.al q (nn q z))⟩,List.nodup_nil,fun q h=>by simp at h,fun q h=>?_,fun b u e c=>?_,rfl,fun j st' b e h=>?_⟩
 .by_cases hj:j=i
  .subst hj
   rw[List.getElem?_set_self (AG hi)] at e;cases e;exact⟨v,hv,by rw[FA]; exact Dx nn hr⟩
  .rw[List.getElem?_set_ne (Ne.symm hj)] at e
   obtain⟨w,e1,q⟩:=x.rel.slot j _ _ e;refine⟨w,e1,?_⟩;rw[Ht hj];exact q.tr (M:=fun q=>q=p) (fun b z=>by rw[z]; exact .inl ⟨i,hp⟩) k (fun b z=>.inl (nn b z)) fun b hb z=>hj (x.rel.inj j i p (z ▸ hb) hp)
 .by_cases hj:j=i
  .subst hj
   exact absurd (List.getElem?_set_self (AG hi)) (h st a')
  .rw[Ht hj]
   exact x.rel.out j fun st' b e=>h st' b (by rw[List.getElem?_set_ne (Ne.symm hj)]; exact e)
 .by_cases hj:j=i
  .subst hj; rw[FA]; exact nd
  .rw[Ht hj]; exact x.rel.nd j
 .rcases By h1 with ⟨e1,z1⟩|⟨e1,z1⟩
  .rcases By h2 with ⟨e2,z2⟩|⟨e2,z2⟩
   .rw[e1,e2]
   .exact absurd z2 (dis q z1 j2 e2)
  .rcases By h2 with ⟨e2,z2⟩|⟨e2,z2⟩
   .exact absurd z1 (dis q z2 j1 e1)
   .exact x.rel.inj j1 j2 q z1 z2
 .have z':=JN.mp z
  rcases By h with ⟨_,z1⟩|⟨_,z1⟩
  .rcases hL q z1 with w|w
   .exact x.rel.off i q w (.inl z')
   .exact x.lo q w z'
  .exact x.rel.off j q z1 (.inl z')
 .rcases h with h|⟨j,h⟩
  .simp at h
  .rcases By h with ⟨_,z1⟩|⟨_,z1⟩
   .rcases hL q z1 with w|w
    .exact x.new q (.inr ⟨i,w⟩)
    .exact x.new q (.inl w)
   .exact x.new q (.inr ⟨j,z1⟩)
 .have e1:=x.kept b u e c
  by_cases hb:b=p
  .subst hb
   rw[hy] at e1;cases e1;rcases c with c|c
   .rcases x.new b (.inr ⟨i,hp⟩) with z|z
    .exact absurd z c
    .rw[e] at z; cases z
   .cases c
  .rw[AE hb]; exact e1
 .obtain⟨b',e1,_,f⟩:=x.stab j st' b e h
  by_cases hj:j=i
  .subst hj
   rw[hi] at e1;cases e1;exact⟨a',List.getElem?_set_self (AG hi),rfl,fun z=>absurd z hst⟩
  .exact⟨b',by rw[List.getElem?_set_ne (Ne.symm hj)]; exact e1,rfl,f⟩
theorem Ap.app:∀{vs ws:List V} {as bs:List A} {L1 L2:List Addr},Ap K N H vs as L1->Ap K N H ws bs L2->Ap K N H (vs++ws) (as++bs) (L1++L2)
 | [],ws,[],bs,L1,L2,r,q=>by
  simp only[Ap] at r;subst r;exact q
 | [],_,_::_,_,_,_,r,_=>by simp only[Ap] at r
 | _::_,_,[],_,_,_,r,_=>by simp only[Ap] at r
 | v::vs,ws,a::as,bs,L1,L2,r,q=>by
  simp only[Ap] at r;obtain⟨M1,M2,rfl,h1,h2⟩:=r;simp only[List.cons_append,Ap];exact⟨M1,M2++L2,by simp,h1,Ap.app h2 q⟩
noncomputable def CV(Z:Ro)(i:Nat):Option (Own×List A):=match Z[i]? with
 | some (some (.ro,_))=>none
 | some (some (st,.lst as))=>some (st,as)
 | _=>none
theorem ER{i:Nat}{st:Own}{as:List A}(h:CV Z i=some (st,as)): Z[i]? = some (some (st,.lst as))/\st≠.ro:=by
 unfold CV at h;split at h
 .cases h
 .rename_i st' as' hn e
  cases h;exact⟨e,fun z=>hn z⟩
 .cases h
noncomputable def IX(i:Nat)(m:ME):MS:=fun Z=>(CV Z i).bind fun _=>(m Z).bind fun p=>(keep p.2 p.1).bind fun q=>(CV q.2 i).bind fun h=>if h.2.length<LIM then some (.next (q.2.set i (some (h.1,.lst (h.2++[q.1]))))) else none
theorem U9{i:Nat}{m:ME}{D:Ends}(h:tS K (IX i m) D σ H):LC (tBM K "list" Nq (Ox i) (B7 (tE K m) GN)) D σ H:=by
 obtain⟨Z,O,fp,rl,fl,e,w⟩:=h;simp only[IX,bind_eq_some_iff] at e;obtain⟨⟨st0,as0⟩,e0,⟨r,Z1⟩,e1,⟨a,Z2⟩,e2,⟨st,as⟩,e3,e4⟩:=e;split at e4
 .rename_i hz
  cases e4;obtain⟨g0,_⟩:=ER e0;obtain⟨v,hv,q0⟩:=rl.slot i _ _ g0;rw[AA] at q0;obtain⟨p0,vs0,_,rfl,_,hp0,_,_⟩:=q0;refine⟨_,hv,.inl ⟨rfl,vs0,.inl (.inl hp0)⟩,Z,O,fp,rl,r,Z1,e1,fun y H1 yy=>?_⟩
  obtain⟨L,fp1,p,q⟩:=yy;obtain⟨L2,fp2,p2,q2⟩:=JB p q e2;obtain⟨g,gst⟩:=ER e3;obtain⟨v',hv',qi⟩:=p2.rel.slot i _ _ g;rw[hv] at hv'; cases hv';rw[AA] at qi;obtain⟨pa,vs,L',e5,e6,hp,hz',hs⟩:=qi;cases e5;have hlen:=hs.len;refine⟨p0,vs,y,rfl,rfl,hp,by rw[hlen]; exact hz,w _ _ _ (p2.mut (a':=.lst (as++[a])) (L':=p0::(L'++L2)) g gst hv (by rw[e6]; simp) hp (fun b hb=>?_) ?_ ?_)⟩
  .rcases List.mem_cons.mp hb with rfl|hb
   .rw[e6]; simp
   .rcases List.mem_append.mp hb with hb|hb
    .rw[e6]; simp[hb]
    .exact .inr hb
  .have n1:=p2.rel.nd i
   rw[e6] at n1;have n2:(p0::L').Nodup:=n1;have:((p0::L')++L2).Nodup:=List.nodup_append.mpr ⟨n2,p2.nd,fun b hb c hc e=>by
    subst e;exact p2.rel.off i b (by rw[e6]; exact hb) (.inr hc)⟩
   simpa using this
  .rw[AA]
   have k:=DF (o:=.lst (vs++[y])) hp;have pn:NN fp2 (ad O L2) p0:=.inl ⟨i,by rw[e6]; simp⟩;have n1:=p2.rel.nd i;rw[e6] at n1;have h1:Ap K (NN fp2 (ad O L2)) (upd H1 p0 (.lst (vs++[y]))) vs as L':=hs.tr (M:=fun b=>b=p0) (fun b z=>z ▸ pn) k (fun b z=>.inl z) fun b hb z=>by
    subst z;exact(List.nodup_cons.mp n1).1 hb
   have h2:AA K (NN fp2 (ad O L2)) (upd H1 p0 (.lst (vs++[y]))) y a L2:=q2.tr (M:=fun b=>b=p0) (fun b z=>z ▸ pn) k (fun b z=>.inl z) fun b hb z=>by
    subst z;exact p2.rel.off i b (by rw[e6]; simp) (.inr hb)
   have h3:Ap K (NN fp2 (ad O L2)) (upd H1 p0 (.lst (vs++[y]))) [y] [a] L2:=by
    simp only[Ap];exact⟨L2,[],by simp,h2,rfl⟩
   refine⟨p0,vs++[y],L'++L2,rfl,rfl,AR,?_,Ap.app h1 h3⟩;rw[List.length_append,hlen];exact hz
 .cases e4
noncomputable def Wy(i:Nat)(m:ME):MS:=fun Z=>(CV Z i).bind fun _=>(m Z).bind fun p=>(peek p.2 p.1).bind fun b=>(DX b).bind fun ds=>(CV p.2 i).bind fun h=>if h.2.length+ds.length<=LIM then some (.next (p.2.set i (some (h.1,.lst (h.2++ds.map A.fz))))) else none
noncomputable def Lq(i:Nat)(mk me:ME):MS:=fun Z=>(me Z).bind fun p=>(share p.2 p.1).bind fun s=>(CV s.2 i).bind fun _=>(mk s.2).bind fun t=>match t.1 with
 | .val (.fz (.int k))=>(CV t.2 i).bind fun h=>(ixN h.2.length k).map fun j=>.next (t.2.set i (some (h.1,.lst (h.2.set j (.fz s.1)))))
 | _=>none
theorem Ap.setFz:∀{vs:List V} {as:List A} {L:List Addr} {j:Nat} {v:V} {d:D},Ap K N H vs as L->RepA N H v d->∃L',Ap K N H (vs.set j v) (as.set j (.fz d)) L'/\(∀q∈L',q∈L)/\(L.Nodup->L'.Nodup)
 | [],[],L,j,v,d,r,_=>⟨L,by simpa using r,fun _ h=>h,id⟩
 | [],_::_,_,_,_,_,r,_=>by simp only[Ap] at r
 | _::_,[],_,_,_,_,r,_=>by simp only[Ap] at r
 | x::vs,a::as,L,0,v,d,r,q=>by
  simp only[Ap] at r;obtain⟨M1,M2,rfl,h1,h2⟩:=r;refine⟨M2,?_,fun b h=>List.mem_append_right _ h,fun h=>(List.nodup_append.mp h).2.1⟩;simp only[List.set_cons_zero,Ap];exact⟨[],M2,rfl,D8 q,h2⟩
 | x::vs,a::as,L,j+1,v,d,r,q=>by
  simp only[Ap] at r;obtain⟨M1,M2,rfl,h1,h2⟩:=r;obtain⟨L',g1,g2,g3⟩:=Ap.setFz (j:=j) h2 q;refine⟨M1++L',?_,fun b h=>?_,fun h=>?_⟩
  .simp only[List.set_cons_succ,Ap]
   exact⟨M1,L',rfl,h1,g1⟩
  .rcases List.mem_append.mp h with h|h
   .exact List.mem_append_left _ h
   .exact List.mem_append_right _ (g2 b h)
  .obtain⟨n1,n2,n3⟩:=List.nodup_append.mp h
   exact List.nodup_append.mpr ⟨n1,g3 n2,fun b hb c hc e=>n3 b hb c (g2 c hc) e⟩
theorem Vd{i:Nat}{mk me:ME}{D:Ends}(h:tS K (Lq i mk me) D σ H):MQ (tE K me) (VD (Ox i) (tE K mk) SI) D σ H:=by
 obtain⟨Z,O,fp,rl,fl,e,w⟩:=h;simp only[Lq,bind_eq_some_iff] at e;obtain⟨⟨r,Z1⟩,e1,⟨d,Z2⟩,e2,⟨st0,as0⟩,e0,⟨r3,Z3⟩,e3,e4⟩:=e;dsimp only at e4;split at e4
 .rename_i kk
  simp only[bind_eq_some_iff,map_eq_some_iff] at e4;obtain⟨⟨st,as⟩,e5,j,e6,e7⟩:=e4;cases e7;refine⟨Z,O,fp,rl,r,Z1,e1,fun y H1 yy=>?_⟩;obtain⟨L,fp1,p,q⟩:=yy;obtain⟨fp2,p2,q2⟩:=E1 p q e2;obtain⟨g0,_⟩:=ER e0;obtain⟨v,hv,q0⟩:=p2.rel.slot i _ _ g0;rw[AA] at q0;obtain⟨p0,vs0,_,rfl,_,hp0,_,_⟩:=q0;refine⟨_,hv,Z2,O,fp2,p2.rel0,_,Z3,e3,fun y2 H2 yy=>?_⟩;obtain⟨L3,fp3,p3,q3⟩:=yy;cases Bc (K:=K) q3;have p4:=(p2.next p3).drop0;obtain⟨g,gst⟩:=ER e5;obtain⟨v',hv',qi⟩:=p4.rel.slot i _ _ g;rw[hv] at hv'; cases hv';rw[AA] at qi;obtain⟨pa,vs,L',e8,e9,hp,hz',hs⟩:=qi;cases e8;have hlen:=hs.len;have qy:RepA (NN fp3 (ad O [])) H2 y d:=(E5 (fun b z=>F0.mpr z) q2).tr (M:=Fp fp2) (fun b z=>.inl z) p3.kept fun b z=>by
   rcases z with z|z|z
   .exact(p3.new b (.inr z)).imp (fun y=>.inl y) id
   .exact .inl (.inr z)
   .simp at z
  have k:=DF (o:=.lst (vs.set j y)) hp;have pn:NN fp3 (ad O []) p0:=.inl ⟨i,by rw[e9]; simp⟩;have n1:=p4.rel.nd i;rw[e9] at n1;have h1:Ap K (NN fp3 (ad O [])) (upd H2 p0 (.lst (vs.set j y))) vs as L':=hs.tr (M:=fun b=>b=p0) (fun b z=>z ▸ pn) k (fun b z=>.inl z) fun b hb z=>by
   subst z;exact(List.nodup_cons.mp n1).1 hb
  have h2:RepA (NN fp3 (ad O [])) (upd H2 p0 (.lst (vs.set j y))) y d:=qy.tr (M:=fun b=>b=p0) (fun b z=>z ▸ pn) k fun b z=>.inl z;obtain⟨L4,g1,g2,g3⟩:=Ap.setFz (j:=j) h1 h2;refine⟨p0,vs,kk,j,rfl,rfl,hp,by rw[hlen]; exact e6,w _ _ _ (p4.mut (a':=.lst (as.set j (.fz d))) (L':=p0::L4) g gst hv (by rw[e9]; simp) hp (fun b hb=>?_) ?_ ?_)⟩
  .rcases List.mem_cons.mp hb with rfl|hb
   .exact .inl (by rw[e9]; simp)
   .exact .inl (by rw[e9]; simp[g2 b hb])
  .exact List.nodup_cons.mpr ⟨fun z=>(List.nodup_cons.mp n1).1 (g2 _ z),g3 (List.nodup_cons.mp n1).2⟩
  .rw[AA]
   exact⟨p0,vs.set j y,L4,rfl,rfl,AR,by rw[List.length_set]; exact hz',g1⟩
 .cases e4
end
section
variable{X:Cx}{a b c e:Expr}{es:List Expr}{m m1 m2 m3:ME}{ms:MA}{p pos pos' p2 apos cpos q npos:Pos}{x:Str}
theorem Pf(i:Nat)(hN:X.N[i]? = some x)(hv:Vis X.env.scope x)(hd:(x==("__debug__" : Str))=false)(hcd:(x==("__classdict__" : Str))=false)(hbase:attributeBase (.Name x npos) "append" X.env (eval (.Name x npos) X.env)=eval (.Name x npos) X.env)(hline:(apos.endLine==cpos.line)=true)(hs:starEach [e] X.env=[(false,eval e X.env)])(hw:swapsWith (.Call (.Attribute (.Name x npos) "append" apos) [e] [] cpos) none pos.line X.env=pure false)(he:JE X e m):JS X (.Expr (.Call (.Attribute (.Name x npos) "append" apos) [e] [] cpos) pos) (IX i m):=
 Bg (GG (PJ PySem.F.plainAttrs_list PySem.F.slot_list_append PySem.F.type_list_append G9 (Iz hN hv hd hcd) (De he Fq hs) hbase (by rw[hs]; rfl) hline hs rfl) hw) fun _ _ _ h=>U9 h
theorem Mi(i:Nat)(hN:X.N[i]? = some x)(hv:Vis X.env.scope x)(hd:(x==("__debug__" : Str))=false)(hcd:(x==("__classdict__" : Str))=false)(ha:∀v,assign (.Subscript (.Name x npos) b pos') X.env v=(do
   let ov <- holding [v] (eval (.Name x npos) X.env)
   let iv <- holding [v,ov] (eval b X.env)
   standAt pos'
   holding [v,ov,iv] (setItem ov iv v)
   release [v,ov,iv] []))(hs:swapsWithSole [.Subscript (.Name x npos) b pos'] e pos.line X.env=pure false)(hw:swappedStores [.Subscript (.Name x npos) b pos'] e X.env=pure none)(h1:(assignEach [.Subscript (.Name x npos) b pos'] X.env).map (·.2)=[assign (.Subscript (.Name x npos) b pos') X.env])(hk:JE X b m1)(he:JE X e m2):JS X (.Assign [.Subscript (.Name x npos) b pos'] e pos) (Lq i m1 m2):=
 Bg (PX he (UE (Iz hN hv hd hcd) hk set_list ha) hs hw h1) fun _ _ _ h=>Vd h
end
end J
end
section
namespace PySem
open Sem (wp)
section
variable{prog:Program}{w:World}{Kk:Type}[DecidableEq Kk]{knd:KeyKind prog w Kk}{A:Around}{E:Value->Shared->Prop}{R:Result->Shared->Prop}
end
end PySem
end
section
namespace L2
open PySem PySem.Spec PyProof.Rows
theorem KR.rep{N:Addr->Prop}{H:Hp}{v:V}{d:D}(r:KR H v d):RepA N H v d:=by
 induction r with
 | non=>exact .non
 | int i=>exact .int i
 | str x hx=>exact .str x hx
 | tup h hz hl _ ih=>exact .tup h hz hl ih
mutual
noncomputable def WD:D->Bool
 | .non=>true
 | .int _=>true
 | .str _=>true
 | .tup ds=>SA ds
 | .bl _=>false
 | .lst _=>false
noncomputable def SA:List D->Bool
 | []=>true
 | d::ds=>WD d&&SA ds
end
theorem ON:∀{H:Hp} {v:V} {d:D},KR H v d->∀{v':V} {e:D},KR H v' e->eqD d e=decide (d=e):=by
 intro H v d r;have key:∀{d e:D},eqD d e=true->d=e->eqD d e=decide (d=e):=fun h1 h2=>by rw[h1,decide_eq_true h2]
 have kf:∀{d e:D},eqD d e=false->d≠e->eqD d e=decide (d=e):=fun h1 h2=>by rw[h1,decide_eq_false h2]
 induction r with
 | non=>intro v' e q; cases q<;>first|exact key rfl rfl|exact kf rfl (fun z=>nomatch z)
 | int i =>
  intro v' e q;cases q with
  | int j =>
   rw[Gj];by_cases h:i=j
   .subst h; simp
   .rw[decide_eq_false (fun z=>h (by injection z)),beq_eq_false_iff_ne.mpr h]
  | _=>exact kf rfl (fun z=>nomatch z)
 | str x hx =>
  intro v' e q;cases q with
  | str y hy =>
   rw[Hq];by_cases h:x=y
   .subst h; simp
   .rw[decide_eq_false (fun z=>h (by injection z)),beq_eq_false_iff_ne.mpr h]
  | _=>exact kf rfl (fun z=>nomatch z)
 | @tup a vs ds h hz hl hr ih =>
  intro v' e q;cases q with
  | @tup a' vs' es h' hz' hl' hr' =>
   rw[Gk];by_cases hlen:ds.length=es.length
   .rw[Di hlen]
    by_cases hde:ds=es
    .subst hde
     rw[decide_eq_true rfl,List.all_eq_true];intro i _;exact Ff _
    .rw[decide_eq_false (fun z=>hde (by injection z)),Bool.eq_false_iff]
     intro z;rw[List.all_eq_true] at z;refine hde (List.ext_getElem? fun i=>?_);by_cases hi:i<ds.length
     .have z1:=z i (List.mem_range.mpr hi)
      have g3:ds.getD i .non=ds[i]:=by simp[List.getD,hi]
      have hi':i<es.length:=by lia
      have g4:es.getD i .non=es[i]:=by simp[List.getD,hi']
      rw[g3,g4] at z1;have c:=ih i (vs[i]'(by lia)) ds[i] (by simp) (by simp) (hr' i (vs'[i]'(by lia)) es[i] (by simp) (by simp));rw[c] at z1;rw[List.getElem?_eq_getElem hi,List.getElem?_eq_getElem hi',of_decide_eq_true z1]
     .rw[List.getElem?_eq_none (by lia),List.getElem?_eq_none (by lia)]
   .rw[decide_eq_false (fun z=>hlen (by injection z with z; rw[z])),Bool.eq_false_iff]
    exact fun z=>hlen (Dj z)
  | _=>exact kf rfl (fun z=>nomatch z)
section
variable{P:Program}{w:World}{H:Hp}{A:Around}{E:Value->Shared->Prop}
theorem L8:∀{ds:List D} {i:Nat} {d:D},ds[i]? = some d->(G3 w ds)[i]? = some (Dw w d):=by
 intro ds;induction ds with
 | nil=>intro i d e; simp at e
 | cons x xs ih =>
  intro i d e;cases i with
  | zero=>simp at e; subst e; rfl
  | succ i=>exact ih (by simpa using e)
theorem L9:∀{ds:List D},(G3 w ds).length=ds.length:=by
 intro ds;induction ds with
 | nil=>rfl
 | cons x xs ih=>show(G3 w xs).length+1=_; rw[ih]; rfl
theorem KR.hash{x:V}{d:D}(r:KR H x d):∀{A:Around} {n:Nat} {v:Value} {s:Shared} {Q:Int->Shared->Prop},HOk P w H s.heap->RelV x v->Sh n d->A.units+n<cLine->(∀tk,Q (Dw w d) { s with toks:=tk }) ->
  wpAny (model P w) A (pyHash v) Q E s:=by
 induction r with
 | non =>
  intro A n v s Q hok rx hs hu h;cases rx;exact PySem.W.pyHash_slot (T := "NoneType") rfl F.slot_NoneType_hash F.entry_NoneType_hash (F.args_NoneType_hash_1 _) (beq_builtin_none _) (.inr (by lia)) (wpAny_bind (wpAny_pure (wpAny_bind (wpAny_mkInt (wpAny_pure ⟨_,_,rfl,h _⟩)))))
 | int i=>intro A n v s Q hok rx hs hu h; obtain⟨t,rfl⟩:=rx; exact wpAny_pyHash_int (h _)
 | str y hy=>intro A n v s Q hok rx hs hu h; obtain⟨t,rfl⟩:=rx; exact wpAny_pyHash_str (h _)
 | @tup a vs ds hH hz hl hr ih =>
  intro A n v s Q hok rx hs hu h;cases rx;cases hs with
  | @tup n _ hs =>
   obtain⟨_,its,rv,o,ho,hc,k,hd⟩:=(show BV P w H s.heap a (.tup vs) from hok a _ hH);have hlen:=rv.length;refine PySem.W.pyHash_slot (T := "tuple") ⟨_,ho,hc⟩ F.slot_tuple_hash F.entry_tuple_hash (F.args_tuple_hash_1 _) (beq_builtin_none _) (.inr (lt0 hu)) ?_;show wpAny _ _ (Builtin.Tuple.tupleItemsOf (.ref a) >>= _) _ _ s;refine wpAny_bind (wpAny_tupleItemsOf ho hd ?_);refine wpAny_bind ?_;rw[<- Array.forIn_toList];refine wpAny_forIn_list _ (fun rest (b:Array Int) s'=>∃j tk,rest=its.drop j/\b.toList=(G3 w ds).take j/\j<=its.length/\s'={ s with toks:=tk }) _ ?_ ?_ _ _ ⟨0,s.toks,by simp,by simp,Nat.zero_le _,rfl⟩
   .rintro u rest b s' ⟨j,tk,hj,hb,hjl,rfl⟩
    have hlt:j<its.length:=by
     rcases Nat.lt_or_ge j its.length with z|z
     .exact z
     .rw[List.drop_eq_nil_of_le z] at hj; cases hj
    rw[List.drop_eq_getElem_cons hlt] at hj;injection hj with e1 e2
    have d1:ds[j]? = some (ds[j]'(by lia)):=by simp
    have v1:vs[j]? = some (vs[j]'(by lia)):=by simp
    obtain⟨u',hu',ru⟩:=rv.get v1;rw[List.getElem?_eq_getElem hlt,<- e1] at hu';injection hu' with hu';subst hu';refine wpAny_bind (ih j _ _ v1 d1 (A:=A.in1) (n:=n) (s:={ s with toks:=tk }) hok ru (hs _ (List.mem_of_getElem? d1)) (lt1 hu) fun tk'=>?_);refine wpAny_bind (wpAny_pure (wpAny_pure ⟨j+1,tk',e2,?_,hlt,rfl⟩));rw[Array.toList_push,hb,List.take_succ,L8 d1];rfl
   .rintro b s' ⟨j,tk,hj,hb,hjl,rfl⟩
    have hjj:j=its.length:=by
     have:=congrArg List.length hj;simp at this;lia
    show wpAny _ _ (retInt (Builtin.Tuple.tupleHashOf b.toList)) _ _ _;rw[hb,hjj,<- hlen,hl,List.take_of_length_le (by rw[L9]; exact Nat.le_refl _)];exact wpAny_bind (wpAny_mkInt (wpAny_pure ⟨_,_,rfl,h _⟩))
theorem KR.quiet{x:V}{d:D}(r:KR H x d):∀{A:Around} {n:Nat} {v:Value} {s:Shared} {Q:Bool->Shared->Prop},HOk P w H s.heap->RelV x v->Sh n d->Q true s->wpAny (model P w) A (eqIsQuiet n v) Q E s:=by
 induction r with
 | non=>intro A n v s Q hok rx hs h; cases rx; rw[eqIsQuiet_byValue _ rfl]; exact wpAny_pure h
 | int i=>intro A n v s Q hok rx hs h; obtain⟨t,rfl⟩:=rx; rw[eqIsQuiet_byValue _ rfl]; exact wpAny_pure h
 | str y hy=>intro A n v s Q hok rx hs h; obtain⟨t,rfl⟩:=rx; rw[eqIsQuiet_byValue _ rfl]; exact wpAny_pure h
 | @tup a vs ds hH hz hl hr ih =>
  intro A n v s Q hok rx hs h;cases rx;cases hs with
  | @tup n _ hs =>
   obtain⟨_,its,rv,o,ho,hc,k,hd⟩:=(show BV P w H s.heap a (.tup vs) from hok a _ hH);have hlen:=rv.length;have hT:s.TypeIs (.ref a) "tuple" := ⟨_,ho,hc⟩;unfold eqIsQuiet;refine wpAny_bind (wpAny_specialOf hT F.slot_tuple_eq.lookup ?_);show wpAny _ _ (isInstance (.ref a) (.type "tuple") >>= _) _ _ s;refine wpAny_bind (wpAny_isInstance hT isSubtype_tuple_tuple ?_);simp only[Bool.not_true,Bool.false_eq_true,if_false];refine wpAny_bind (wpAny_seqItems ho hd ?_);refine wpAny_bind ?_;show wpAny _ _ (forIn its.toArray _ _) _ _ s;rw[<- Array.forIn_toList];refine wpAny_forIn_list _ (fun rest r s'=>r.1=none/\s'=s/\∃j,rest=its.drop j) _ ?_ ?_ _ _ ⟨rfl,rfl,0,by simp⟩
   .rintro u rest r s' ⟨hr',rfl,j,hj⟩
    have hlt:j<its.length:=by
     rcases Nat.lt_or_ge j its.length with z|z
     .exact z
     .rw[List.drop_eq_nil_of_le z] at hj; cases hj
    rw[List.drop_eq_getElem_cons hlt] at hj;injection hj with e1 e2
    have d1:ds[j]? = some (ds[j]'(by lia)):=by simp
    have v1:vs[j]? = some (vs[j]'(by lia)):=by simp
    obtain⟨u',hu',ru⟩:=rv.get v1;rw[List.getElem?_eq_getElem hlt,<- e1] at hu';injection hu' with hu';subst hu';refine wpAny_bind (ih j _ _ v1 d1 (n:=n) hok ru (hs _ (List.mem_of_getElem? d1)) ?_);simp only[Bool.not_true,Bool.false_eq_true,if_false];exact wpAny_pure ⟨rfl,rfl,j+1,e2⟩
   .rintro ⟨r1,r2⟩ s' ⟨hr',rfl,_⟩
    simp only at hr';subst hr';exact wpAny_pure h
end
section
variable{P:Program}{w:World}{A:Around}{E:Value->Shared->Prop}{s:Shared}{R:D->Value->Prop}
structure KeyRel (P:Program) (w:World) (A:Around) (s:Shared) (R:D->Value->Prop):Prop where
 eq:∀{d e:D} {u v:Value},R d u->R e v->SeqAt.EqAt A s u v (decide (d=e))
 quiet:∀{d:D} {u:Value} {E:Value->Shared->Prop} {Q:Bool->Shared->Prop},R d u->Q true s->wpAny (model P w) A (eqIsQuiet 8 u) Q E s
 inj:∀{d e:D} {u:Value},R d u->R e u->d=e
 str:∀{d:D} {x:Str} {t:Tok},R d (.str x t)->d=.str x
 txt:∀{x:Str} {u:Value},R (.str x) u->∃t,u=.str x t
noncomputable def C6(xs:List (D×Value×Value))(k:D):Option Nat:=xs.findIdx? fun x=>decide (x.1=k)
theorem D7{xs:List (D×Value×Value)}{k:D}{j:Nat}{p:Value×Value}(hn:(xs.map (·.1)).Nodup)(hj:xs[j]? = some (k,p)):C6 xs k=some j:=by
 unfold C6;rw[List.findIdx?_eq_some_iff_getElem];obtain⟨hlt,he⟩:=List.getElem?_eq_some_iff.mp hj;refine⟨hlt,by rw[he]; simp,fun i hi=>?_⟩;have hne:¬(xs[i]'(by lia)).1=k:=fun e=>by
  have h1:(xs.map (·.1))[i]? = some k:=by rw[List.getElem?_map,List.getElem?_eq_getElem (by lia)]; simp[e]
  have h2:(xs.map (·.1))[j]? = some k:=by rw[List.getElem?_map,hj]; rfl
  have:=(List.getElem?_inj (List.getElem?_eq_some_iff.mp h1).1 hn).mp (h1.trans h2.symm);lia
 simpa using hne
theorem Lo{xs:List (D×Value×Value)}{k:D}(h:∀(j:Nat) p,xs[j]? ≠ some (k,p)):C6 xs k=none:=by
 unfold C6;rw[List.findIdx?_eq_none_iff];intro x hx;obtain⟨j,hj⟩:=List.mem_iff_getElem?.mp hx;simp only[decide_eq_false_iff_not];exact fun e=>h j x.2 (by rw[hj,<- e])
theorem Gb(K:KeyRel P w A s R){key:Value}{k:D}{stored:List Value}{Q:Bool->Shared->Prop}(hkey:R k key)(hst:∀v∈stored,∃d,R d v)(h:Q false s):wpAny (model P w) A (tableMayTell key stored) Q E s:=by
 unfold tableMayTell;split
 .exact wpAny_pure h
 .refine wpAny_bind (K.quiet hkey ?_)
  simp only[Bool.not_true,Bool.false_eq_true,if_false];refine wpAny_bind (wpAny_forIn_list _ (fun rest r s'=>s'=s/\r=(none,())/\∀v∈rest,∃d,R d v) _ ?_ ?_ _ _ ⟨rfl,rfl,hst⟩)
  .rintro x rest r s' ⟨rfl,rfl,hr⟩
   obtain⟨d,hb⟩:=hr x List.mem_cons_self;refine wpAny_bind (K.quiet hb ?_);simp only[Bool.not_true,Bool.false_eq_true,if_false];exact wpAny_pure ⟨rfl,rfl,fun v hv=>hr v (List.mem_cons_of_mem _ hv)⟩
  .rintro r s' ⟨rfl,rfl,_⟩
   exact wpAny_pure h
theorem FW{α:Type}{M:Model}{c:Bool}{a b:Sem α}{Q:α -> Shared->Prop}(h1:wpAny M A a Q E s)(h2:wpAny M A b Q E s):wpAny M A (if c=true then a else b) Q E s:=by
 cases c
 .exact h2
 .exact h1
theorem LY{α:Type}{p q:α -> Bool}{l:List α}(h:∀x∈l,p x=q x):l.findIdx? p=l.findIdx? q:=by
 induction l with
 | nil=>rfl
 | cons x l ih=>rw[List.findIdx?_cons,List.findIdx?_cons,h x List.mem_cons_self,ih fun y hy=>h y (List.mem_cons_of_mem _ hy)]
structure EntG (w:World) (R:D->Value->Prop) (es:Array DictEntry) (xs:List (D×Value×Value)):Prop where
 es:es.toList=xs.map (GV w)
 rel:∀x∈xs,R x.1 x.2.1
 nd:(xs.map (·.1)).Nodup
theorem EntG.at{es:Array DictEntry}{xs:List (D×Value×Value)}(h:EntG w R es xs)(j:Nat):es[j]? = (xs[j]?).map (GV w):=by
 rw[<- Array.getElem?_toList,h.es,List.getElem?_map]
theorem EntG.size{es:Array DictEntry}{xs:List (D×Value×Value)}(h:EntG w R es xs):es.size=xs.length:=by
 rw[<- Array.length_toList,h.es,List.length_map]
theorem S7(K:KeyRel P w A s R){d:Addr}{o:Obj}{es ep}{xs:List (D×Value×Value)}{k:D}{key:Value}{Q:Option Nat->Shared->Prop}(hkey:R k key)(ho:s.heap.get? d=some o)(hd:o.data=.dict es ep)(he:EntG w R es xs)(h:Q (C6 xs k) s):wpAny (model P w) A (dictFind d key (Dw w k)) Q E s:=by
 have hsz:=he.size;have hpl:∀j,j∈placesWithHash es.size (fun i=>es[i]?.map (·.hash)) (Dw w k)↔j<xs.length/\∃x,xs[j]? = some x/\Dw w x.1=Dw w k:=by
  intro j;unfold placesWithHash;rw[List.mem_filter,List.mem_range,hsz];refine and_congr_right fun hj=>?_;dsimp only;rw[he.at,List.getElem?_eq_getElem hj];simp[GV]
 have hmem:∀j x,xs[j]? = some x->es[j]? = some (GV w x):=fun j x e=>by rw[he.at,e]; rfl
 have hend:(∀j∈placesWithHash es.size (fun i=>es[i]?.map (·.hash)) (Dw w k),∀p,xs[j]? ≠ some (k,p))->C6 xs k=none:=fun z=>Lo fun j p e=>z j ((hpl j).mpr ⟨(List.getElem?_eq_some_iff.mp e).1,_,e,rfl⟩) p e;have hst:∀v∈(placesWithHash es.size (fun i=>es[i]?.map (·.hash)) (Dw w k)).filterMap (fun i=>es[i]?.map (·.key)),∃d',R d' v:=by
  intro v hv;obtain⟨i,hi,e⟩:=List.mem_filterMap.mp hv;obtain⟨_,x,hx,_⟩:=(hpl i).mp hi;rw[hmem i x hx] at e;obtain rfl:x.2.1=v:=by simpa[GV] using e
  exact⟨x.1,he.rel x (List.mem_of_getElem? hx)⟩
 generalize hP:placesWithHash es.size (fun i=>es[i]?.map (·.hash)) (Dw w k)=pl at hpl hend hst;have old:wpAny (model P w) A (dictWalkPlain d key (Dw w k) es pl) Q E s:=by
  refine wpAny_bind (wpAny_forIn_list _ (fun rest b s'=>s'=s/\b=(none,())/\(∀j∈rest,j∈pl)/\∀j∈pl,j∈rest\/∀p,xs[j]? ≠ some (k,p)) _ ?_ ?_ _ _ ⟨rfl,rfl,fun _ h=>h,fun _ h=>.inl h⟩)
  .rintro x rest b s' ⟨rfl,rfl,h1,h2⟩
   obtain⟨hlt,y,hy,hh⟩:=(hpl x).mp (h1 x List.mem_cons_self);have hyr:=he.rel y (List.mem_of_getElem? hy);have next:¬y.1=k->((∀j∈rest,j∈pl)/\∀j∈pl,j∈rest\/∀p,xs[j]? ≠ some (k,p)):=fun hne=>⟨fun j hj=>h1 j (List.mem_cons_of_mem _ hj),fun j hj=>by
    rcases h2 j hj with z|z
    .rcases List.mem_cons.mp z with rfl|z
     .exact .inr fun p e=>by rw[hy] at e; injection e with e; exact hne (by rw[e])
     .exact .inl z
    .exact .inr z⟩
   rw[hmem x y hy];dsimp only[GV];rw[if_pos (by rw[hh]; exact beq_self_eq_true _)];refine wpAny_bind (wpAny_dictEpoch ho hd (wpAny_bind (K.eq hyr hkey P w E _ (wpAny_bind (wpAny_dictEpoch ho hd ?_)))));show wpAny _ _ (if (ep != ep)=true then _ else _) _ E _;rw[if_neg (by simp)];by_cases hkk:y.1=k
   .rw[decide_eq_true hkk]
    rw[D7 he.nd (show xs[x]? = some (k,y.2) by rw[hy,<- hkk])] at h;exact wpAny_bind (wpAny_rule (wpAny_pure (wpAny_pure h)))
   .rw[decide_eq_false hkk]
    exact wpAny_bind (wpAny_rule (wpAny_pure ⟨rfl,rfl,next hkk⟩))
  .rintro b s' ⟨rfl,rfl,h1,h2⟩
   rw[hend fun j hj=>(h2 j hj).resolve_left (by simp)] at h;exact wpAny_pure h
 have hany:∀a,key=.ref a->¬(es.any fun e=>e.key==Value.ref a&&e.hash != Dw w k)=true:=by
  rintro a rfl;rw[<- Array.any_toList,List.any_eq_true];rintro ⟨e,hin,hc⟩;rw[he.es] at hin;obtain⟨x,hx,rfl⟩:=List.mem_map.mp hin;simp only[GV,Bool.and_eq_true,beq_iff_eq,bne_iff_ne,ne_eq] at hc;have:=he.rel x hx;rw[hc.1] at this;exact hc.2 (by rw[K.inj this hkey])
 have body:∀stored:List Value,(∀v∈stored,∃d',R d' v)->∀tells:Bool,tells=false->wpAny (model P w) A (do
   if tells&&stored.length ≥ 2 then unsupported "dict.find:order-among-keys-of-one-hash"
   let mut hit:Option Nat:=none
   for i in pl do
    if let some e:=es[i]? then
     if e.hash==Dw w k then
      let before <- dictEpoch d (keyPart key)
      let same <- eqBool e.key key
      if (<- dictEpoch d (keyPart key)) != before then unsupported "dict.changed-during-lookup"
      if same then
       if hit.isSome then unsupported "dict.find:order-among-keys-of-one-hash"
       rule "dict.find.hit"
       if stored.length<2 then return some i
       hit:=some i
      else
       rule "dict.find.same-hash-other-key"
       if tells&&!(0<=Dw w k&&Dw w k<32) then unsupported "dict.find:asked-again-or-not-hangs-on-the-table"
   return hit) Q E s:=by
  intro stored hs tells ht;subst ht;rw[if_neg (by simp)];refine wpAny_bind ?_;refine wpAny_forIn_list _ (fun rest b s'=>s'=s/\b.1=none/\rest.Nodup/\(∀j∈rest,j∈pl)/\(∀j∈pl,j∈rest\/(∀p,xs[j]? ≠ some (k,p))\/b.2=some j)/\∀j,b.2=some j->j∉rest/\∃p,xs[j]? = some (k,p)) _ ?_ ?_ _ _ ⟨rfl,rfl,by rw[<- hP]; exact List.Pairwise.filter _ List.nodup_range,fun _ h=>h,fun _ h=>.inl h,fun _ h=>nomatch h⟩
  .rintro x rest ⟨b1,hit⟩ s' ⟨rfl,rfl,hnd,h1,h2,h3⟩
   rw[List.nodup_cons] at hnd;obtain⟨hlt,y,hy,hh⟩:=(hpl x).mp (h1 x List.mem_cons_self);have hyr:=he.rel y (List.mem_of_getElem? hy);rw[hmem x y hy];dsimp only[GV];rw[if_pos (by rw[hh]; exact beq_self_eq_true _)];refine wpAny_bind (wpAny_dictEpoch ho hd (wpAny_bind (K.eq hyr hkey P w E _ (wpAny_bind (wpAny_dictEpoch ho hd ?_)))));show wpAny _ _ (if (ep != ep)=true then _ else _) _ E _;rw[if_neg (by simp)];by_cases hkk:y.1=k
   .rw[decide_eq_true hkk]
    have hxk:xs[x]? = some (k,y.2):=by rw[hy,<- hkk]
    have hp:=D7 he.nd hxk;have hn:hit=none:=by
     cases hit with
     | none=>rfl
     | some j =>
      obtain⟨q1,p,q2⟩:=h3 j rfl;have:=(D7 he.nd q2).symm.trans hp;injection this with this;subst this;exact absurd List.mem_cons_self q1
    subst hn;rw[if_pos rfl];simp only[Option.isSome_none,Bool.false_eq_true,if_false];refine wpAny_bind (wpAny_rule ?_);split
    .rw[hp] at h
     exact wpAny_pure (wpAny_pure h)
    .refine wpAny_pure ⟨rfl,rfl,hnd.2,fun j hj=>h1 j (List.mem_cons_of_mem _ hj),fun j hj=>?_,fun j hj=>?_⟩
     .rcases h2 j hj with z|z|z
      .rcases List.mem_cons.mp z with rfl|z
       .exact .inr (.inr rfl)
       .exact .inl z
      .exact .inr (.inl z)
      .cases z
     .injection hj with hj
      subst hj;exact⟨hnd.1,_,hxk⟩
   .rw[decide_eq_false hkk]
    simp only[Bool.false_eq_true,if_false];refine wpAny_bind (wpAny_rule ?_);have step:(fun(b:Option (Option Nat)×Option Nat) (s'':Shared)=>s''=s'/\b.1=none/\rest.Nodup/\(∀j∈rest,j∈pl)/\(∀j∈pl,j∈rest\/(∀p,xs[j]? ≠ some (k,p))\/b.2=some j)/\∀j,b.2=some j->j∉rest/\∃p,xs[j]? = some (k,p)) (none,hit) s':=by
     refine⟨rfl,rfl,hnd.2,fun j hj=>h1 j (List.mem_cons_of_mem _ hj),fun j hj=>?_,fun j hj=>?_⟩
     .rcases h2 j hj with z|z
      .rcases List.mem_cons.mp z with rfl|z
       .exact .inr (.inl fun p e=>by rw[hy] at e; injection e with e; exact hkk (by rw[e]))
       .exact .inl z
      .exact .inr z
     .obtain⟨q1,q2⟩:=h3 j hj
      exact⟨fun z=>q1 (List.mem_cons_of_mem _ z),q2⟩
    first
     | exact wpAny_pure step
     | exact wpAny_bind (wpAny_pure (wpAny_pure step))
     | (rw[if_neg (by simp)]; exact wpAny_pure step)
     | (rw[if_neg (by simp)]; exact wpAny_bind (wpAny_pure (wpAny_pure step)))
  .rintro ⟨b1,hit⟩ s' ⟨rfl,rfl,_,h1,h2,h3⟩
   cases hit with
   | none =>
    rw[hend fun j hj=>((h2 j hj).resolve_left (by simp)).resolve_right (fun z=>nomatch z)] at h;exact wpAny_pure h
   | some j =>
    obtain⟨_,p,q2⟩:=h3 j rfl;rw[D7 he.nd q2] at h;exact wpAny_pure h
 unfold dictFind;try with_reducible refine wpAny_holding ?_
 refine wpAny_bind (wpAny_dictEntries ho hd ?_);dsimp only;rw[hP];cases key with
 | str x t =>
  dsimp only;refine FW ?_ ?_
  .have hkx:=K.str hkey
   subst hkx;have hfi:es.findIdx? (·.key.isStr x)=C6 xs (.str x):=by
    have e1:es.findIdx? (·.key.isStr x)=es.toList.findIdx? (·.key.isStr x):=by obtain⟨l⟩:=es; simp
    rw[e1,he.es,List.findIdx?_map];unfold C6;refine LY fun y hy=>?_;have hyr:=he.rel y hy;show y.2.1.isStr x=decide (y.1=.str x);cases hk:decide (y.1=D.str x) with
    | true =>
     have e:=of_decide_eq_true hk;rw[e] at hyr;obtain⟨t',e'⟩:=K.txt hyr;rw[e'];exact beq_self_eq_true x
    | false =>
     cases hv:y.2.1 with
     | str z t' =>
      rw[hv] at hyr;have:=K.str hyr;rw[this] at hk;have hne:¬z=x:=fun e=>by rw[e] at hk; simp at hk
      exact beq_eq_false_iff_ne.mpr hne
     | _=>rfl
   unfold foundByValue;rw[hfi];cases hpq:C6 xs (.str x) with
   | none=>rw[hpq] at h; exact wpAny_pure h
   | some i =>
    rw[hpq] at h;unfold C6 at hpq;obtain⟨hlt,hi,_⟩:=List.findIdx?_eq_some_iff_getElem.mp hpq;have hy:xs[i]? = some xs[i]:=List.getElem?_eq_getElem hlt;dsimp only;rw[hmem i _ hy];refine wpAny_bind (wpAny_dictEpoch ho hd (wpAny_bind (K.eq (he.rel _ (List.getElem_mem hlt)) hkey P w E _ (wpAny_bind (wpAny_dictEpoch ho hd ?_)))));show wpAny _ _ (if (ep != ep)=true then _ else _) _ E _;rw[if_neg (by simp),hi];exact wpAny_bind (wpAny_rule (wpAny_pure h))
  .exact FW old (FW (wpAny_bind (wpAny_pure (body _ hst false rfl))) (wpAny_bind (Gb K hkey hst (body _ hst false rfl))))
 | ref a =>
  dsimp only;refine FW old ?_;rw[if_neg (hany a rfl)];exact FW (wpAny_bind (wpAny_pure (body _ hst false rfl))) (wpAny_bind (Gb K hkey hst (body _ hst false rfl)))
 | _=>exact FW old (FW (wpAny_bind (wpAny_pure (body _ hst false rfl))) (wpAny_bind (Gb K hkey hst (body _ hst false rfl))))
end
section
variable{P:Program}{w:World}{H:Hp}{A:Around}{E:Value->Shared->Prop}{s:Shared}{a:Addr}{kvs:List (D×V)}{k:D}{y v:V}{u r:Value}
noncomputable def KU(H:Hp)(d:D)(u:Value):Prop:=Sh 8 d/\∃y,KR H y d/\RelV y u
theorem KU.rel(hok:HOk P w H s.heap)(hu:A.units+8<cLine):KeyRel P w A s (KU H) where
 eq:=fun⟨h1,y1,k1,r1⟩ ⟨_,y2,k2,r2⟩=>by
  rw[<- ON k1 k2];exact HW (N:=fun _=>False) (N':=fun _=>False) hok k1.rep k2.rep r1 r2 h1 hu
 quiet:=fun⟨h1,y1,k1,r1⟩ h=>k1.quiet hok r1 h1 h
 inj:=fun⟨_,y1,k1,r1⟩ ⟨_,y2,k2,r2⟩=>by
  cases r1.inj r2;exact(k1.rep (N:=fun _=>False)).inj (k2.rep (N:=fun _=>False))
 str:=fun {d x t} ⟨_,y1,k1,r1⟩=>by
  cases r1.inj (show RelV (.str x) (.str x t) from⟨t,rfl⟩);cases k1;rfl
 txt:=fun⟨_,y1,k1,r1⟩=>by
  cases k1;exact r1
noncomputable def KC(xs:List (D×Value×Value))(k:D):Option Value:=(xs.find? fun x=>decide (x.1=k)).map (·.2.2)
theorem MZ{xs:List (D×Value×Value)}{k:D}:KC xs k=(C6 xs k).bind fun i=>(xs[i]?).map (·.2.2):=by
 unfold KC C6;induction xs with
 | nil=>rfl
 | cons x xs ih =>
  rw[List.find?_cons,List.findIdx?_cons];by_cases h:x.1=k
  .simp[h]
  .simp only[decide_eq_false h,Bool.false_eq_true,if_false]
   rw[ih];cases xs.findIdx? fun x=>decide (x.1=k)<;>rfl
structure RawG (w:World) (H:Hp) (h:Heap) (a:Addr) (kvs:List (D×V)) (o:Obj) (es:Array DictEntry) (ep:Nat) (xs:List (D×Value×Value)):Prop where
 sz:kvs.length<=sizeLine
 nm:(a==sysModules)=false
 pr:Paired (fun(p:D×V) (q:D×Value×Value)=>p.1=q.1/\RelV p.2 q.2.2) kvs xs
 ob:h.get? a=some o
 ex:o.ExactDict
 dt:o.data=.dict es ep
 en:EntG w (KU H) es xs
theorem Sx(hok:HOk P w H s.heap)(hu:A.units+8<cLine){o:Obj}{es ep xs}(g:RawG w H s.heap a kvs o es ep xs)(hk:KU H k u){Q:Option Value->Shared->Prop}(h:∀tk,Q (KC xs k) { s with toks:=tk }):
  wpAny (model P w) A (dictGet a u) Q E s:=by
 obtain⟨hs,y,ky,ry⟩:=hk;unfold dictGet;try with_reducible refine wpAny_holding ?_
 refine wpAny_bind (ky.hash hok ry hs hu fun tk=>wpAny_bind (S7 (s:={ s with toks:=tk }) (KU.rel hok hu) ⟨hs,y,ky,ry⟩ g.ob g.dt g.en ?_));have h:=h tk;rw[MZ] at h;cases hp:C6 xs k with
 | none=>rw[hp] at h; exact wpAny_pure h
 | some i =>
  rw[hp] at h;refine wpAny_bind (wpAny_dictEntries (s:={ s with toks:=tk }) g.ob g.dt ?_);refine wpAny_pure ?_;rw[g.en.at];have e:Option.map (·.val) (Option.map (GV w) xs[i]?)=Option.map (·.2.2) xs[i]?:=by cases xs[i]? <;> rfl
  rw[e];exact h
theorem RawG.ty{o:Obj}{es ep xs}(g:RawG w H s.heap a kvs o es ep xs):s.TypeIs (.ref a) "dict" := ⟨o,g.ob,g.ex.1⟩
theorem lt8{n c:Nat}(h:n+10<c):n+1+8<c:=by lia
theorem WC(hok:HOk P w H s.heap)(hu:A.units+10<cLine){o:Obj}{es ep xs}(g:RawG w H s.heap a kvs o es ep xs)(hk:KU H k u){Q:Bool->Shared->Prop}(h:∀tk,Q (KC xs k).isSome { s with toks:=tk }):
  wpAny (model P w) A (contains (.ref a) u) Q E s:=by
 unfold contains;try with_reducible refine wpAny_holding ?_
 refine wpAny_bind (wpAny_specialOf g.ty slot_dict_contains.lookup ?_);show wpAny _ _ (if (some (Value.builtin "dict.__contains__")==some Value.none)=true then _ else _) _ E s;rw[if_neg (by rw[beq_builtin_none]; exact Bool.false_ne_true)];refine wpAny_bind (wpAny_callSpecialUnlessNone?_slot (name:=Str.ofString "__contains__") g.ty slot_dict_contains (wpAny_call_entry slot_dict_contains g.ty entry_dict_contains ?_ (args_dict_contains _ _)));show wpAny _ _ (dictGet a u >>= _) _ _ s;refine wpAny_bind (Sx (A:=A.in1) hok (lt8 hu) g hk fun tk=>?_);have h:=h tk;cases hf:KC xs k with
 | some p =>
  rw[hf] at h;show wpAny _ _ (ret (.bool true)) _ _ _;exact wpAny_pure ⟨_,rfl,wpAny_truthy_bool h⟩
 | none =>
  rw[hf] at h;show wpAny _ _ (Builtin.Dict.pendingKey? a u >>= _) _ _ _;exact wpAny_bind (wpAny_pendingKey_other g.nm (wpAny_pure ⟨_,rfl,wpAny_truthy_bool h⟩))
theorem Tp(hok:HOk P w H s.heap)(hu:A.units+10<cLine){o:Obj}{es ep xs}(g:RawG w H s.heap a kvs o es ep xs)(hk:KU H k u)(hv:KC xs k=some r){Q:Value->Shared->Prop}(h:∀tk,Q r { s with toks:=tk }):
  wpAny (model P w) A (getItem (.ref a) u) Q E s:=by
 unfold getItem;try with_reducible refine wpAny_holding ?_
 refine wpAny_bind (wpAny_sequenceKey g.ty (by decide) ?_);refine wpAny_bind (wpAny_callSpecial?_slot (name:=Str.ofString "__getitem__") g.ty slot_dict_getitem (wpAny_call_entry slot_dict_getitem g.ty entry_dict_getitem ?_ (args_dict_getitem _ _)));show wpAny _ _ (dictGet a u >>= _) _ _ s;refine wpAny_bind (Sx (A:=A.in1) hok (lt8 hu) g hk fun tk=>?_);rw[hv];exact wpAny_pure ⟨r,rfl,wpAny_pure (h tk)⟩
end
section
variable{κ:Type}[DecidableEq κ]
end
section
variable{P:Program}{w:World}{H:Hp}{h:Heap}{a:Addr}
end
section
variable{X:Cx}{pins:List (Addr×Obj)}{σ:St}{H:Hp}{s:Shared}{a:Addr}{y v:V}{u r:Value}{o:Option V}{A:Around}{E:Value->Shared->Prop}
end
section
variable{X:Cx}{pins:List (Addr×Obj)}{σ:St}{H:Hp}{s:Shared}{a:Addr}{kvs:List (Key×V)}{k:Key}{u:Value}{A:Around}{E:Value->Shared->Prop}
end
noncomputable def Vo(i:Expr):Prop:=∀ov iv,subscripted i false ov iv=operate [ov,iv] (getItem ov iv)
theorem Sf{prog:Program}{w:World}{A:Around}{E:Value->Shared->Prop}{s:Shared}{env:Env}{value slice:Expr}{pos:Pos}{T id:String}{Q:Value->Shared->Prop}(hl:typeLookup (.type T) "__getitem__" = pure (some (.builtin id)))(hs:Vo slice)(h:wpAny (model prog w) A (eval value env) (fun o s₁=>wpAny (model prog w) A (eval slice env) (fun i s₂=>s₂.TypeIs o T/\wpAny (model prog w) A (getItem o i) Q E s₂) E s₁) E s):
  wpAny (model prog w) A (eval (.Subscript value slice pos) env) Q E s:=by
 refine Subscript_ (wpAny_mono h (fun o s₁ h₁=>wpAny_mono h₁ (fun i s₂ h₂=>?_) fun _ _ x=>x) fun _ _ x=>x);obtain⟨hT,h₂⟩:=h₂;unfold subscriptTail;refine wpAny_bind ?_;rw[getitemInPython_of_ne hT.not_modules];refine wpAny_bind (wpAny_specialOf hT hl ?_);have fin:wpAny (model prog w) A (subscripted slice false o i) (fun r s₃=>wpAny (model prog w) A (letTemporaryGo value o r >>= fun _=>pure r) Q E s₃) E s₂:=by
  rw[hs o i];exact wpAny_operating (wpAny_mono h₂ (fun r s₃ h₃=>wpAny_bind (wpAny_letTemporaryGo (wpAny_pure h₃))) fun _ _ x=>x)
 first
  | exact wpAny_pure (wpAny_bind fin)
  | exact wpAny_bind (wpAny_pure (wpAny_bind fin))
  | exact wpAny_bind fin
section
variable{X:Cx}{o i e value:Expr}{pos pos' tpos:Pos}{td ty tv:TE}
end
section
variable{X:Cx}{pos:Pos}
end
structure M1 (X:Cx) (o:Expr) (m:Str) (apos:Pos) (e:Expr) (cpos:Pos):Prop where
 base:attributeBase o m X.env (eval o X.env)=eval o X.env
 few:((backTo cpos (starEach [e] X.env)).all (fun x=>!x.1)&&(backToKw cpos (keywordEach [] X.env)).all (fun x=>x.1.isSome)
  && decide (([e]:List Expr).length+([]:List Keyword).length+(if ([]:List Keyword).isEmpty then 0 else 1)<30))=true
 line:(apos.endLine==cpos.line)=true
 trees:backTo cpos (starEach [e] X.env)=[(false,eval e X.env)]
structure M2 (X:Cx) (o:Expr) (m:Str) (apos:Pos) (e f:Expr) (cpos:Pos):Prop where
 base:attributeBase o m X.env (eval o X.env)=eval o X.env
 few:((backTo cpos (starEach [e,f] X.env)).all (fun x=>!x.1)&&(backToKw cpos (keywordEach [] X.env)).all (fun x=>x.1.isSome)
  && decide (([e,f]:List Expr).length+([]:List Keyword).length+(if ([]:List Keyword).isEmpty then 0 else 1)<30))=true
 line:(apos.endLine==cpos.line)=true
 trees:backTo cpos (starEach [e,f] X.env)=[(false,eval e X.env),(false,eval f X.env)]
section
variable{X:Cx}{pins:List (Addr×Obj)}{σ:St}{H:Hp}{s:Shared}{a:Addr}{y d:V}{u r:Value}{o:Option V}{A:Around}{E:Value->Shared->Prop}
end
section
variable{X:Cx}{o e f:Expr}{apos cpos:Pos}{td ty tx:TE}
end
section
variable{X:Cx}{pins:List (Addr×Obj)}{σ:St}{H:Hp}{s:Shared}{a:Addr}{kvs:List (Key×V)}{A:Around}{E:Value->Shared->Prop}
end
section
variable{X:Cx}{pins:List (Addr×Obj)}{σ:St}{H:Hp}{s:Shared}{a:Addr}{y:V}{u:Value}{A:Around}{E:Value->Shared->Prop}
end
section
variable{X:Cx}
end
section
variable{X:Cx}
end
end L2
namespace J
open PySem PySem.Spec PyProof.Rows L2
section
variable{X:Cx}{a b c e:Expr}{es:List Expr}{m m1 m2 m3:ME}{ms:MA}{p pos pos' p2 apos cpos q npos:Pos}{x:Str}
variable{K:Frag}{N:Addr->Prop}{H:Hp}{σ:L2.St}{v:V}{L:List Addr}
noncomputable def WE:D->Option Key
 | .int i=>some (.inl i)
 | .str z=>some (.inr z)
 | .non | .bl _ | .lst _ | .tup _=>none
end
section
variable{P:Program}{w:World}{K:Frag}{mg:Str->Option Value}{base:Heap}
theorem Bv{x qual:Str}{st:Stmt}{f:Addr}{fd:FuncData}{N ps:List Str}{k:Nat}{m:MS}(F:Fun K x qual st f fd)(S:FnScope N ps (Ar st))(hb:∀(cdv:Value) (A:Around) (outer:List Env) (s:Shared) (H:Hp) (E:XK),Room k (A.deeper (envOfC qual (Ar st) s.heap.objs.size f cdv))->JSs (AS CX0 P w K mg base N qual (Ar st) f cdv A outer s H E).nox (BJ st) m):
  FnOk P w K mg base CX0 (k+1) f fd ps (spJ K (fnM ps.length N.length m) ps.length):=by
 refine F.ok S (fun vs H Q E h=>?_) fun cdv A outer s H vs Q E hr h=>⟨_,hb cdv A outer s H E hr,?_⟩
 .obtain⟨_,_,_,h,_⟩:=h
  exact h
 .have hl:vs.length=ps.length:=by
   obtain⟨_,_,_,h,_⟩:=h;exact h
  have:=JY h;unfold L2.start;rw[hl];exact this
theorem Aw{np nn:Nat}{b:MS}:∀args y,fnM np nn b args=some y->args.length=np:=fun args y e=>by
 unfold fnM at e;split at e
 .rename_i h; exact h
 .cases e
theorem TL{Φ:Fn}{H:Hp}{a:Addr}{ns:List Int}{as':List A}{E:XK}(hl:ns.length<=63)(hO:QP H)(hS:SqL K H a (ns.map V.int))(e : Φ [(.ro,.scr ns)]=some (.fz (.bl true),as')):spJ K Φ 1 [.ref a] H (fun v _=>v=.bl true) E:=by
 refine⟨[(.ro,.scr ns)],fun _=>False,fun _=>[],rfl,⟨rfl,fun i st b h=>?_,fun _ _=>rfl,fun _=>List.nodup_nil,fun i j p h=>by simp at h,fun i p h=>by simp at h,fun p z=>?_⟩,_,_,e,fun v H' ⟨L,fp',p,q⟩=>?_⟩
 .cases i with
  | zero =>
   simp at h;obtain⟨rfl,rfl⟩:=h;refine⟨.ref a,rfl,?_⟩;rw[AA];refine⟨a,rfl,rfl,fun H' k=>?_,Nat.le_trans hl (by decide)⟩;rcases hS with (h|⟨o,h⟩)|h
   .rcases hO a with z|⟨o,xs,z⟩|⟨ps,z⟩
    .rw[z] at h; cases h
    .rw[z] at h; cases h
    .rw[z] at h; cases h
   .exact .inl (.inr ⟨o,k _ _ h⟩)
   .exact .inr h
  | succ i=>simp at h
 .rcases z with ⟨i,z⟩|z
  .simp at z
  .exact z.elim
 .exact Qc q rfl
end
end J
end
section
namespace J
open PySem PySem.Spec PyProof.Rows L2
noncomputable def moves:List R->Ro->Option (List A×Ro)
 | [],Z=>some ([],Z)
 | r::rs,Z=>(move Z r).bind fun p=>(moves rs p.2).map fun q=>(p.1::q.1,q.2)
noncomputable def An(m:MA):ME:=fun Z=>(m Z).bind fun p=>(moves p.1 p.2).bind fun q=>if q.1.length<=LIM then some (.val (mkT q.1),q.2) else none
section
variable{K:Frag}{Z Z' Z1 Z2:Ro}{σ σ' σ1 σ2:L2.St}{H H' H1 H2:Hp}{O O' N:Addr->Prop}{fp fp' fp1 fp2:Nat->List Addr}{L L1:List Addr}
theorem Post.perm{L':List Addr}(x:Post K O fp H Z Z1 σ σ1 L fp1 H1)(h:∀p,p∈L'↔p∈L)(nd:L'.Nodup):Post K O fp H Z Z1 σ σ1 L' fp1 H1:=
 ⟨x.rel.congr fun p=>or_congr Iff.rfl (h p).symm,nd,fun p hp=>x.lo p ((h p).mp hp),fun p hp=>x.new p (hp.imp (h p).mp id),x.kept,x.ln,x.stab⟩
theorem Post.give{i:Nat}{a:A}{v:V}(x:Post K O fp H Z Z1 σ σ L fp1 H1)(ha : Z1[i]? = some (some (.own,a)))(hv : σ[i]? = some (some v)):
  Post K O fp H Z (Z1.set i none) σ σ (L++fp1 i) (pt fp1 i []) H1/\AA K (NN fp1 (ad O L)) H1 v a (fp1 i)/\∀p,NN (pt fp1 i []) (ad O (L++fp1 i)) p↔NN fp1 (ad O L) p:=by
 obtain⟨v',hv',q⟩:=x.rel.slot i _ _ ha;rw[hv] at hv'; cases hv';have nn:∀p,NN (pt fp1 i []) (ad O (L++fp1 i)) p↔NN fp1 (ad O L) p:=fun p=>by
  constructor
  .intro z
   rcases z with ⟨j,z⟩|z|z
   .rcases By z with ⟨_,z⟩|⟨_,z⟩
    .simp at z
    .exact .inl ⟨j,z⟩
   .exact .inr (.inl z)
   .rcases List.mem_append.mp z with z|z
    .exact .inr (.inr z)
    .exact .inl ⟨i,z⟩
  .intro z
   rcases z with ⟨j,z⟩|z|z
   .by_cases hj:j=i
    .subst hj; exact .inr (.inr (List.mem_append_right _ z))
    .exact .inl ⟨j,by rw[Ht hj]; exact z⟩
   .exact .inr (.inl z)
   .exact .inr (.inr (List.mem_append_left _ z))
 have nd:(L++fp1 i).Nodup:=List.nodup_append.mpr ⟨x.nd,x.rel.nd i,fun a ha b hb e=>by subst e; exact x.rel.off i a hb (.inr ha)⟩;have R:=x.rel.set (i:=i) (s:=none) (o:=some v) (L:=[]) (O':=ad O (L++fp1 i)) (AG ha) (fun p z=>(nn p).mp (.inr z)) (fun p hp=>by simp at hp) List.nodup_nil (fun p hp=>by simp at hp) (fun p hp=>by simp at hp)
  (fun j p hj h z=>by
   rcases z with z|z
   .exact x.rel.off j p h (.inl z)
   .rcases List.mem_append.mp z with z|z
    .exact x.rel.off j p h (.inr z)
    .exact hj (x.rel.inj j i p h z)) (fun st a e=>by cases e) (fun _=>rfl)
 rw[IL hv] at R;refine⟨⟨R,nd,fun p hp z=>?_,fun p hp=>?_,x.kept,rfl,fun j st a' h n=>?_⟩,q,nn⟩
 .rcases List.mem_append.mp hp with hp|hp
  .exact x.lo p hp z
  .exact x.rel.off i p hp (.inl z)
 .rcases hp with hp|⟨j,hp⟩
  .rcases List.mem_append.mp hp with hp|hp
   .exact x.new p (.inl hp)
   .exact x.new p (.inr ⟨i,hp⟩)
  .rcases By hp with ⟨_,z⟩|⟨_,z⟩
   .simp at z
   .exact x.new p (.inr ⟨j,z⟩)
 .obtain⟨a2,h2,_,f2⟩:=x.stab j st a' h n
  refine⟨a2,?_,rfl,f2⟩;rw[List.getElem?_set_ne]
  .exact h2
  .rintro rfl
   rw[ha] at h2; cases h2; exact n rfl
theorem RRs.weak(h:∀p,O' p->N p):∀{vs:List V} {rs:List R} {L:List Addr},RRs K N H σ vs rs L->RRs K O' H σ vs rs L
 | [],[],_,q=>q
 | [],_::_,_,q=>by simp only[RRs] at q
 | _::_,[],_,q=>by simp only[RRs] at q
 | v::vs,r::rs,L,q=>by
  simp only[RRs] at q |-;obtain⟨L1,L2,rfl,h1,h2⟩:=q;refine⟨L1,L2,rfl,?_,RRs.weak h h2⟩;cases r with
  | val a=>exact Dx h h1
  | ref i=>exact h1
theorem Mp:∀{rs:List R} {vs:List V} {as:List A} {Z1 Z2:Ro} {fp1:Nat->List Addr} {Lacc L:List Addr},Post K O fp H Z Z1 σ σ (Lacc++L) fp1 H1->RRs K (NN fp1 (ad O (Lacc++L))) H1 σ vs rs L->moves rs Z1=some (as,Z2) ->
  ∃L2 fp2,Post K O fp H Z Z2 σ σ (Lacc++L2) fp2 H1/\Ap K (NN fp2 (ad O (Lacc++L2))) H1 vs as L2/\∀p,NN fp2 (ad O (Lacc++L2)) p↔NN fp1 (ad O (Lacc++L)) p:=by
 intro _l;induction _l with
 | nil =>
  intro _m;cases _m with
  | nil =>
   intro as Z1 Z2 fp1 Lacc L x q e;simp only[moves,Option.some.injEq,Prod.mk.injEq] at e;obtain⟨rfl,rfl⟩:=e;simp only[RRs] at q;subst q;exact⟨[],fp1,x,by simp[Ap],fun p=>Iff.rfl⟩
  | cons _ _ =>
   intro _ _ _ _ _ _ _ q _;simp only[RRs] at q
 | cons r rs ih =>
  intro _m;cases _m with
  | nil =>
   intro _ _ _ _ _ _ _ q _;simp only[RRs] at q
  | cons v vs =>
   intro as Z1 Z2 fp1 Lacc L x q e;simp only[RRs] at q;obtain⟨L1,L2,rfl,h1,h2⟩:=q;simp only[moves,bind_eq_some_iff,map_eq_some_iff] at e;obtain⟨⟨a,Z3⟩,e1,⟨as',Z4⟩,e2,e3⟩:=e;cases e3;cases r with
   | val b =>
    simp only[move,Option.some.injEq,Prod.mk.injEq] at e1;obtain⟨rfl,rfl⟩:=e1;rw[<- List.append_assoc] at x h1 h2;obtain⟨L3,fp3,p3,q3,n3⟩:=ih (Lacc:=Lacc++L1) x h2 e2;rw[List.append_assoc] at p3 q3 n3;refine⟨L1++L3,fp3,p3,?_,fun p=>by rw[n3 p,List.append_assoc]⟩;simp only[Ap];exact⟨L1,L3,rfl,Dx (fun p z=>by have:=(n3 p).mp z; rw[List.append_assoc]; rw[List.append_assoc] at this; exact this) h1,q3⟩
   | ref i =>
    obtain⟨rfl,hv⟩:=h1;rw[List.nil_append] at x h2;simp only[move] at e1;split at e1
    .rename_i a' ha
     cases e1;obtain⟨g1,g2,g3⟩:=x.give ha hv;have nd:((Lacc++fp1 i)++L2).Nodup:=by
      have:=g1.nd;rw[List.append_assoc] at this |-;exact(List.perm_append_comm.append_left Lacc).nodup this
     have g1':Post K O fp H Z (Z1.set i none) σ σ ((Lacc++fp1 i)++L2) (pt fp1 i []) H1:=g1.perm (fun p=>by simp; exact⟨fun z=>by rcases z with z|z|z; exact .inl z; exact .inr (.inr z); exact .inr (.inl z),fun z=>by rcases z with z|z|z; exact .inl z; exact .inr (.inr z); exact .inr (.inl z)⟩) nd;have nn:∀p,NN (pt fp1 i []) (ad O ((Lacc++fp1 i)++L2)) p↔NN fp1 (ad O (Lacc++L2)) p:=fun p=>by
      rw[<- g3 p];refine or_congr Iff.rfl (or_congr Iff.rfl ?_);simp;exact⟨fun z=>by rcases z with z|z|z; exact .inl z; exact .inr (.inr z); exact .inr (.inl z),fun z=>by rcases z with z|z|z; exact .inl z; exact .inr (.inr z); exact .inr (.inl z)⟩
     obtain⟨L3,fp3,p3,q3,n3⟩:=ih (Lacc:=Lacc++fp1 i) g1' (RRs.weak (fun p z=>(nn p).mp z) h2) e2;rw[List.append_assoc] at p3 q3 n3;refine⟨fp1 i++L3,fp3,p3,?_,fun p=>by rw[n3 p,nn p]; simp⟩;simp only[Ap];exact⟨fp1 i,L3,rfl,Dx (fun p z=>(nn p).mp ((n3 p).mp z)) g2,q3⟩
    .cases e1
theorem Sj{m:MA}{Q:VK}(h:tE K (An m) σ H Q):Wo (tA K m) σ H Q:=by
 obtain⟨Z,O,fp,rl,x,Z',e,k⟩:=h;simp only[An,bind_eq_some_iff] at e;obtain⟨⟨rs,Z1⟩,e1,⟨as,Z2⟩,e2,e3⟩:=e;split at e3
 .rename_i hz
  cases e3;refine⟨Z,O,fp,rl,rs,_,e1,fun vs H1 yy=>?_⟩
  obtain⟨L,fp1,p,q⟩:=yy;obtain⟨L2,fp2,p2,q',_⟩:=Mp (Lacc:=[]) p q e2;rw[List.nil_append] at p2 q';have hl:=q'.len;refine⟨by rw[hl]; exact hz,fun a ha=>k _ _ ?_⟩;have s:=EI (o:=.tup vs) ha;have q2:Ap K (NN fp2 (ad O L2)) (upd H1 a (.tup vs)) vs as L2:=q'.tr (M:=fun _=>False) (fun _ z=>z.elim) (Ew.kept s) (fun p z=>.inl z) fun _ _ z=>z;show Jp _ _ _ _ _ _ _ (.val (mkT as)) _ _;unfold mkT;split
  .rename_i ds hd
   obtain⟨rfl,qd⟩:=q2.fzs hd;exact⟨[],fp2,p2.more s List.nodup_nil (fun p hp=>by simp at hp),Ly (MD AR (by rw[hl]; exact hz) qd)⟩
  .refine⟨L2,fp2,p2.more s p2.nd (fun p hp=>.inl hp),?_⟩
   show AA _ _ _ _ _ _;rw[AA];exact⟨a,vs,rfl,AR,by rw[hl]; exact hz,q2⟩
 .cases e3
end
section
variable{X:Cx}{a b c e:Expr}{es:List Expr}{m m1 m2 m3:ME}{ms:MA}{p pos pos' p2 apos cpos q npos:Pos}{x:Str}{K:Frag}
theorem Ak{k:Nat}(h:JA X es ms):JE X (.Tuple es k pos) (An ms):=AO (UD h) fun _ _ _ h=>Sj h
theorem EW:OpN K FD (r2L (rI0 fun i j=>.int (i-j))):=Gy
theorem Ry:OpN K KL (r2L (rI0 fun i j=>.int (Builtin.bitAnd i j))):=Gy
theorem T2:OpN K Q1 (r2L (rI0 fun i j=>.int (Builtin.bitOr i j))):=Gy
theorem VO:OpN K gtA (r2L (rI0 fun i j=>.bl (decide (j<i)))):=Lf
theorem VN:OpN K geA (r2L (rI0 fun i j=>.bl (decide (j<=i)))):=Lf
end
end J
end
section
namespace L2
open PySem PySem.Spec PyProof.Rows
section
variable{X:Cx}{pins:List (Addr×Obj)}{σ:St}{H:Hp}{s:Shared}{h':Heap}
end
section
variable{X:Cx}
end
end L2
namespace J
open PySem PySem.Spec PyProof.Rows L2
section
variable{X:Cx}{a b c e:Expr}{es:List Expr}{m m1 m2 m3:ME}{ms:MA}{p pos pos' p2 apos cpos q npos:Pos}{x:Str}
variable{K:Frag}{N:Addr->Prop}{H:Hp}{σ:L2.St}{v:V}{L:List Addr}
theorem Pg(i:Nat){y:Str}{py spos:Pos}{scope:Scope}{iter elt:Expr}{ifs:List Expr}{px:Pos}{mi:MI}{mt:MT}(nd:X.N.Nodup)(hiN:X.N[i]? = some y)(hy:X.env.scope.names.lookup y=some .local)(hok:BR [x] X.N scope X.env.scope=true)(hc:X.calm=true)(hx:scope.names.lookup x=some .local)(hs:∀z,foldedSetIterable iter X.env z=pure z)(hsw:swapsWith (.ListComp elt [⟨.Name x px,iter,ifs,0⟩] scope pos) (some (.Name y py)) spos.line X.env=pure true)(hi:JI X (.Name x px) iter mi)(ht:JTc X [x] scope ifs mt)(he:JEc X [x] scope elt m):
  JS X (.Assign [.Name y py] (.ListComp elt [⟨.Name x px,iter,ifs,0⟩] scope pos) spos) (AF i (BL mi 0 mt m)):=by
 have hnx:x∉X.N:=fun hy=>by
  simp only[BR,Bool.and_eq_true,List.all_eq_true] at hok;have:=hok.2 x (by simp);simp[hy] at this
 exact Bg (P4 (un:=QK) (te:=tE X.K m) nd hiN hy hc hok hi (fun C s H fp pins=>IA rfl (List.nodup_cons.mpr ⟨hnx,nd⟩) (lookup_relabel_local hx)) ht (fun C s H fp pins=>he C s H fp pins) hs hsw) fun _ _ _ h=>Kv (Kw h)
end
end J
end
section
namespace Sg
open PySem
section
variable{P:Program}{w:World}{A:Around}{E:Value->Shared->Prop}{s:Shared}
end
section
variable{P:Program}{w:World}{A:Around}{E:Value->Shared->Prop}
end
section
variable{P:Program}{w:World}{A:Around}{E:Value->Shared->Prop}{s:Shared}
end
section
variable{P:Program}{w:World}{A:Around}{E:Value->Shared->Prop}{s:Shared}
end
section
variable{P:Program}{w:World}{A:Around}{E:Value->Shared->Prop}{s:Shared}
end
end Sg
end
section
namespace Sg
open PySem PyProof.Rows
section
variable{P:Program}{w:World}{A:Around}{E:Value->Shared->Prop}{s:Shared}
end
section
variable{P:Program}{w:World}{A:Around}{E:Value->Shared->Prop}{s:Shared}
end
end Sg
end
section
namespace L2
open PySem PySem.Spec PyProof.Rows Sg
section
variable{X:Cx}
end
end L2
namespace J
open PySem PySem.Spec PyProof.Rows L2 Sg
section
variable{X:Cx}{a b c e:Expr}{es:List Expr}{m m1 m2 m3:ME}{ms:MA}{p pos pos' p2 apos cpos q npos:Pos}{x:Str}
variable{K:Frag}{N:Addr->Prop}{H:Hp}{σ:L2.St}{v:V}{L:List Addr}
end
end J
end
section
namespace J
open PySem PySem.Spec PyProof.Rows L2
section
variable{K:Frag}{Z Z' Z1 Z2:Ro}{σ σ' σ1 σ2:L2.St}{H H' H1 H2:Hp}{O O' N:Addr->Prop}{fp fp' fp1 fp2:Nat->List Addr}{L L1:List Addr}
end
section
variable{X:Cx}{a b c e:Expr}{es:List Expr}{m m1 m2 m3:ME}{ms:MA}{p pos pos' p2 apos cpos q npos:Pos}{x:Str}
end
end J
end
section
namespace L2
open PySem PySem.Spec PyProof.Rows
section
variable{X:Cx}{pins:List (Addr×Obj)}{σ:St}{H:Hp}{s:Shared}
end
section
variable{P:Program}{w:World}{A:Around}{E:Value->Shared->Prop}{s:Shared}
theorem nx{n k j:Nat}(h:k≠j:=by decide):n+k≠n+j:=fun e=>h (Nat.add_left_cancel e)
end
end L2
namespace L2
open PySem PySem.Spec PyProof.Rows
section
variable{X:Cx}
noncomputable def V9:R2:=fun a b H Q=>∃p q:Bool,a=.bl p/\b=.bl q/\Q (.bl (!(p==q))) H
theorem PF:OpR X (compareOp .IsNot) V9:=by
 intro pins s σ H x y v u Q I rx ry h;obtain⟨p,q,rfl,rfl,k⟩:=h;have e1:v=.bool p:=rx;have e2:u=.bool q:=ry;subst e1 e2;refine wpAny_isNot_plain (by cases p<;>cases q<;>rfl) ⟨_,H,I,?_,k⟩;show Value.bool _=Value.bool _;cases p<;>cases q<;>rfl
end
end L2
namespace J
open PySem PySem.Spec PyProof.Rows L2
section
variable{X:Cx}{a b c e:Expr}{es:List Expr}{m m1 m2 m3:ME}{ms:MA}{p pos pos' p2 apos cpos q npos:Pos}{x:Str}
variable{K:Frag}{N:Addr->Prop}{H:Hp}{σ:L2.St}{v:V}{L:List Addr}
noncomputable def Md:List A->Option A
 | [.fz (.bl p),.fz (.bl q)]=>some (.fz (.bl (!(p==q))))
 | _=>none
theorem PD:OpN K Md (r2L V9):=by
 intro N H xs as b Q hs e k;unfold Md at e;split at e
 .rename_i p q
  cases e;obtain⟨x,y,L1,L2,rfl,h1,h2⟩:=Bq hs;rw[AA] at h1 h2;obtain⟨rfl,h1⟩:=h1;obtain⟨rfl,h2⟩:=h2;cases h1;cases h2;exact⟨_,_,rfl,p,q,rfl,rfl,k _ _ ⟨fun _ _ z=>z,[],D8 (K:=K) (.bl _),List.nodup_nil,fun _ h=>by simp at h⟩⟩
 .cases e
end
end J
end
section
namespace Ug
open PySem Sg
section
variable{P:Program}{w:World}{A:Around}{E:Value->Shared->Prop}{s:Shared}
end
section
variable{P:Program}{w:World}{A:Around}{E:Value->Shared->Prop}
end
section
variable{P:Program}{w:World}{A:Around}{E:Value->Shared->Prop}{s:Shared}
end
section
variable{P:Program}{w:World}{A:Around}{E:Value->Shared->Prop}{s:Shared}
end
section
variable{P:Program}{w:World}{A:Around}{E:Value->Shared->Prop}{s:Shared}
end
end Ug
end
section
namespace Ug
open PySem Sg PyProof.Rows
section
variable{P:Program}{w:World}{A:Around}{E:Value->Shared->Prop}{s:Shared}
end
end Ug
end
section
namespace L2
open PySem PySem.Spec PyProof.Rows Sg
section
variable{X:Cx}
end
end L2
namespace J
open PySem PySem.Spec PyProof.Rows L2 Sg
section
variable{X:Cx}{a b c e:Expr}{es:List Expr}{m m1 m2 m3:ME}{ms:MA}{p pos pos' p2 apos cpos q npos:Pos}{x:Str}
variable{K:Frag}{N:Addr->Prop}{H:Hp}{σ:L2.St}{v:V}{L:List Addr}
end
end J
end
section
namespace Lm
open PySem PyProof.Rows
section
variable{prog:Program}{w:World}{A:Around}{E:Value->Shared->Prop}{s:Shared}{h₀:Heap}{l q I S:Addr}{vs:List Value}{R:Result->Shared->Prop}{Q:Value->Shared->Prop}
end
end Lm
end
section
namespace L2
open PySem PySem.Spec PyProof.Rows PySem.W
section
variable{X:Cx}{pins:List (Addr×Obj)}{σ:St}{H:Hp}{s:Shared}{h':Heap}
end
end L2
namespace L2
open PySem PySem.Spec PyProof.Rows PySem.W
end L2
end
section
namespace J
open PySem PySem.Spec PyProof.Rows L2 PySem.W
section
variable{X:Cx}{a b c e:Expr}{es:List Expr}{m m1 m2 m3:ME}{ms:MA}{p pos pos' p1 p2 p3 lp kp:Pos}{x y:Str}
variable{K:Frag}{N:Addr->Prop}{H:Hp}{σ:L2.St}{v:V}{L:List Addr}
end
section
variable{X:Cx}{K:Frag}
end
section
variable{P:Program}{w:World}{K:Frag}{mg:Str->Option Value}{base:Heap}
theorem Q3{ln:Str}{f c b:Addr}{oc:Value}{od:Option Addr}{fd:FuncData}{osl:Array (Option Value)}(n:nsIn K mainGlobals ln=some (some (.ref f)))(lk:K.lookup f=some ⟨oc,od,.func fd,osl⟩)(t:tabIn K ln=some (c,b)):fd.code=.ref c:=by
 unfold tabIn at t;rw[n] at t;dsimp only at t;rw[lk] at t;dsimp only at t;split at t
 .rename_i c' hc
  split at t
  .split at t
   .cases t; exact hc
   .cases t
  .cases t
 .cases t
theorem Ta{ln:Str}{st:Stmt}{f c b:Addr}{fd:FuncData}{N ps:List Str}{k:Nat}{m:MS}(F:Fun K ln ln st f fd)(hn:nsIn K mainGlobals ln=some (some (.ref f)))(ht:tabIn K ln=some (c,b))(S:FnScope N ps (Ar st))(hb:∀(A:Around) (outer:List Env) (s:Shared) (H:Hp) (E:XK),Room k (A.deeper (envOfC ln (Ar st) s.heap.objs.size f (.ref c)))->JSs (AS CX0 P w K mg base N ln (Ar st) f (.ref c) A outer s H E).nox (BJ st) m):
  FnOk P w K mg base CX0 (k+1) f fd ps (spJ K (fnM ps.length N.length m) ps.length):=by
 obtain⟨oc,od,kV,doc,pm,an,cdv,ct,osl,rfl,lk,hcd⟩:=F.ex;have ec:cdv=.ref c:=Q3 hn lk ht;subst ec;refine OQ lk hcd S (fun vs H Q E h=>?_) fun A outer s H vs Q E hr h=>?_
 .obtain⟨_,_,_,h,_⟩:=h
  exact h
 .have hl:vs.length=ps.length:=by
   obtain⟨_,_,_,h,_⟩:=h;exact h
  have:=JY h;refine⟨_,PSs.nox (hb A outer s H E hr),?_⟩;unfold L2.start;rw[hl];exact this
end
end J
end
section
namespace L2
open PySem PySem.Spec PyProof.Rows
section
variable{X:Cx}{a e:Expr}{ta te:TE}{apos cpos:Pos}
end
end L2
namespace J
open PySem PySem.Spec PyProof.Rows L2
section
variable{X:Cx}{a b c e:Expr}{es:List Expr}{m m1 m2 m3:ME}{ms:MA}{p pos pos' p2 apos cpos q npos:Pos}{x:Str}
variable{K:Frag}{N:Addr->Prop}{H:Hp}{σ:L2.St}{v:V}{L:List Addr}
noncomputable def cutD(ds:List D)(lo hi:Option Int):List D:=(ds.drop (HT.sIx ds.length 0 lo)).take (HT.sIx ds.length ds.length hi-HT.sIx ds.length 0 lo)
theorem Qh:∀{vs:List V} {ds:List D},Ay N H vs ds->vs.length=ds.length:=by
 intro vs;induction vs with
 | nil=>intro ds q; cases ds with|nil=>rfl|cons d ds=>simp only[Ay] at q
 | cons v vs ih=>intro ds q; cases ds with|nil=>simp only[Ay] at q|cons d ds=>simp[ih q.2]
theorem Qf:∀{vs:List V} {ds:List D} (n:Nat),Ay N H vs ds->Ay N H (vs.drop n) (ds.drop n):=by
 intro vs;induction vs with
 | nil=>intro ds n q; cases ds with|nil=>cases n<;>exact q|cons d ds=>simp only[Ay] at q
 | cons v vs ih=>intro ds n q; cases ds with|nil=>simp only[Ay] at q|cons d ds=>cases n with|zero=>exact q|succ n=>exact ih n q.2
theorem Qg:∀{vs:List V} {ds:List D} (n:Nat),Ay N H vs ds->Ay N H (vs.take n) (ds.take n):=by
 intro vs;induction vs with
 | nil=>intro ds n q; cases ds with|nil=>cases n<;>exact q|cons d ds=>simp only[Ay] at q
 | cons v vs ih=>intro ds n q; cases ds with|nil=>simp only[Ay] at q|cons d ds=>cases n with|zero=>simp only[List.take_zero]; exact trivial|succ n=>exact⟨q.1,ih n q.2⟩
theorem RY{vs:List V}{ds:List D}{lo hi:Option Int}(q:Ay N H vs ds):Ay N H (NL vs lo hi) (cutD ds lo hi):=by
 unfold NL cutD;rw[Qh q];exact Qg _ (Qf _ q)
end
section
variable{K:Frag}{Z Z' Z1 Z2:Ro}{σ σ' σ1 σ2:L2.St}{H H' H1 H2:Hp}{O O' N:Addr->Prop}{fp fp' fp1 fp2:Nat->List Addr}{L L1:List Addr}
end
section
variable{X:Cx}{a b c e:Expr}{es:List Expr}{m m1 m2 m3:ME}{ms:MA}{p pos pos' p2 apos cpos q npos:Pos}{x:Str}
end
end J
end
section
namespace J
open PySem PySem.Spec PyProof.Rows L2
noncomputable abbrev MR:=Ro->Option Str
noncomputable abbrev FnR:=List (Own×A)->Option Str
noncomputable def Sa(a:MS)(r:MR):MR:=fun Z=>(a Z).bind fun f=>match f with
 | .next Z1=>r Z1
 | _=>none
noncomputable def ifR(c:MT)(r:MR):MR:=fun Z=>(c Z).bind fun p=>if p.1 then r p.2 else none
noncomputable def ID(x:Str):MR:=fun _=>some x
noncomputable def Bo:List (Own×A)->Bool
 | []=>true
 | (.own,.fz _)::as=>Bo as
 | _=>false
noncomputable def DM(Ψ:FnR)(m:MA):MR:=fun Z=>(m Z).bind fun p=>(CI p.2 p.1).bind fun args=>if Bo args then Ψ args else none
noncomputable def fnR(np nn:Nat)(r:MR):FnR:=fun args=>if args.length=np then r (args.map some++List.replicate (nn-np) none) else none
noncomputable def tR(K:Frag)(XC:Str->Addr)(E:XK)(r:MR):TS:=fun _ σ H=>∃Z O fp,Rel K Z σ H O fp/\∃x,r Z=some x/\∀H',Kept (Fp fp) H H'->E (.ref (XC x)) none H'
noncomputable def spR(K:Frag)(XC:Str->Addr)(Ψ:FnR)(np:Nat):Sp:=fun vs H _ E=>∃args O fp,vs.length=np/\Rel K (args.map some) (vs.map some) H O fp/\∃x,Ψ args=some x/\∀H',Kept (Fp fp) H H'->E (.ref (XC x)) none H'
section
variable{K:Frag}{XC:Str->Addr}{E:XK}{σ:L2.St}{H:Hp}{D:Ends}{r:MR}{a:MS}{c:MT}
theorem Wj{u:TS}(h:tR K XC E (ifR c r) D σ H):U8 (tT K c) (tR K XC E r) u D σ H:=by
 obtain⟨Z,O,fp,rl,x,e,k⟩:=h;simp only[ifR,bind_eq_some_iff] at e;obtain⟨⟨b,Z1⟩,e1,e2⟩:=e;cases b with
 | true =>
  refine⟨Z,O,fp,rl,true,Z1,e1,fun fp1 H1 p=>?_⟩;dsimp only;rw[if_pos rfl];exact⟨Z1,O,fp1,p.rel0,x,e2,fun H'' kk=>k H'' (p.kept.trans kk fun q hq=>p.new q (.inr hq))⟩
 | false=>cases e2
theorem Qx{C:Addr}{x:Str}{m:MA}{rs:List R}(hm:∀Z,m Z=some (rs,Z))(hl:rs.length<=8)(hC:XC x=C)(h:tR K XC E (ID x) D σ H):MV E C (tA K m) D σ H:=by
 obtain⟨Z,O,fp,rl,y,e,k⟩:=h;cases e;refine⟨Z,O,fp,rl,rs,Z,hm Z,fun vs H' q=>?_⟩;obtain⟨L,fp',p,q⟩:=q;refine⟨?_,?_⟩
 .have:∀{rs:List R} {vs:List V} {N:Addr->Prop} {L:List Addr},RRs K N H' σ vs rs L->vs.length=rs.length:=by
   intro rs;induction rs with
   | nil=>intro vs N L q; cases vs with|nil=>rfl|cons _ _=>simp only[RRs] at q
   | cons r rs ih =>
    intro vs N L q;cases vs with
    | nil=>simp only[RRs] at q
    | cons v vs =>
     simp only[RRs] at q;obtain⟨_,_,_,_,q2⟩:=q;simp[ih q2]
  have hs:8<=sizeLine:=by decide
  rw[this q]; lia
 .rw[<- hC]; exact k H' p.kept
theorem LN{N:Addr->Prop}{Z:Ro}:∀{rs:List R} {args:List (Own×A)} {vs:List V} {L:List Addr},CI Z rs=some args->Bo args=true->RRs K N H σ vs rs L->args.length=vs.length/\∀(j:Nat) st a v,args[j]? = some (st,a)->vs[j]? = some v->∃d,a=.fz d/\RepA N H v d:=by
 intro rs;induction rs with
 | nil =>
  intro args vs L e _ q;cases vs with
  | nil=>cases e; exact⟨rfl,fun j st a v h=>by simp at h⟩
  | cons _ _=>simp only[RRs] at q
 | cons r rs ih =>
  intro args vs L e hp q;cases vs with
  | nil=>simp only[RRs] at q
  | cons v vs =>
   simp only[RRs] at q;obtain⟨L1,L2,_,q1,q2⟩:=q;simp only[CI,bind_eq_some_iff,map_eq_some_iff] at e;obtain⟨a,e1,args',e2,rfl⟩:=e;obtain⟨st,a⟩:=a;cases st with
   | lent=>cases a<;>simp[Bo] at hp
   | ro=>cases a<;>simp[Bo] at hp
   | own =>
    cases a with
    | fz d =>
     simp only[Bo] at hp;obtain⟨i1,i2⟩:=ih e2 hp q2;cases r with
     | val b =>
      cases e1;simp only[RR] at q1;rw[AA] at q1;refine⟨by simp[i1],fun j st a u h1 h2=>?_⟩
      cases j with
      | zero=>cases h1; cases h2; exact⟨d,rfl,q1.2⟩
      | succ j=>exact i2 j st a u (by simpa using h1) (by simpa using h2)
     | ref i =>
      simp only[E9] at e1;split at e1<;>cases e1
    | _=>simp[Bo] at hp
theorem HM{np:Nat}{Ψ:FnR}{m:MA}{E':XK}(hE:E'=E)(hnp:∀args y,Ψ args=some y->args.length=np)(h:tR K XC E (DM Ψ m) D σ H):LC (LB (spR K XC Ψ np) [] E' (tA K m)) D σ H:=by
 subst hE;obtain⟨Z,O,fp,rl,x,e,k⟩:=h;simp only[DM,bind_eq_some_iff] at e;obtain⟨⟨rs,Z1⟩,e1,args,e2,e3⟩:=e;split at e3
 .rename_i hp
  refine⟨Z,O,fp,rl,rs,Z1,e1,fun vs H1 q=>?_⟩;obtain⟨L,fp1,p,q⟩:=q;obtain⟨i1,i2⟩:=LN e2 hp q;rw[List.append_nil];have nn:∀b,NN (fun _=>[]) (NN fp1 (ad O L)) b↔NN fp1 (ad O L) b:=fun b=>⟨fun z=>by
   rcases z with ⟨j,z⟩|z
   .simp at z
   .exact z,fun z=>.inr z⟩
  refine⟨args,NN fp1 (ad O L),fun _=>[],by rw[<- i1]; exact hnp _ _ e3,⟨by simp[i1],fun j st a ea=>?_,fun _ _=>rfl,fun _=>List.nodup_nil,fun i j b h=>by simp at h,fun i b h=>by simp at h,fun b z=>p.rel.al b ((nn b).mp z)⟩,x,e3,fun H' kk=>?_⟩
  .have hj:j<args.length:=by
    have:=AG ea;simpa using this
   have ea':args[j]? = some (st,a):=by simpa using ea
   obtain⟨v,hv⟩:∃v,vs[j]? = some v:=⟨vs[j]'(by rw[<- i1]; exact hj),List.getElem?_eq_getElem _⟩;obtain⟨d,rfl,rd⟩:=i2 j st a v ea' hv;refine⟨v,by simp[hv],?_⟩;rw[AA];exact⟨rfl,E5 (fun b z=>(nn b).mp z) rd⟩
  .exact k H' (p.kept.trans kk fun b z=>by
    obtain⟨j,z⟩:=z;simp at z)
 .cases e3
theorem S1{np nn:Nat}{r:MR}{vs:List V}{Q:VK}(h:spR K XC (fnR np nn r) np vs H Q E):tR K XC E r D (vs.map some++List.replicate (nn-np) none) H:=by
 obtain⟨args,O,fp,hl,rl,x,e,k⟩:=h;simp only[fnR] at e;split at e
 .exact⟨_,O,fp,rl.start (nn-np),x,e,k⟩
 .cases e
theorem Gm{np nn:Nat}{r:MR}:∀args y,fnR np nn r args=some y->args.length=np:=fun args y e=>by
 unfold fnR at e;split at e
 .rename_i h; exact h
 .cases e
end
section
variable{X:Cx}{K:Frag}{XC:Str->Addr}{E:XK}{r:MR}{w1:MS}{s:Stmt}{ss st st':List Stmt}{mt:MT}{c:Expr}{pos:Pos}
noncomputable def JR(X:Cx)(XC:Str->Addr)(E:XK)(s:Stmt)(r:MR):Prop:=PS X s (tR X.K XC E r)
noncomputable def JRs(X:Cx)(XC:Str->Addr)(E:XK)(ss:List Stmt)(r:MR):Prop:=PSs X ss (tR X.K XC E r)
theorem CN(h:JR X XC E s r):JRs X XC E (s::ss) r:=
 IB (Lp h (show PSs X ss (fun _ _ _=>False) from fun _ _ _ _ _ _ h=>h.elim)) fun _ _ _ h=>h
theorem Sz(hc:JT X c mt)(ha:JRs X XC E st r):JR X XC E (.If c st st' pos) (ifR mt r):=
 Bg (PY hc ha (show PSs X st' (fun _ _ _=>False) from fun _ _ _ _ _ _ h=>h.elim)) fun _ _ _ h=>Wj h
end
section
variable{P:Program}{w:World}{K:Frag}{mg:Str->Option Value}{base:Heap}{XC:Str->Addr}
theorem J9{x qual:Str}{st:Stmt}{f:Addr}{fd:FuncData}{N ps:List Str}{k:Nat}{r:MR}(F:Fun K x qual st f fd)(S:FnScope N ps (Ar st))(hb:∀(cdv:Value) (A:Around) (outer:List Env) (s:Shared) (H:Hp) (E:XK),Room k (A.deeper (envOfC qual (Ar st) s.heap.objs.size f cdv))->JRs (AS (Fly P w) P w K mg base N qual (Ar st) f cdv A outer s H E) XC E (BJ st) r):
  FnOk P w K mg base (Fly P w) (k+1) f fd ps (spR K XC (fnR ps.length N.length r) ps.length):=by
 refine F.okF S (fun vs H Q E h=>?_) fun cdv A outer s H vs Q E hr h=>⟨_,hb cdv A outer s H E hr,?_⟩
 .obtain⟨_,_,_,h,_⟩:=h
  exact h
 .have hl:vs.length=ps.length:=by
   obtain⟨_,_,_,h,_⟩:=h;exact h
  have:=S1 (D:={ nx:=fun _ H'=>Q .non H',rt:=Q }) h;unfold L2.start;rw[hl];exact this
section
variable{N:List Str}{qual:Str}{scope:Scope}{f:Addr}{cd:Value}{A:Around}{outer:List Env}{s:Shared}{H:Hp}{E:XK}
theorem K6{x:Str}{C:Addr}{np cpos pos:Pos}{e:Expr}{z:Str}{k:Nat}(X:Exc K mg x C)(hC:XC x=C)(hr:Room k (A.deeper (envOfC qual scope s.heap.objs.size f cd)))(hg:Gl (AS (Fly P w) P w K mg base N qual scope f cd A outer s H E) x)(hdb:(x==("__debug__" : Str))=false)(he:starEach [e] (AS (Fly P w) P w K mg base N qual scope f cd A outer s H E).env=(false,eval e (AS (Fly P w) P w K mg base N qual scope f cd A outer s H E).env)::starEach [] (AS (Fly P w) P w K mg base N qual scope f cd A outer s H E).env)(hpl:(backTo cpos (starEach [] (AS (Fly P w) P w K mg base N qual scope f cd A outer s H E).env)).any (·.1)=false)(ha:JE (AS (Fly P w) P w K mg base N qual scope f cd A outer s H E) e (Af (.str z))):
  JR (AS (Fly P w) P w K mg base N qual scope f cd A outer s H E) XC E (.Raise (some (.Call (.Name x np) [e] [] cpos)) none pos) (ID x):=
 Bg (Oe X hr hg hdb he hpl (Ac he ha Ae)) fun _ _ _ h=>Qx (rs:=[.val (.fz (.str z))]) (fun _=>rfl) (show 1<=8 by decide) hC h
theorem Nd{g:Str}{k j np:Nat}{ps:List Str}{Ψ:FnR}{ms:MA}{p cpos pos:Pos}{e:Expr}{es:List Expr}(D:Def P w K mg base (Fly P w) k g ps (spR K XC Ψ np))(hnp:∀args y,Ψ args=some y->args.length=np)(hr:Room j (A.deeper (envOfC qual scope s.heap.objs.size f cd)))(hkj:k<=j)(hs:swapsWith (.Call (.Name g p) (e::es) [] cpos) none pos.line (AS (Fly P w) P w K mg base N qual scope f cd A outer s H E).env=pure false)(hdb:(g==("__debug__" : Str))=false)(hg:Gl (AS (Fly P w) P w K mg base N qual scope f cd A outer s H E) g)(he:starEach (e::es) (AS (Fly P w) P w K mg base N qual scope f cd A outer s H E).env=(false,eval e (AS (Fly P w) P w K mg base N qual scope f cd A outer s H E).env)::starEach es (AS (Fly P w) P w K mg base N qual scope f cd A outer s H E).env)(hpl:(backTo cpos (starEach es (AS (Fly P w) P w K mg base N qual scope f cd A outer s H E).env)).any (·.1)=false)(ha:JA (AS (Fly P w) P w K mg base N qual scope f cd A outer s H E) (e::es) ms):
  JR (AS (Fly P w) P w K mg base N qual scope f cd A outer s H E) XC E (.Expr (.Call (.Name g p) (e::es) [] cpos) pos) (DM Ψ ms):=
 Bg (GG (Iw (X:=AS (Fly P w) P w K mg base N qual scope f cd A outer s H E) (E:=E) D hr hkj (Ln fun _ _ _ h=>h) ha hg hdb he hpl) hs) fun _ _ _ h=>HM rfl hnp h
end
end
end J
end
section
namespace PySem
section
variable{M:Model}{A:Around}{E:Value->Shared->Prop}
variable{nm q nm' q':Str}{C N B N':Addr}{bs bm bs' bm':List Value}{hdct hdct':Bool}{sn sn':List Str}{sub sub':List Value}{ab ab':Bool}{col col':Option Bool}{dd dd':Option Addr}{k0 k1 k2 k3 k5 j0 j1 j2 j3 j5:Option Value}{newId newId':String}
theorem GY{h:Heap}{g:Array GenState}{d:Drawn}{t:Nat}{os:OsState}{e:Addr}{oe:Obj}{Q:Bool->Shared->Prop}(hC:h.get? C=some (excClassObj nm q C N bs bm hdct sn sub ab col dd k0 k1 k2 k3 k5 newId))(hB:h.get? B=some (excClassObj nm' q' B N' bs' bm' hdct' sn' sub' ab' col' dd' j0 j1 j2 j3 j5 newId'))(he:h.get? e=some oe)(hcls:oe.cls=.ref C)(hbase:bm'.contains (.type "BaseException")=true)(hm:bm.contains (.ref B)=true)(hq:Q true ⟨h,g,d,t,os⟩):wpAny M A (excMatches (.ref e) (.ref B)) Q E ⟨h,g,d,t,os⟩:=by
 have hcB:(Value.ref B::bm').contains (.type "BaseException")=true:=by rw[List.contains_cons,hbase,Bool.or_true]
 have hcC:(Value.ref C::bm).contains (.ref B)=true:=by rw[List.contains_cons,hm,Bool.or_true]
 have f:=tc_notTuple;unfold excMatches;repeat (first|(with_reducible refine wpAny_loadPart_at he ?_; rw[hcls])|with_reducible refine wpAny_loadPart_at hB ?_|(with_reducible refine wpAny_isSubtype_exc hB ?_; rw[hcB])|(with_reducible refine wpAny_isSubtype_exc hC ?_; rw[hcC])|wp_step)
 exact hq
end
noncomputable def Above(h:Heap)(C B:Addr):Prop:=∃(nm q nm' q':Str) (N N':Addr) (bs bm bs' bm':List Value) (hd hd':Bool) (sn sn':List Str) (sub sub':List Value) (ab ab':Bool) (col col':Option Bool) (dd dd':Option Addr) (k0 k1 k2 k3 k5 j0 j1 j2 j3 j5:Option Value) (nid nid':String),
 h.get? C=some (excClassObj nm q C N bs bm hd sn sub ab col dd k0 k1 k2 k3 k5 nid)/\h.get? B=some (excClassObj nm' q' B N' bs' bm' hd' sn' sub' ab' col' dd' j0 j1 j2 j3 j5 nid')/\bm'.contains (.type "BaseException")=true/\bm.contains (.ref B)=true
section
variable{prog:Program}{w:World}{A:Around}{E:Value->Shared->Prop}{s:Shared}{env:Env}
theorem Gp{e C B:Addr}{t:Expr}{n:Str}{b₀:Stmt}{suite:List Stmt}{pos:Pos}{rest:List ExceptHandler}{Q:Flow->Shared->Prop}(h:wpAny (model prog w) (A.mark (some (.ref e))) (eval t env) (fun c s₁=>c=.ref B/\Above s₁.heap C B/\(∃oe,s₁.heap.get? e=some oe/\oe.cls=.ref C) /\
   wpAny (model prog w) (A.mark (some (.ref e))) (setFlight (.ref e) none) (fun _ s₂ =>
     wpAny (model prog w) (A.mark (some (.ref e))) (storeName env n (.ref e)) (fun _ s₃ =>
      wpAny (model prog w) (A.mark (some (.ref e))) (execs (b₀::suite) env)
       (fun f s₄=>wpAny (model prog w) A (do bindName env n .none; unbindBehindTheSuite env n pos) (fun _ s₅=>Q f s₅) E s₄)
       (AsSuiteRaised (model prog w) (A.mark (some (.ref e))) env n pos (notedBy (model prog w) (A.mark (some (.ref e))) env (cameBackBy (model prog w) A env E))) s₃) (notedBy (model prog w) (A.mark (some (.ref e))) env (cameBackBy (model prog w) A env E)) s₂) (notedBy (model prog w) (A.mark (some (.ref e))) env (cameBackBy (model prog w) A env E)) s₁) (notedBy (model prog w) (A.mark (some (.ref e))) env (cameBackBy (model prog w) A env E)) s):
  wpAny (model prog w) A (handleBy (.ref e) env (.ExceptHandler (some t) (some n) (b₀::suite) pos::rest)) Q E s:=by
 refine wpAny_handleBy_cons (codeAny_handlers_test (wpAny_mono h (fun c s₁ h₁=>?_) fun _ _ y=>y)) (by intro q; cases q);obtain⟨rfl,⟨_,_,_,_,_,_,_,_,_,_,_,_,_,_,_,_,_,_,_,_,_,_,_,_,_,_,_,_,_,_,_,_,_,_,hC,hB,hb,hm⟩,⟨oe,he,hcls⟩,hk⟩:=h₁;obtain⟨hh,g,d,tk,os⟩:=s₁;exact GY hC hB he hcls hb hm (codeAny_handlers_suite_as hk)
end
end PySem
end
section
namespace L2
open PySem PySem.Spec PyProof.Rows
section
variable{P:Program}{w:World}{outer:List Env}{H H':Hp}{s s':Shared}{a C:Addr}{a0:Value}{B:Heap}
theorem FlyAt.on{h':Heap}(F:FlyAt P w outer H s a C a0 B H' s')(hd:∀b∈frs outer,∀o,s.heap.get? b=some o->∀vs,o.data≠.fields vs)(fl:Heap.FlyingW B outer a (.ref C) a0 h')(sm:s'.heap.UpToSlots h')(pl:AW h' a):FlyAt P w outer H s a C a0 B H' { s' with heap:=h' }:=
 ⟨F.os,F.bare,fl,F.keep,fun b o e n hb=>by
  obtain⟨sl,e1⟩:=F.slot b o e n hb;obtain⟨sl2,e2⟩:=sm b { o with slots:=sl } e1 (hd b hb o e);exact⟨sl2,e2⟩,F.free,F.there,F.tups,F.frzs,F.tbls,F.hok,pl⟩
theorem FlyAt.un(F:FlyAt P w outer H s a C a0 B H' s')(ht:∀b∈frs outer,∀o,s.heap.get? b=some o->H b=none):Un (frs outer) [] H H' s.heap s'.heap/\HOk P w H' s'.heap:=by
 have st:∀b o,B.get? b=some o->s'.heap.get? b=some o:=F.fly.1;refine⟨⟨fun b o e n hb _=>st b o (F.keep b o e n hb),fun b o e n hb _=>F.slot b o e n hb,fun b o e n _=>F.free b o e n,fun b o e _=>?_,F.tups,F.frzs,F.tbls⟩,F.hok.kept st⟩;by_cases hb:b∈frs outer
 .obtain⟨sl,e1⟩:=F.slot b o e (ht b hb o e) hb
  exact⟨_,e1⟩
 .obtain⟨o',e1⟩:=F.there b o e hb
  exact⟨o',st b o' e1⟩
end
section
variable{X:Cx}{pins:List (Addr×Obj)}{σ:St}{H H':Hp}{s s':Shared}{a C:Addr}{a0:Value}{B:Heap}
theorem Inv.landed(I:Inv X pins σ H s)(F:FlyAt X.prog X.w X.stack H s a C a0 B H' s'):Inv X pins σ H' s':=by
 have e0:=I.env0;obtain⟨u,hok⟩:=F.un fun b hb o e=>e0.frf b hb;obtain⟨v,H1,J,_,q⟩:=I.after (Q:=fun _ H1=>H1=H') (u:=.none) (s':=s') ⟨.non,H',F.os,F.bare,u,hok,rfl,rfl⟩;subst q;exact J
theorem lands{env:Env}{outer:List Env}{L:Addr}{E:Value->Shared->Prop}{R:Shared->Prop}(I:Inv X pins σ H s)(hs:X.stack=env::outer)(hf:env.frame=some L)(F:FlyAt X.prog X.w X.stack H s a C a0 B H' s')(h:∀s3,FlyAt X.prog X.w X.stack H s a C a0 B H' s3->R s3):
  wpAny (model X.prog X.w) X.A (noteFrame (.ref a) env) (fun _ s2=>wpAny (model X.prog X.w) X.A (setFlight (.ref a) none) (fun _ s3=>R s3) E s2) E s':=by
 have e0:=I.env0;have hd:∀b∈frs X.stack,∀o,s.heap.get? b=some o->∀vs,o.data≠.fields vs:=fun b hb o e=>DS e0.funs hb e;have fr:=e0.frames;have fl:=F.fly;rw[hs] at fr fl;refine K9 fr hf fl F.pl fun h1 held sm1 pl1=>?_;refine FY held.1 held.2.1 held.2.2.1 held.2.2.2 pl1 fun h2 fl2 sm2 pl2=>?_;rw[<- hs] at fl2;exact h _ (F.on hd fl2 (sm1.trans sm2) pl2)
end
section
variable{X:Cx}{body:List Stmt}{h0:ExceptHandler}{hs:List ExceptHandler}{pos:Pos}{t:TS}
noncomputable def LO(X:Cx)(pins:List (Addr×Obj))(D:Ends)(hs:List ExceptHandler):Value->Shared->Prop:=fun e s1 =>
 wpAny (model X.prog X.w) X.A (noteFrame e X.env) (fun _ s2=>wpAny (model X.prog X.w) X.A (setFlight e none) (fun _ s3=>wpAny (model X.prog X.w) X.A (handleBy e X.env hs) (SP X pins D) X.xe s3) X.xe s2) X.xe s1
theorem NB{pins:List (Addr×Obj)}{s:Shared}{σ:St}{H:Hp}{D:Ends}(hb:wpAny (model X.prog X.w) X.A (execs body X.env) (SP X pins D) (LO X pins D (h0::hs)) s):
  wpAny (model X.prog X.w) X.A (exec (.Try body (h0::hs) [] [] pos) X.env) (SP X pins D) X.xe s:=by
 refine wpAny_Try_except (wpAny_mono hb (fun f s1 q=>?_) fun e s1 q=>q);cases f with
 | next=>exact wpAny_execs_nil q
 | brk=>exact q
 | cont=>exact q
 | ret u=>exact q
theorem Og(hb:PSs X.nox body t):PS X (.Try body (h0::hs) [] [] pos) t:=fun pins s σ H D I h =>
 NB (σ:=σ) (H:=H) (wpAny_mono (hb pins s σ H D (I.wish _) h) (fun _ _ q=>q.unwish) fun _ _ z=>False.elim z)
theorem Jl{P:Program}{w:World}{env:Env}{outer:List Env}{L:Addr}{pins:List (Addr×Obj)}{D:Ends}{E:XK}(hP:X.prog=P)(hw:X.w=w)(he:X.env=env)(hs':X.stack=env::outer)(hf:env.frame=some L)(h:∀(σ:St) (H H':Hp) (s s3:Shared) (a C:Addr) (a0:Value) (B:Heap),Inv X pins σ H s->FlyAt P w X.stack H s a C a0 B H' s3->Inv X pins σ H' s3->E (.ref C) none H'->wpAny (model P w) X.A (handleBy (.ref a) env (h0::hs)) (SP X pins D) X.xe s3):
  ∀(σ:St) (H:Hp) (s:Shared) (e:Value) (s':Shared),Inv X pins σ H s->Fly P w X.stack H s E e s'->LO X pins D (h0::hs) e s':=by
 subst hP hw he;intro σ H s e s' I fl;obtain⟨a,C,a0,B,H',rfl,F,q⟩:=fl;exact lands I hs' hf F fun s3 F3=>h σ H H' s s3 a C a0 B I F3 (I.landed F3) q
end
section
variable{X:Cx}{k j:Nat}{x:Str}{ps:List Str}{sp:Sp}{E:XK}{p cpos pos:Pos}{e:Expr}{es:List Expr}{t:TA}{pins:List (Addr×Obj)}{σ:St}{H:Hp}{s:Shared}
end
section
variable{X:Cx}{pins:List (Addr×Obj)}{σ:St}{H H':Hp}{s s':Shared}{a C:Addr}{a0:Value}{B:Heap}
theorem FlyAt.fresh{P:Program}{w:World}{K:Frag}{mg:Str->Option Value}{base:Heap}{A:Around}{outer:List Env}(e0:Env0 P w K mg base A outer s H)(F:FlyAt P w outer H s a C a0 B H' s'):s.heap.get? a=none:=by
 cases hs:s.heap.get? a with
 | none=>rfl
 | some o =>
  by_cases hb:a∈frs outer
  .obtain⟨sl,e1⟩:=F.slot a o hs (e0.frf a hb) hb
   obtain⟨oe,vs,e2,_,hd,_⟩:=F.fly.first;rw[e1] at e2;cases e2;exact absurd hd (DS e0.funs hb hs vs)
  .obtain⟨o',e1⟩:=F.there a o hs hb
   rw[F.fly.2.1] at e1; cases e1
theorem Inv.track{s1:Shared}{o:Obj}(I0:Inv X pins σ H s)(I:Inv X pins σ H' s1)(h0:s.heap.get? a=none)(hn:H' a=none)(ho:s1.heap.get? a=some o):Inv X pins σ (upd H' a (.frz o (.own a))) s1:=by
 have ne:∀b u,s.heap.get? b=some u->b≠a:=fun b u e z=>by rw[z,h0] at e; cases e
 have neH:∀b u,H' b=some u->b≠a:=fun b u e z=>by rw[z,hn] at e; cases e
 have u:=I.base;obtain⟨m0,n0,_⟩:=I0.loc;refine⟨I.ok,I.os,I.bare,⟨u.keep,u.slot,fun b ob e n hx=>?_,u.there,fun b xs e=>?_,fun b ob v e=>?_,fun b qs e=>?_⟩,I.loc,I.cell,?_,fun x c hc=>?_,fun q hq=>?_,fun b v e=>?_,I.len⟩
 .by_cases hb:b∈X.ex
  .exact absurd hb hx
  .obtain⟨o',e'⟩:=I0.base.there b ob e hx
   rw[AE (ne b o' e')];exact u.free b ob e n hx
 .have:=u.tups b xs e
  rw[AE (neH b _ this)]; exact this
 .have:=u.frzs b ob v e
  rw[AE (neH b _ this)]; exact this
 .obtain⟨more,this⟩:=u.tbls b qs e
  exact⟨more,by rw[AE (neH b _ this)]; exact this⟩
 .obtain⟨ol,es,ep,el,_⟩:=n0
  rw[AE (ne _ ol el)]; exact I.free
 .obtain⟨v,hv⟩:=I0.cell x c hc
  obtain⟨oc,ec,_⟩:=hv;rw[AE (ne _ oc ec)]; exact I.freeC x c hc
 .obtain⟨e1,e2,e3⟩:=I.pin q hq
  obtain⟨f1,_⟩:=I0.pin q hq;exact⟨e1,by rw[AE (ne _ _ f1)]; exact e2,e3⟩
 .by_cases hb:b=a
  .subst hb
   rw[AR] at e; cases e;exact⟨ho,_,ho⟩
  .rw[AE hb] at e
   exact(I.hok b v e).stay (fun d v' _ q=>q) (fun d q=>by rw[AE (neH d _ q)]; exact q) fun d xs q=>by rw[AE (neH d _ q)]; exact q
end
end L2
end
section
namespace PySem
theorem Above.keeps{h h':Heap}{C B:Addr}(x:Above h C B)(k:∀b o,h.get? b=some o->h'.get? b=some o):Above h' C B:=by
 obtain⟨a1,a2,a3,a4,a5,a6,a7,a8,a9,b0,b1,b2,b3,b4,b5,b6,b7,b8,b9,c0,c1,c2,c3,c4,c5,c6,c7,c8,c9,d0,d1,d2,d3,d4,hC,hB,q⟩:=x;exact⟨a1,a2,a3,a4,a5,a6,a7,a8,a9,b0,b1,b2,b3,b4,b5,b6,b7,b8,b9,c0,c1,c2,c3,c4,c5,c6,c7,c8,c9,d0,d1,d2,d3,d4,k _ _ hC,k _ _ hB,q⟩
end PySem
namespace L2
open PySem PySem.Spec PyProof.Rows
section
variable{X:Cx}{pins:List (Addr×Obj)}{σ:St}{H H':Hp}{s s3:Shared}{a C:Addr}{a0:Value}{B:Heap}
theorem Inv.forget{h':Heap}{t':Nat}{m':Str->Option Value}(I:Inv X pins σ H s)(hn':h'.Ns X.env.locals m')(hs:Heap.SameBut X.env.locals s.heap h'):Inv X pins (List.replicate X.N.length none) H { s with heap:=h',toks:=t' }:=by
 have cne:=I.cne;refine⟨I.ok,I.os,I.bare,⟨fun b o e n hb hx=>?_,fun b o e n hb hx=>?_,I.base.free,fun b o e hx=>?_,I.base.tups,I.base.frzs,I.base.tbls⟩,⟨_,hn',fun j y v' e1 e2 e3=>?_⟩,fun y c e=>?_,I.free,I.freeC,fun p hp=>?_,fun b ob e=>?_,by simp⟩
 .exact(hs.2 b (Nat.ne_of_lt (Nat.lt_of_lt_of_le (Heap.lt_size e) I.ok.above))).trans (I.base.keep b o e n hb hx)
 .obtain⟨sl,e1⟩:=I.base.slot b o e n hb hx
  exact⟨sl,(hs.2 b (Nat.ne_of_lt (Nat.lt_of_lt_of_le (Heap.lt_size e) I.ok.above))).trans e1⟩
 .obtain⟨o',e1⟩:=I.base.there b o e hx
  exact⟨o',(hs.2 b (Nat.ne_of_lt (Nat.lt_of_lt_of_le (Heap.lt_size e) I.ok.above))).trans e1⟩
 .rw[List.getElem?_replicate] at e2
  split at e2<;>cases e2
 .obtain⟨w',z⟩:=I.cell y c e
  exact⟨w',z.sameBut hs (cne y c e)⟩
 .obtain⟨e,n,ne,nf,d⟩:=I.pin p hp
  exact⟨(hs.2 p.1 ne).trans e,n,ne,nf,d⟩
 .have hfree:=I.free
  refine(I.hok b ob e).stay (fun c w' hc q=>(hs.2 c ?_).trans q) (fun _ q=>q) fun _ _ q=>q;rintro rfl;rcases hc with hc|hc
  .rw[<- hc,hfree] at e; cases e
  .rw[hfree] at hc; cases hc
theorem L7{HE:Addr}{y n:Str}{i:Nat}{e:Expr}{tp rp hpos:Pos}{D:Ends}(hN:X.N.Nodup)(hi:X.N[i]? = some n)(hx:X.env.scope.names.lookup n=some .local)(hk:X.env.kindOf n=some .local)(hg:Gl X y)(hm:X.mg y=some (.ref HE))(hdb:(y==("__debug__" : Str))=false)(hab:Above X.base C HE)(I0:Inv X pins σ H s)(F:FlyAt X.prog X.w X.stack H s a C a0 B H' s3)(hn:H' a=none)(he:∀(oe:Obj) (vs:Array Value) (s5:Shared),oe.cls=.ref C->oe.data=.fields vs->vs[2]? = some .none->Inv X pins (σ.set i (some (.ref a))) (upd H' a (.frz oe (.own a))) s5->wpAny (model X.prog X.w) (X.A.mark (some (.ref a))) (eval e X.env) (fun u s6=>∃v σ6 H6,Inv X pins σ6 H6 s6/\RelV v u/\D.rt v H6) (fun _ _=>False) s5):
  wpAny (model X.prog X.w) X.A (handleBy (.ref a) X.env [.ExceptHandler (some (.Name y tp)) (some n) [.Return (some e) rp] hpos]) (SP X pins D) X.xe s3:=by
 have I3:=I0.landed F;have e0:=I0.env0;have hd:∀b∈frs X.stack,∀o,s.heap.get? b=some o->∀vs,o.data≠.fields vs:=fun b hb o e=>DS e0.funs hb e;refine Gp (C:=C) (B:=HE) (Calls.Name_function_global I3.ok.kind hg (Calls.loadGlobal_global (by rw[I3.ok.glob]; exact I3.mod.glob.keeps I3.bk) hm ⟨rfl,hab.keeps I3.bk,F.fly.there,?_⟩) hdb);refine K7 F.fly F.pl fun h4 fl4 sm4 pl4=>?_;have F4:=F.on hd fl4 sm4 pl4;have I4:=I0.landed F4;obtain⟨oe,hoe,hcls⟩:=fl4.there;obtain⟨oe',vs,q1,q2,q3⟩:=pl4;rw[hoe] at q1;cases q1;have I4':=Inv.track I0 I4 (F.fresh e0) hn hoe;refine DY (v:=.ref a) I4' hN hi (.inl hx) rfl (fun s5 I5=>?_) (.inr hx);refine wpAny_execs_cons (wpAny_Return_some (wpAny_mono (he oe vs s5 hcls q2 q3 I5) (fun u s6 yy=>?_) fun _ _ z=>z.elim));obtain⟨v,σ6,H6,I6,r,q⟩:=yy;obtain⟨m6,n6,_⟩:=id I6.loc;refine wpAny_nameGoes hk n6 (by rw[I6.ok.kind]; rfl) fun h7 m7 n7 sb7=>?_;exact⟨v,_,H6,I6.forget n7 sb7,r,q⟩
end
end L2
end
section
namespace L2
open PySem PySem.Spec PyProof.Rows
theorem Ja:entryFor table "proto.unchain" = some Builtin.«proto.unchain»:=entryFor_of_tree (by kernel_rfl)
section
variable{prog:Program}{w:World}{A:Around}{E:Value->Shared->Prop}{s:Shared}
theorem Ko{α:Type}{h e:Addr}{oe:Obj}{ve:Array Value}{Q:α -> Shared->Prop}(hh:A.handled=some (.ref h))(ne:h≠e)(hp:AW s.heap h)(he:s.heap.get? e=some oe)(hde:oe.data=.fields ve)(h2:2<ve.size)(k:E (.ref e) { s with heap:=s.heap.update e (Obj.mapFields (·.setIfInBounds 2 (.ref h))) }):wpAny (model prog w) A (raiseNew (α:=α) (.ref e)) Q E s:=by
 obtain⟨oh,vh,ho,hd,hc⟩:=hp;simp only[raiseNew];refine wpAny_bind (wpAny_handled ?_);rw[hh];have hne:(Value.ref h != Value.ref e)=true:=by
  rw[bne_iff_ne];intro z;injection z with z
  exact ne z
 show wpAny _ _ (if (Value.ref h != Value.ref e)=true then _ else _) _ _ _;rw[if_pos hne];refine wpAny_bind (wpAny_holding (runValue_entry Ja ?_));unfold Builtin.«proto.unchain»;refine wpAny_bind (wpAny_field ho hd hc ?_);refine wpAny_pure ⟨_,rfl,?_⟩;unfold updateField;refine wpAny_bind (wpAny_bind (wpAny_load he ?_));rw[hde];show wpAny _ _ (if 2<ve.size then _ else _) _ _ _;rw[if_pos h2];exact wpAny_update he (wpAny_throw k)
end
section
variable{prog:Program}{w:World}{A:Around}{E:Value->Shared->Prop}{s:Shared}
theorem He{it a:Addr}{x left step:Int}{Q:Option Value->Shared->Prop}(hh:A.handled=some (.ref a))(hp:AW s.heap a)(hit:IsRangeIter s.heap it x left step)(hleft:left<=0)(hQ:∀h',(∀b o,s.heap.get? b=some o->h'.get? b=some o)->Q none { s with heap:=h' }):wpAny (model prog w) A (pyNext (.ref it)) Q E s:=by
 have hT:s.TypeIs (.ref it) "range_iterator" := ⟨_,hit,rfl⟩;unfold pyNext;refine wpAny_bind (wpAny_attempt (wpAny_callSpecial?_slot (name:=Str.ofString "__next__") hT F.slot_range_iterator_next
  (wpAny_call_entry F.slot_range_iterator_next hT F.entry_range_iterator_next ?_ (F.args_range_iterator_next_1 _))))
 show wpAny _ _ (field (.ref it) 0 >>= _) _ _ s;refine wpAny_bind (wpAny_field hit rfl (x:=rawInt x) rfl ?_);show wpAny _ _ (field (.ref it) 1 >>= _) _ _ s;refine wpAny_bind (wpAny_field hit rfl (x:=rawInt left) rfl ?_);show wpAny _ _ (field (.ref it) 2 >>= _) _ _ s;refine wpAny_bind (wpAny_field hit rfl (x:=rawInt step) rfl ?_);show wpAny _ _ (if left<=0 then _ else _) _ _ s;rw[if_pos hleft];refine wpAny_bind (wpAny_rule ?_);refine wpAny_bind ?_;show wpAny _ _ (newExc (.type "StopIteration") [] >>= _) _ _ _;refine wpAny_bind ?_;simp only[newExc,newTuple];refine wpAny_bind (wpAny_newObj_type ?_ (by size_fits));refine wpAny_bind (m:=firstArgMember _ _) (wpAny_of_eq (a:=Value.none) (by first|rfl|(simp only[firstArgMember]; rfl)) ?_);refine wpAny_newObj_type ?_ (by size_fits);have hlt:=hp.lt;have kk:∀(o1 o2:Obj) b o,s.heap.get? b=some o->((s.heap.push o1).push o2).get? b=some o:=fun o1 o2 b o e=>Heap.get?_push_of_some _ (Heap.get?_push_of_some _ e);refine Ko (h:=a) hh (fun z=>?_) (hp.keeps (kk _ _)) (Heap.get?_push_size _ rfl) rfl (by simp[ownMembersOf]) ?_
 .have:((s.heap.push { cls:=.type "tuple",data:=.seq ([]:List Value).toArray }).objs.size:Nat)=s.heap.objs.size+1:=Heap.size_push ..
  lia
 refine wpAny_bind (wpAny_isInstance (T := "StopIteration") (b:=true) ⟨_,Heap.get?_update_self _ (Heap.get?_push_size _ rfl) rfl,rfl⟩ isSubtype_stop ?_);refine wpAny_pure (hQ _ fun b o e=>?_);refine(Heap.get?_update_other _ _ fun z=>?_).trans (kk _ _ b o e);have hb:=Heap.lt_size e;have:((s.heap.push { cls:=.type "tuple",data:=.seq ([]:List Value).toArray }).objs.size:Nat)=s.heap.objs.size+1:=Heap.size_push ..;lia
end
end L2
end
section
namespace J
open PySem PySem.Spec PyProof.Rows L2
section
variable{X:Cx}{a b c e:Expr}{m m1 m2 m3:ME}{p pos pos' p2:Pos}
variable{K:Frag}{N:Addr->Prop}{H:Hp}{v:V}
end
end J
end
section
namespace L2
open PySem PySem.Spec PyProof.Rows
section
variable{X:Cx}
end
end L2
namespace J
open PySem PySem.Spec PyProof.Rows L2
section
variable{X:Cx}{a b c e:Expr}{es:List Expr}{m m1 m2 m3:ME}{ms:MA}{p pos pos' p2 apos cpos q npos:Pos}{x:Str}
variable{K:Frag}{N:Addr->Prop}{H:Hp}{σ:L2.St}{v:V}{L:List Addr}
noncomputable def QQ:List A->Option A:=FU (fun _ _=>true) fun i j=>i+j
noncomputable def NH(i:Nat)(m:ME):MS:=AF i (opM QQ (m2L (Ag i) m))
theorem Ph(i:Nat)(hN:X.N.Nodup)(hi:X.N[i]? = some x)(hx:Loc X.env.scope x)(hf:X.fn x=true)(h:JE X e m):JS X (.AugAssign (.Name x pos') .Add e pos) (NH i m):=
 Bg (UI hN hi hx h Ti (.inl hf)) fun D σ H h=>by
  have h1:tE X.K (opM QQ (m2L (Ag i) m)) σ H fun z H2=>D.nx (σ.set i (some z)) H2:=Kw h;obtain⟨v,e1,q⟩:=Qw (two Gy h1);refine⟨v,e1,tE.mono q fun y H1 h2=>?_⟩;obtain⟨i',j',a1,a2,a3⟩:=h2;exact⟨i',j',a1,a2,a3⟩
end
end J
end
section
namespace L2
open PySem PySem.Spec PyProof.Rows
section
variable{X:Cx}{pins:List (Addr×Obj)}{σ:St}{H:Hp}{s:Shared}
end
end L2
namespace J
open PySem PySem.Spec PyProof.Rows L2
section
variable{X:Cx}{x:Str}{pos:Pos}{mi:MI}{mt:MT}{m:ME}
end
end J
end
section
namespace L2
open PySem PySem.Spec PyProof.Rows
noncomputable def Mkd(X:Cx):Prop:=∃(a:Addr) (o:Obj) (u:HO) (vs:Array Value),X.A.handled=some (.ref a)/\X.H₀ a=some (.frz o u)/\o.data=.fields vs/\vs[2]? = some .none
theorem Inv.plainly{X:Cx}{pins:List (Addr×Obj)}{σ:St}{H:Hp}{s:Shared}(I:Inv X pins σ H s)(m:Mkd X):∃a,X.A.handled=some (.ref a)/\AW s.heap a:=by
 obtain⟨a,o,u,vs,h,hp,hd,hc⟩:=m;have hok:=(show BV X.prog X.w H s.heap a (.frz o u) from I.hok a _ (I.base.frzs _ _ _ hp));exact⟨a,h,o,vs,hok.1,hd,hc⟩
theorem SE{X:Cx}{own:List Str}{scope:Scope}{C:Addr}{cl:List (Str×Addr)}{fn:Str->Bool}{s:Shared}{σ:St}{H:Hp}{fp:List Addr}{pins:List (Addr×Obj)}(I:Inv X pins σ H s)(m:Mkd X):Mkd (cxD X own scope C cl fn s H fp pins):=by
 obtain⟨a,o,u,vs,h,hp,r⟩:=m;exact⟨a,o,u,vs,h,I.base.frzs _ _ _ hp,r⟩
structure TurnM (P:Program) (w:World) (K:Frag) (tg:Expr) (J:It) (fp:List Addr) (it:Addr) (tn:Nat->Heap->Prop):Prop where
 mem:it∈fp
 obj:∀i h,tn i h->∀b∈fp,∃o,h.get? b=some o/\∀v,o.data≠.cell v
 keep:∀i h h',tn i h->(∀b∈fp,∀o,h.get? b=some o->h'.get? b=some o)->tn i h'
 item:∀(X:Cx),X.prog=P->X.w=w->X.K=K->Mkd X->∀(i:Nat) (pins:List (Addr×Obj)) (s:Shared) (σ:St) (H:Hp) (E:Value->Shared->Prop),Inv X pins σ H s->(∀b∈fp,Eu X pins H b)->tn i s.heap->J.go i H ->
  wpAny (model P w) X.A (pyNext (.ref it)) (fun r s1=>∃u,r=some u /\
   wpAny (model P w) X.A (letOwnedTupleGo tg (.ref it) u) (fun _ s2=>∃x H',Inv X pins σ H' s2/\RelV x u/\J.yld i H x H'/\tn (i+1) s2.heap/\∀b∈fp,H' b=none) E s1) E s
 done:∀(X:Cx),X.prog=P->X.w=w->X.K=K->Mkd X->∀(i:Nat) (pins:List (Addr×Obj)) (s:Shared) (σ:St) (H:Hp) (E:Value->Shared->Prop),Inv X pins σ H s->(∀b∈fp,Eu X pins H b)->tn i s.heap->J.stop i H ->
  wpAny (model P w) X.A (pyNext (.ref it)) (fun r s1=>r=none/\Inv X pins σ H s1) E s
 self:∀(A:Around) (i:Nat) (s:Shared) (Q:Value->Shared->Prop) (E:Value->Shared->Prop),tn i s.heap->Q (.ref it) s->wpAny (model P w) A (pyIter (.ref it)) Q E s
noncomputable def Vp(X:Cx)(pins:List (Addr×Obj))(σ:St)(tg:Expr)(R:It->Hp->Prop)(itv:Value)(s2:Shared):Prop:=
 ∃(it:Addr) (fp:List Addr) (tn:Nat->Heap->Prop) (J:It) (H':Hp),itv=.ref it/\Inv X pins σ H' s2/\TurnM X.prog X.w X.K tg J fp it tn/\tn 0 s2.heap/\(∀b∈fp,Eu X pins H' b)/\R J H'
noncomputable def PIM(X:Cx)(tg iter:Expr)(wi:TI):Prop:=
 ∀(pins:List (Addr×Obj)) (s:Shared) (σ:St) (H:Hp) (R:It->Hp->Prop),Inv X pins σ H s->wi σ H R ->
  wpAny (model X.prog X.w) X.A (eval iter X.env) (fun v s1=>wpAny (model X.prog X.w) X.A (pyIter v) (Vp X pins σ tg R) X.xe s1) X.xe s
theorem LG{P:Program}{w:World}{K:Frag}{tg:Expr}(it:Addr)(lo:Int)(n:Nat):TurnM P w K tg (Itr lo n) [it] it (fun i h=>IsRangeIter h it (lo+(i:Nat)*1) ((n:Int)-(i:Nat)) 1) where
 mem:=by simp
 obj:=fun i h st b hb=>by
  have e:b=it:=by simpa using hb
  subst e;exact⟨_,st,fun v z=>by
   have z':Data.fields _=Data.cell v:=z;cases z'⟩
 keep:=fun i h h' st k=>k it (by simp) _ st
 item:=by
  intro X hP hw hK hc i pins s σ H E I hf st hg;subst hP hw hK;obtain⟨f0,f1,f2,f3,f4,f5⟩:=hf it (by simp);have hi:i<n:=hg;refine wpAny_pyNext_range_item st (by lia) fun h' st' sb=>?_;have I1:Inv X pins σ H { s with heap:=h',toks:=s.toks+1 }:=I.turned (fun b o hb e=>(sb.2 b hb).trans e) f0 f1 f3 f4 f5;have e1:lo+((i+1:Nat):Int)*1=lo+(i:Int)*1+1:=by lia
  have e2:(n:Int)-((i+1:Nat):Int)=(n:Int)-(i:Int)-1:=by lia
  have st2:IsRangeIter h' it (lo+((i+1:Nat):Int)*1) ((n:Int)-((i+1:Nat):Int)) 1:=by rw[e1,e2]; exact st'
  refine⟨_,rfl,K2 (s:={ s with heap:=h',toks:=s.toks+1 }) (n := "range_iterator") st2 rfl rfl (by decide) ⟨.int (lo+i),H,I1,⟨s.toks,?_⟩,⟨rfl,rfl⟩,st2,fun b hb=>(hf b hb).1⟩⟩;rw[Int.mul_one]
 done:=by
  intro X hP hw hK hc i pins s σ H E I hf st hg;subst hP hw hK;obtain⟨f0,f1,f2,f3,f4,f5⟩:=hf it (by simp);obtain⟨a,hh,hp⟩:=I.plainly hc;exact He hh hp st (by have:n<=i:=hg; lia) fun h' kk=>⟨rfl,I.kept (t':=s.toks) fun b o e=>kk b o e⟩
 self:=fun _ _ _ _ _ st h=>wpAny_pyIter_rangeiter st h
section
variable{X:Cx}{tg:Expr}
theorem Oi{pins:List (Addr×Obj)}{σ:St}{H:Hp}{s:Shared}{R:It->Hp->Prop}{E:Value->Shared->Prop}{lo hi:Int}{t u v:Tok}{tk:Nat}(I:Inv X pins σ H s)(h1 : -(2 ^ 62)<=lo)(h2:lo<2 ^ 62)(h3 : -(2 ^ 62)<=hi)(h4:hi<2 ^ 62)(q:R (Itr lo (hi-lo).toNat) H):wpAny (model X.prog X.w) X.A (pyIter (.ref s.heap.objs.size)) (Vp X pins σ tg R) E { s with heap:=s.heap.push { cls:=.type "range",data:=.fields #[.int lo t,.int hi u,.int 1 v] },toks:=tk }:=by
 refine wpAny_pyIter_range (IsRange.new ..) (small_one h1 h2 h3 h4) ?_;have I1:Inv X pins σ H { s with heap:=s.heap.push { cls:=.type "range",data:=.fields #[.int lo t,.int hi u,.int 1 v] },toks:=tk }:=I.kept fun b o e=>Heap.get?_push_of_some _ e;refine⟨(s.heap.push { cls:=.type "range",data:=.fields #[.int lo t,.int hi u,.int 1 v] }).objs.size,[(s.heap.push { cls:=.type "range",data:=.fields #[.int lo t,.int hi u,.int 1 v] }).objs.size],_,_,H,rfl,
  I1.kept (t':=tk) fun b o e=>Heap.get?_push_of_some _ e,LG _ lo (hi-lo).toNat,?_,fun b hb=>?_,q⟩
 .have e1:lo+((0:Nat):Int)*1=lo:=by simp
  have e2:(((hi-lo).toNat:Nat):Int)-((0:Nat):Int)=Builtin.Range.rangeSize lo hi 1:=by rw[rangeSize_one]; split<;>lia
  show IsRangeIter _ _ (lo+((0:Nat):Int)*1) ((((hi-lo).toNat:Nat):Int)-((0:Nat):Int)) 1;rw[e1,e2];exact Heap.get?_push_size _ rfl
 .have e:b=(s.heap.push { cls:=.type "range",data:=.fields #[.int lo t,.int hi u,.int 1 v] }).objs.size:=by simpa using hb
  subst e;exact I1.fpOk (Nat.le_refl _) (I1.hok.fresh (Nat.le_refl _))
theorem Mz{a:Expr}{ta:TA}{p pos:Pos}(hg:Gl X "range")(hm:X.mg "range" = none)(ha:PA X [a] ta)(hs:starEach [a] X.env=[(false,eval a X.env)]:=by rfl):PIM X tg (.Call (.Name "range" p) [a] [] pos) (OV ta):=by
 intro pins s σ H R I h;refine Call_ (Kd I hg hm boot_range (PyProof.Rows.callWith_type1 (thn (ha pos pins s σ H _ I h) fun us s1 ⟨vs,H1,I1,r1,q1⟩=>?_) hs rfl));obtain⟨j,e,q1,q2,q⟩:=q1;subst e;cases r1 with
 | cons r rr =>
  cases rr;obtain⟨t,rfl⟩:=r;exact call_range_1 (Oi I1 (by lia) (by lia) q1 q2 (by simpa using q))
end
section
variable{X:Cx}{pins:List (Addr×Obj)}{σ:St}{H:Hp}{s:Shared}
theorem Oj{own:List Str}{scope:Scope}{fp:List Addr}{it:Addr}{tn:Nat->Heap->Prop}{J:It}{target iter elt:Expr}{ifs:List Expr}{pos:Pos}{un:TU}{tc:TT}{te:TE}{acc:Addr}{Q:VK}{R:Result->Shared->Prop}{cl:List (Str×Addr)}{fn:Str->Bool}{h1:Heap}{t1:Nat}(hc:Mkd X)(hg:PGo (cxD X own scope s.heap.objs.size cl fn s H fp pins) target own.length un)(ht:PTs (cxD X own scope s.heap.objs.size cl fn s H fp pins) ifs tc)(he:PE (cxD X own scope s.heap.objs.size cl fn s H fp pins) elt te)(I:Inv X pins σ H s)(T:TurnM X.prog X.w X.K target J fp it tn)(st:tn 0 s.heap)(f2:∀b∈fp,Eu X pins H b)(W:Nat->Nat->List V->Hp->Prop)(w0:∃m,W 0 m [] H)(turn:∀i m ys H,W i m ys H->H acc=some (.lst ys) /\
   ((J.stop i H/\Q (.ref acc) H)\/(J.go i H/\∀x H',J.yld i H x H'->∃vs,un x H' vs/\tc (vs.map some++σ) H' fun b H3 =>
    if b=true then te (vs.map some++σ) H3 fun v H4=>H4 acc=some (.lst ys)/\ys.length<sizeLine/\∃m',m'<m/\W (i+1) m' (ys++[v]) (upd H4 acc (.lst (ys++[v])))
    else ∃m',m'<m/\W (i+1) m' ys H3)))(fin:∀s' σ' H',Inv (cxD X own scope s.heap.objs.size cl fn s H fp pins) [] σ' H' s'->Q (.ref acc) H'->R (.ok .next) s')(hk:∀b o,s.heap.get? b=some o->h1.get? b=some o)(I0:Inv (cxD X own scope s.heap.objs.size cl fn s H fp pins) [] (List.replicate own.length none++σ) H { s with heap:=h1,toks:=t1 }):
  codeAny (model X.prog X.w) X.A (.compStart (.ListComp elt [⟨target,iter,ifs,0⟩] scope pos) 0 (.ref it) (.ref acc) (compEnvC scope cl s.heap.objs.size X.env)) R { s with heap:=h1,toks:=t1 }:=by
 have st1:tn 0 h1:=T.keep _ _ _ st fun b _ o e=>hk b o e;have stat:∀{H':Hp},(∀b∈fp,H' b=none)->∀b∈fp,Eu (cxD X own scope s.heap.objs.size cl fn s H fp pins) [] H' b:=fun hn b hb=>by
  obtain⟨_,f1,f3,_,f5,f6⟩:=f2 b hb;obtain⟨o,e,_⟩:=T.obj _ _ st b hb;refine⟨hn b hb,Nat.ne_of_lt (Heap.lt_size e),fun hz=>?_,.inl hb,(I0.ok.exf b hb).2,fun p hp=>f6 p (by simpa using hp)⟩;rcases List.mem_cons.mp (I.stkSub b hz) with z|z
  .exact f1 z
  .exact f3 z
 have loop:∀s4,s4={ s with heap:=h1,toks:=t1 }->codeAny (model X.prog X.w) X.A (.compLoop (.ListComp elt [⟨target,iter,ifs,0⟩] scope pos) 0 (.ref it) (.ref acc) (compEnvC scope cl s.heap.objs.size X.env)) R s4:=by
  rintro s4 rfl;obtain⟨m0,w0⟩:=w0;refine HR (fun n s'=>∃i ys σ0 H',σ0.length=own.length/\Inv (cxD X own scope s.heap.objs.size cl fn s H fp pins) [] (σ0++σ) H' s'/\tn i s'.heap/\(∀b∈fp,H' b=none)/\W i n ys H') ?_ m0 ⟨0,[],_,H,by rw[List.length_replicate],I0,st1,fun b hb=>(f2 b hb).1,w0⟩;rintro n s3 ⟨i,ys,σ0,H3,hl3,I3,st3,fr3,w3⟩;obtain⟨ha,turn3⟩:=turn i n ys H3 w3;rcases turn3 with ⟨stop,qn⟩|⟨go,step⟩
  .refine thn (T.done (cxD X own scope s.heap.objs.size cl fn s H fp pins) rfl rfl rfl (SE I hc) i [] s3 _ H3 _ I3 (stat fr3) st3 stop) fun r s4 yy=>?_
   obtain⟨hr,I4⟩:=yy;subst hr;exact fin s4 _ H3 I4 qn
  .refine thn (T.item (cxD X own scope s.heap.objs.size cl fn s H fp pins) rfl rfl rfl (SE I hc) i [] s3 _ H3 _ I3 (stat fr3) st3 go) fun r s4 yy=>?_
   obtain⟨u,hr,h4⟩:=yy;subst hr;refine thn h4 fun _ s5 yy=>?_;obtain⟨x,H5,I5,r5,y5,st5,fr5⟩:=yy;obtain⟨vs,hu,q5⟩:=step x H5 y5;have I5':=I5.pinned (stat fr5) (T.obj _ _ st5);have again:∀{H7:Hp} {s7:Shared},vs.length=own.length->Inv (cxD X own scope s.heap.objs.size cl fn s H fp pins) ([]++Hd fp s5.heap) (vs.map some++σ) H7 s7->∀{ys'},(∃m',m'<n/\W (i+1) m' ys' H7) ->
     ∃m,m<n/\∃i ys σ0 H',σ0.length=own.length/\Inv (cxD X own scope s.heap.objs.size cl fn s H fp pins) [] (σ0++σ) H' s7/\tn i s7.heap/\(∀b∈fp,H' b=none)/\W i m ys H':=fun {H7 s7} hl I7 {ys'} ⟨m',hm,w7⟩=>by
    refine⟨m',hm,i+1,ys',vs.map some,H7,by rw[List.length_map,hl],I7.unpinned,T.keep _ _ _ st5 fun b hb o e=>(I7.pin (b,o) (List.mem_append_right _ (List.mem_append_right _ (C3 hb e)))).1,fun b hb=>?_,w7⟩;obtain⟨o,e,d⟩:=T.obj _ _ st5 b hb;exact(I7.pin (b,o) (List.mem_append_right _ (List.mem_append_right _ (C3 hb e)))).2.1
   refine thn (hg _ s5 σ0 σ H5 x u vs hl3 I5' r5 hu) fun _ s6 yy=>?_;obtain⟨hl,I6⟩:=yy;refine thn (ht _ s6 _ H5 _ I6 q5) fun ok s7 yy=>?_;obtain⟨H7,I7,q7⟩:=yy;cases ok with
   | false =>
    rw[if_neg Bool.false_ne_true] at q7;rw[if_neg Bool.false_ne_true];exact again hl I7 q7
   | true =>
    rw[if_pos rfl] at q7;rw[if_pos rfl];refine thn (he _ s7 _ H7 _ I7 q7) fun v s8 yy=>?_;obtain⟨y,H8,I8,r8,ha8,hz8,q8⟩:=yy;refine thn (G9 _ s8 _ H8 (.ref acc) [y] (.ref acc) [v] (fun _ H9=>∃m',m'<n/\W (i+1) m' (ys++[y]) H9) I8 rfl (.cons r8 .nil) ⟨acc,ys,y,rfl,rfl,ha8,hz8,q8⟩) fun _ s9 yy=>?_;obtain⟨_,H9,I9,_,q9⟩:=yy;exact again hl I9 q9
 exact codeAny_compStart_list (loop _ rfl) (T.self X.A 0 _ _ _ st1 (loop _ rfl))
theorem MF{own:List Str}{scope:Scope}{fp:List Addr}{it:Addr}{tn:Nat->Heap->Prop}{J:It}{target iter elt:Expr}{ifs:List Expr}{pos:Pos}{un:TU}{tc:TT}{te:TE}{acc:Addr}{Q:VK}{R:Result->Shared->Prop}{E:Value->Shared->Prop}(hc:Mkd X)(hok:BR own X.N scope X.env.scope=true)(hg:∀C s H fp pins,PGo (cxC X own scope C s H fp pins) target own.length un)(ht:∀C s H fp pins,PTs (cxC X own scope C s H fp pins) ifs tc)(he:∀C s H fp pins,PE (cxC X own scope C s H fp pins) elt te)(I:Inv X pins σ H s)(T:TurnM X.prog X.w X.K target J fp it tn)(st:tn 0 s.heap)(f2:∀b∈fp,Eu X pins H b)(W:Nat->Nat->List V->Hp->Prop)(w0:∃m,W 0 m [] H)(turn:∀i m ys H,W i m ys H->H acc=some (.lst ys) /\
   ((J.stop i H/\Q (.ref acc) H)\/(J.go i H/\∀x H',J.yld i H x H'->∃vs,un x H' vs/\tc (vs.map some++σ) H' fun b H3 =>
    if b=true then te (vs.map some++σ) H3 fun v H4=>H4 acc=some (.lst ys)/\ys.length<sizeLine/\∃m',m'<m/\W (i+1) m' (ys++[v]) (upd H4 acc (.lst (ys++[v])))
    else ∃m',m'<m/\W (i+1) m' ys H3)))(fin:∀s' σ' H',Inv (cxC X own scope s.heap.objs.size s H fp pins) [] σ' H' s'->Q (.ref acc) H'->R (.ok .next) s'):
  wpAny (model X.prog X.w) X.A (newFunctionEnv scope X.env.globals (clo X.env.cells scope.names []) [] X.env.qual none .none (some X.env)) (fun cenv s₄ =>
   cenv.locals=s.heap.objs.size/\codeAny (model X.prog X.w) X.A (.compStart (.ListComp elt [⟨target,iter,ifs,0⟩] scope pos) 0 (.ref it) (.ref acc) { cenv with scope:=relabel scope X.env }) R s₄) E s:=by
 have hcell:∀x∈scope.names,x.2≠.cell:=fun x hx z=>by
  simp only[BR,Bool.and_eq_true,List.all_eq_true] at hok;have:=(hok.1.1.2 x hx).1.1;rw[z] at this;simp at this
 have hkind:scope.kind=.function:=by
  simp only[BR,Bool.and_eq_true] at hok;simpa using hok.1.2
 refine wpAny_newFunctionEnv hcell (fun x hx=>by simp at hx) (fun h1 hns hsb=>⟨rfl,?_⟩) hkind;have hk:∀b o,s.heap.get? b=some o->h1.get? b=some o:=fun b o e=>(hsb.2 b (Nat.ne_of_lt (Heap.lt_size e))).trans (Heap.get?_push_of_some _ e);have I0:Inv (cxC X own scope s.heap.objs.size s H fp pins) [] (List.replicate own.length none++σ) H { s with heap:=h1,toks:=s.toks+([]:List (Str×Value)).length }:=
  Jx hok I f2 (fun b hb=>let⟨o,e,_⟩:=T.obj _ _ st b hb; ⟨o,e⟩) (by simpa using hns) hk
 exact Oj (iter:=iter) (pos:=pos) hc (hg _ _ _ _ _) (ht _ _ _ _ _) (he _ _ _ _ _) I T st f2 W w0 turn fin hk I0
end
section
variable{X:Cx}
end
structure ExcCls (K:Frag) (C:Addr):Prop where
 ga:PySem.W.findIn K (.ref C) "__getattribute__" = some (some (.builtin "BaseException.__getattribute__"))
 noga:PySem.W.findIn K (.ref C) "__getattr__" = some none
 cl:PySem.W.findIn K (.ref C) "__class__" = some (some (.builtin "object.__class__"))
 obj:PySem.W.mroIn K C (.type "object")=some true
 bex:PySem.W.mroIn K C (.type "BaseException")=some true
section
variable{prog:Program}{w:World}{A:Around}{E:Value->Shared->Prop}{h:Heap}{g:Array GenState}{d:Drawn}{t:Nat}{os:OsState}{a C:Addr}{o:Obj}{K:Frag}
theorem Jb{R:Result->Shared->Prop}(X:K.In h)(Y:ExcCls K C)(hx:h.get? a=some o)(hc:o.cls=.ref C)(hq:R (.ok (.ret (.ref C))) ⟨h,g,d,t,os⟩):
  codeAny (model prog w) A (.call (.builtin "getset_descriptor.__get__") ⟨[.builtin "object.__class__",.ref a,.ref C],[]⟩) R ⟨h,g,d,t,os⟩:=by
 have hT5:(⟨h,g,d,t,os⟩:Shared).TypeIs (.builtin "object.__class__") "getset_descriptor" := F.typeOf_object_class;have L1:=PySem.W.looks_mroIn (M:=model prog w) X Y.obj;have L2:PySem.W.Looks (model prog w) h (isSubtype (.ref C) (.type (".".intercalate ("object.__class__".cutAt '.').dropLast))) true:=by rw[F.owner_object_class]; exact L1
 refine codeAny_call_builtin F.slot_gs_get.plain F.entry_gs_get (F.slot_gs_get.check _ _ _ _ _ _ _ _ hT5 (F.args_gs_get _ _ _) ?_);repeat (any_goals (first|assumption|(with_reducible refine wpAny_loadPart_at hx ?_; rw[hc])|(with_reducible refine L2.at ?_)|wp_step))
 refine⟨Code.quiet_builtin _ dK,codeAny_builtin F.entry_object_class ?_⟩;repeat (any_goals (first|assumption|(with_reducible refine wpAny_loadPart_at hx ?_; rw[hc])|wp_step))
theorem Hw{tk:Tok}{Q:Fin->Shared->Prop}(X:K.In h)(Y:ExcCls K C)(hx:h.get? a=some o)(hc:o.cls=.ref C)(hq:Q (.done (.ret (.ref C))) ⟨h,g,d,t,os⟩):
  wpAny (model prog w) A (Builtin.«object.__getattribute__» ⟨[.ref a,.str "__class__" tk],[]⟩) Q E ⟨h,g,d,t,os⟩:=by
 have hT5:(⟨h,g,d,t,os⟩:Shared).TypeIs (.builtin "object.__class__") "getset_descriptor" := F.typeOf_object_class;have f5:=F.typeOf_object_class;have f6:=F.slot_gs_get.lookup;have f7:=F.slot_gs_set.lookup;have L1:=PySem.W.looks_findIn (M:=model prog w) X Y.cl;repeat (any_goals (first|assumption|(with_reducible refine wpAny_loadPart_at hx ?_; rw[hc])|(with_reducible refine L1.at ?_)|wp_step))
 refine Jb X Y hx hc ?_;repeat (any_goals (first|assumption|wp_step))
theorem J6{M:Model}{nameV:Value}{Q:Unit->Shared->Prop}(X:K.In h)(Y:ExcCls K C)(hx:h.get? a=some o)(hc:o.cls=.ref C)(hq:Q () ⟨h,g,d,t,os⟩):wpAny M A (checkBuiltinCall "BaseException.__getattribute__" ⟨[.ref a,nameV],[]⟩) Q E ⟨h,g,d,t,os⟩:=by
 have hk:builtinKind "BaseException.__getattribute__" = some .slot:=by decide +kernel
 have hsplit:splitId "BaseException.__getattribute__" = some ("BaseException","__getattribute__"):=by decide +kernel
 have L1:=PySem.W.looks_mroIn (M:=M) X Y.bex;have ha:=F.args_bexc_ga (.ref a) nameV;simp only[checkBuiltinCall,hk,hsplit];refine wpAny_bind ?_
 .unfold isInstance
  repeat (first|(with_reducible refine wpAny_loadPart_at hx ?_; rw[hc])|(with_reducible refine L1.at ?_)|wp_step)
  exact hq
theorem HY{tk:Tok}{R:Result->Shared->Prop}(X:K.In h)(Y:ExcCls K C)(hx:h.get? a=some o)(hc:o.cls=.ref C)(hp:Slot "ValueError" "__getattribute__" "BaseException.__getattribute__")(hq:R (.ok (.ret (.ref C))) ⟨h,g,d,t,os⟩):
  codeAny (model prog w) A (.call (.builtin "BaseException.__getattribute__") ⟨[.ref a,.str "__class__" tk],[]⟩) R ⟨h,g,d,t,os⟩:=
 codeAny_call_builtin hp.plain F.entry_bexc_ga (J6 X Y hx hc (Hw X Y hx hc hq))
theorem J5{tk:Tok}{fill:Bool}{Q:Value->Shared->Prop}(X:K.In h)(Y:ExcCls K C)(hx:h.get? a=some o)(hc:o.cls=.ref C)(hp:Slot "ValueError" "__getattribute__" "BaseException.__getattribute__")(hq:Q (.ref C) ⟨h,g,d,t,os⟩):
  wpAny (model prog w) A (getAttrBy (.ref a) (.str "__class__" tk) fill) Q E ⟨h,g,d,t,os⟩:=by
 have f3:=hp.bind (.ref a);have hx2:(Value.builtin "BaseException.__getattribute__" == Value.builtin "object.__getattribute__")=false:=by decide +kernel
 have hx1:(onTheHeap (Value.ref C)&&Value.builtin "BaseException.__getattribute__" == Value.builtin "object.__getattribute__")=false:=by rw[hx2]; rfl
 have L1:=PySem.W.looks_findIn (M:=model prog w) X Y.ga;have L2:=PySem.W.looks_findIn (M:=model prog w) X Y.noga;repeat (any_goals (first|assumption|(with_reducible refine wpAny_loadPart_at hx ?_; rw[hc])|(with_reducible refine L1.at ?_)|(with_reducible refine L2.at ?_)|wp_step))
 refine HY X Y hx hc hp ?_;repeat (any_goals (first|assumption|wp_step))
theorem HX{Q:Option Value->Shared->Prop}(X:K.In h)(Y:ExcCls K C)(hx:h.get? a=some o)(hc:o.cls=.ref C)(hp:Slot "ValueError" "__getattribute__" "BaseException.__getattribute__")(hq:Q (some (.ref C)) ⟨h,g,d,t+1,os⟩):
  wpAny (model prog w) A (getAttr? (.ref a) "__class__") Q E ⟨h,g,d,t,os⟩:=by
 unfold getAttr? getAttrBy?;repeat (any_goals (first|assumption|with_reducible apply J5 X Y hx hc hp|wp_step))
end
theorem Pm{K:Frag}{a C:Addr}{cd:ClassData}(Y:ExcCls K C)(hcD:PySem.W.clsIn K C=some cd):PySem.W.KitX K (.ref a) (.ref C) (fun h=>∃o,h.get? a=some o/\o.cls=.ref C) where
 ty:=fun M h _ p=>by
  obtain⟨o,h1,h2⟩:=p;exact h2 ▸ (PySem.W.Looks.ld h1).andThen .now
 it:=fun _ _ X _=>by
  unfold PySem.W.clsIn at hcD;split at hcD
  .rename_i c' d' cd' sl' ho
   intro A' Q' E' s' k q;unfold isType loadHead;exact wpAny_bind (wpAny_loadPart (k _ _ (X _ _ ho)) (wpAny_pure q))
  .cases hcD
 ne:=fun h tp dd its n sl X htp=>by
  refine Bool.eq_false_iff.mpr fun q=>?_;have e:C=tp:=Value.ref.inj (beq_iff_eq.mp q);subst e;unfold PySem.W.clsIn at hcD;split at hcD
  .rename_i c' d' cd' sl' ho
   have z:=(X _ _ ho).symm.trans htp;cases z
  .cases hcD
 ca:=fun {_ _ _ _ _ s} X p k=>by
  obtain⟨h,g,d,t,os⟩:=s;obtain⟨o,h1,h2⟩:=p;exact HX X Y h1 h2 F.attr_ValueError.ga k
noncomputable def V2(C:Addr)(c:V)(b:Bool):List V->Hp->VK->Prop:=fun xs H Q=>∃a o u,xs=[.ref a,c]/\H a=some (.frz o u)/\o.cls=.ref C/\Q (.bl b) H
theorem OK{X:Cx}{C:Addr}{c:V}{cv:Value}{b:Bool}{cd:ClassData}(Y:ExcCls X.K C)(hcD:PySem.W.clsIn X.K C=some cd)(hk:PySem.W.kitOne X.K (.ref C) cv=some b)(hc:∀u,RelV c u->u=cv):
  Dh X (.builtin "isinstance") (V2 C c b):=by
 intro pins s σ H xs us Q I r h;obtain⟨a,o,u,rfl,ho,hcl,q⟩:=h;obtain⟨v1,v2,rfl,r1,r2⟩:=r.two;cases (show v1=Value.ref a from r1);cases hc _ r2;have hok:=(show BV X.prog X.w H s.heap a (.frz o u) from I.hok a _ ho);exact PySem.W.kia_one (Pm Y hcD) I.kIn ⟨o,hok.1,hcl⟩ hk (fun z=>nomatch z) fun tk=>⟨.bl b,H,I.tok tk,rfl,q⟩
end L2
end
section
namespace J
open PySem PySem.Spec PyProof.Rows L2
section
variable{X:Cx}{a:Expr}{m:ME}{p pos q:Pos}{K:Frag}{H:Hp}{σ:L2.St}
noncomputable def Tj(C:Addr)(b:Bool):A->Option A
 | .opq _ o=>if (o.cls==.ref C)=true then some (.fz (.bl b)) else none
 | .fz _ | .lst _ | .tup _ | .scr _ | .dic _ | .dct _=>none
noncomputable def Bb(C:Addr)(b:Bool):List A->Option A:=on1 (Tj C b)
theorem T5{C:Addr}{b:Bool}:OpN K (Bb C b) (r1L fun x H Q=>∃a o u,x=.ref a/\H a=some (.frz o u)/\o.cls=.ref C/\Q (.bl b) H):=by
 intro N H xs as b' Q hs e k
 replace e:=Ek e
 obtain⟨a,rfl,e⟩:=e;obtain⟨x,L1,rfl,h1⟩:=Dr hs;cases a with
 | opq a o =>
  simp only[Tj] at e;split at e
  .rename_i hc
   cases e;rw[AA] at h1;obtain⟨rfl,_,u,h⟩:=h1;exact⟨_,rfl,a,o,u,rfl,h,beq_iff_eq.mp hc,k _ _ CQ⟩
  .cases e
 | _=>cases e
theorem U2{C:Addr}{c:V}{b:Bool}{Q:VK}(h:tE K (opM (Bb C b) (m1L m)) σ H Q):tCB (V2 C c b) (B7 (tE K m) (B7 (tC c) GN)) σ H Q:=by
 have h2:=one T5 h;exact tE.mono h2 fun x H1 ⟨a,o,u,e,r,hc,q⟩=>⟨a,o,u,by rw[e],r,hc,q⟩
theorem Pa{y:Str}{C:Addr}{c:V}{cv:Value}{b:Bool}{cd:ClassData}(Y:ExcCls X.K C)(hcD:PySem.W.clsIn X.K C=some cd)(hk:PySem.W.kitOne X.K (.ref C) cv=some b)(hc:∀u,RelV c u->u=cv)(hn:PE X (.Name y q) (tC c))(hg:Gl X "isinstance")(B:Blt X.mg X.K)(he:starEach [a,.Name y q] X.env=[(false,eval a X.env),(false,eval (.Name y q) X.env)])(he2:starEach [.Name y q] X.env=[(false,eval (.Name y q) X.env)])(ha:JE X a m):
  JE X (.Call (.Name "isinstance" p) [a,.Name y q] [] pos) (opM (Bb C b) (m1L m)):=
 AO (Iv (OK Y hcD hk hc) hg B.isinstance PyProof.Rows.Boot.«isinstance» (De ha (De hn Fq he2) (he.trans (by rw[he2]))) dK dK (he.trans (by rw[he2])) (by rw[he2]; rfl)) fun _ _ _ h=>U2 h
end
section
variable{X:Cx}{a b c e:Expr}{m:ME}{mt:MT}{mi:MI}{p pos:Pos}{x:Str}
noncomputable def JIM(X:Cx)(tg e:Expr)(m:MI):Prop:=PIM X tg e (tI X.K m)
theorem PQ{tg:Expr}{t t':TI}(h:PIM X tg e t)(w:∀σ H R,t' σ H R->t σ H R):PIM X tg e t':=fun pins s σ H R I q=>h pins s σ H R I (w σ H R q)
theorem Pd{tg:Expr}(hg:Gl X "range")(hm:X.mg "range" = none)(hs:starEach [a] X.env=[(false,eval a X.env)])(h:JE X a m):JIM X tg (.Call (.Name "range" p) [a] [] pos) (Cj m):=
 PQ (Mz hg hm (De h Fq hs) hs) fun _ _ _ h=>Nx h
end
end J
end
section
namespace L2
open PySem PySem.Spec PyProof.Rows
structure RoomM (k:Nat) (A:Around):Prop where
 dp:A.depth+3*k+5<recursionLimit
 un:A.units+16*k+200<cLine
theorem RoomM.mono{j k:Nat}{A:Around}(r:RoomM k A)(h:j<=k):RoomM j A:=⟨by have:=r.dp; lia,by have:=r.un; lia⟩
theorem RoomM.deeper{k:Nat}{A:Around}(r:RoomM (k+1) A)(env:Env):RoomM k (A.deeper env):=
 ⟨by have:=r.dp; show A.depth+1+3*k+5<_; lia,by have:=r.un; show A.units+3+16*k+200<_; lia⟩
theorem RoomM.depth{k:Nat}{A:Around}(r:RoomM k A):A.depth<recursionLimit:=by have:=r.dp; lia
theorem RoomM.units{k:Nat}{A:Around}(r:RoomM k A):A.units+64<cLine:=by have:=r.un; lia
theorem Room.marked{k:Nat}{A:Around}(r:Room k A)(e:Option Value):RoomM k (A.mark e):=⟨r.dp,r.un⟩
noncomputable def Sv(A:Around)(H:Hp):Prop:=∃(a:Addr) (o:Obj) (u:HO) (vs:Array Value),A.handled=some (.ref a)/\H a=some (.frz o u)/\o.data=.fields vs/\vs[2]? = some .none
theorem Mkd.of{X:Cx}{pins:List (Addr×Obj)}{σ:St}{H:Hp}{s:Shared}(m:Mkd X)(I:Inv X pins σ H s):Sv X.A H:=by
 obtain⟨a,o,u,vs,h,hp,r⟩:=m;exact⟨a,o,u,vs,h,I.base.frzs _ _ _ hp,r⟩
noncomputable def cxM(CX:CXT)(P:Program)(w:World)(K:Frag)(mg:Str->Option Value)(base:Heap)(N:List Str)(qual:Str)(scope:Scope)(f:Addr)(cd:Value)(A:Around)(outer:List Env)(s:Shared)(H:Hp)(E:XK):Cx:=
 { AS CX P w K mg base N qual scope f cd A outer s H E with calm:=false }
theorem Mb{CX:CXT}{P:Program}{w:World}{K:Frag}{mg:Str->Option Value}{base:Heap}{N ps:List Str}{qual:Str}{scope:Scope}{f:Addr}{cd:Value}{A:Around}{outer:List Env}{s s1:Shared}{H:Hp}{E:XK}{us:List Value}{vs:List V}(S:FnScope N ps scope)(e0:Env0 P w K mg base A outer s H)(hl:vs.length=ps.length)(r:Vals vs us)(x:InCallC s s.heap.objs.size (bindL (envOfC qual scope s.heap.objs.size f cd).kindOf (ps.zip us) fun _=>none) (cellsFrom (s.heap.objs.size+1) scope.names []) (bindC (envOfC qual scope s.heap.objs.size f cd).kindOf (ps.zip us) fun _=>none) s1):
  Inv (cxM CX P w K mg base N qual scope f cd A outer s H E) [] (start N vs) H s1:=by
 have I:=G4 (CX:=CX) (E:=E) (A:={ A with handled:=none }) (P:=P) (w:=w) (K:=K) (mg:=mg) (base:=base) (outer:=outer) (qual:=qual) (f:=f) (cd:=cd) S rfl ⟨e0.frames,e0.mod,e0.bs,e0.bsz,e0.funs,e0.frf,e0.hok,e0.bare,e0.tb⟩ hl r x;exact⟨⟨I.ok.mod,I.ok.kind,I.ok.glob,I.ok.blt,I.ok.above,I.ok.inj,I.ok.has,I.ok.cab,fun z=>absurd z Bool.false_ne_true,Around.frames_deeper e0.frames,I.ok.stk,I.ok.exf,I.ok.bs,I.ok.bsz,I.ok.noex,I.ok.exfs,I.ok.funs,I.ok.frf,I.ok.tb⟩,
  I.os,I.bare,I.base,I.loc,I.cell,I.free,I.freeC,I.pin,I.hok,I.len⟩
structure FnOkM (P:Program) (w:World) (K:Frag) (mg:Str->Option Value) (base:Heap) (CX:CXT) (k:Nat) (f:Addr) (fd:FuncData) (ps:List Str) (sp:Sp):Prop where
 len:∀vs H Q E,sp vs H Q E->vs.length=ps.length
 run:∀(A:Around) (outer:List Env) (s:Shared) (H:Hp) (args:Args) (us:List Value) (vs:List V) (Q:VK) (E:XK),RoomM k A->Sv A H->Env0 P w K mg base A outer s H->BindsTo s fd args (ps.zip us)->Vals vs us->sp vs H Q E ->
  codeAny (model P w) A (.call (.ref f) args) (CR CX outer P w H s Q E) s
theorem S8{CX:CXT}{P:Program}{w:World}{K:Frag}{mg:Str->Option Value}{base:Heap}{k:Nat}{f:Addr}{name qual:Str}{params:Arguments}{body:List Stmt}{scope:Scope}{dV kV doc pm cdv ct oc:Value}{an od:Option Addr}{osl:Array (Option Value)}{N ps:List Str}{sp:Sp}(lk:K.lookup f=some ⟨oc,od,.func (PySem.W.fnOf name qual params body scope dV kV doc pm an cdv ct),osl⟩)(hcd:PySem.W.codeIn K cdv qual=true)(S:FnScope N ps scope)(len:∀vs H Q E,sp vs H Q E->vs.length=ps.length)(hbody:∀(A:Around) (outer:List Env) (s:Shared) (H:Hp) (vs:List V) (Q:VK) (E:XK),RoomM k (A.deeper (envOfC qual scope s.heap.objs.size f cdv))->Mkd (cxM CX P w K mg base N qual scope f cdv A outer s H E)->sp vs H Q E ->
   ∃t,PSs (cxM CX P w K mg base N qual scope f cdv A outer s H E) body t/\t { nx:=fun _ H'=>Q .non H',rt:=Q } (start N vs) H):
  FnOkM P w K mg base CX (k+1) f (PySem.W.fnOf name qual params body scope dV kV doc pm an cdv ct) ps sp:=by
 refine⟨len,fun A outer s H args us vs Q E hr hmk e0 hb r hsp=>?_⟩;have hl:=len _ _ _ _ hsp;have KX:K.In s.heap:=e0.mod.kin.keeps fun b o e=>(e0.bs b o e).1;have lim:s.heap.NoLimit:=e0.mod.nolimit.keeps fun b o e=>(e0.bs b o e).1;have hkind:∀y∈ps.zip us,scope.names.lookup y.1=some .local\/(scope.names.lookup y.1=some .cell/\((cellsFrom (s.heap.objs.size+1) scope.names []).lookup y.1).isSome=true):=fun⟨n,v⟩ hy=>by
  rcases S.par n (List.of_mem_zip hy).1 with q|q
  .exact .inl q
  .exact .inr ⟨q,PySem.W.cellsFrom_some _ _ _ (.inl q)⟩
 refine codeAny_call_function hr.depth (KX _ _ lk) rfl S.co S.gen rfl (PySem.W.codeRec_of KX hcd) (hb _ _ _ _ ?_);refine wpAny_newFunctionEnv_cells S.kind hkind fun env he s1 x=>?_;subst he;refine⟨lim.keeps x.toInCall.keep,codeAny_func ?_⟩;obtain⟨t,ht,hq⟩:=hbody A outer s H vs Q E (hr.deeper _) hmk hsp;have I:Inv (cxM CX P w K mg base N qual scope f cdv A outer s H E) [] (start N vs) H s1:=Mb S e0 hl r x;refine wpAny_mono (ht [] s1 (start N vs) H _ I hq) (fun fl s' hs=>?_) fun e s' hs=>hs;have fin:∀{σ':St} {H':Hp} {v:V} {u:Value},Inv (cxM CX P w K mg base N qual scope f cdv A outer s H E) [] σ' H' s'->RelV v u->Q v H'->CE outer P w H s Q u s':=
  fun {σ' H' v u} J rv q=>⟨v,H',J.os,J.bare,J.base,J.hok,rv,q⟩
 cases fl with
 | ret u =>
  obtain⟨v,σ',H',J,rv,q⟩:=hs;exact fin J rv q
 | next =>
  obtain⟨σ',H',J,q⟩:=hs;exact fin (v:=V.non) (u:=Value.none) J rfl q
 | brk =>
  obtain⟨_,_,_,q⟩:=hs;exact False.elim q
 | cont =>
  obtain⟨_,_,_,q⟩:=hs;exact False.elim q
section
variable{X:Cx}{CX:CXT}{k:Nat}{f C:Addr}{fd:FuncData}{ps:List Str}{sp:Sp}{dvs:List V}{ds:List Value}{E:XK}{x m:Str}{p pos apos:Pos}{e o:Expr}{es:List Expr}{ta:TE}{t:TA}
theorem R0{pins:List (Addr×Obj)}{σ:St}{H:Hp}{s:Shared}{Q:VK}{us:List Value}{vs:List V}(F:FnOkM X.prog X.w X.K X.mg X.base CX k f fd ps sp)(hr:RoomM k X.A)(hmk:Mkd X)(hb:Binds X.K fd ps ds)(hd:Vals dvs ds)(hx:Passes CX X E)(I:Inv X pins σ H s)(r:Vals vs us)(h:sp (vs++dvs) H Q E):wpAny (model X.prog X.w) X.A (call (.ref f) us) (EP X pins σ Q) X.xe s:=by
 have r2:Vals (vs++dvs) (us++ds):=r.append hd;have hl:(us++ds).length=ps.length:=by rw[<- r2.length]; exact F.len _ _ _ _ h
 refine wpAny_call (codeAny_mono (F.run X.A X.stack s H ⟨us,[]⟩ (us++ds) (vs++dvs) Q E hr (hmk.of I) I.env0 (hb s us I.kIn hl) r2 h) fun r s' hq=>?_);cases r with
 | error e=>exact hx pins σ H s e s' I hq
 | ok fl =>
  cases fl with
  | ret u=>exact I.after hq
  | next=>exact False.elim hq
  | brk=>exact False.elim hq
  | cont=>exact False.elim hq
theorem PK(F:FnOkM X.prog X.w X.K X.mg X.base CX k f fd ps sp)(hr:RoomM k X.A)(hmk:Mkd X)(hg:Gl X x)(hm:X.mg x=some (.ref f))(hk:PySem.W.keepIn X.K (.ref f)=true)(hb:Binds X.K fd ps ds)(hd:Vals dvs ds)(hx:Passes CX X E)(ha:PA X (e::es) t)(hdb:(x==("__debug__" : Str))=false:=by decide)(he:starEach (e::es) X.env=(false,eval e X.env)::starEach es X.env:=by rfl)(hpl:(backTo pos (starEach es X.env)).any (·.1)=false:=by rfl):
  PE X (.Call (.Name x p) (e::es) [] pos) (LB sp dvs E t):=by
 intro pins s σ H Q I h;refine wpAny_Call_Name_kw (HG I hg hm ?_ hdb);refine PySem.W.callWith_K (h₀:=X.base) I.ok.mod.kin hk (thn (ha pos pins s σ H _ I h) fun us s1 ⟨vs,H1,I1,r,q⟩=>⟨I1.kIn,?_⟩) he hpl;exact R0 F hr hmk hb hd hx I1 r q
end
structure DefM (P:Program) (w:World) (K:Frag) (mg:Str->Option Value) (base:Heap) (CX:CXT) (k:Nat) (x:Str) (ps:List Str) (sp:Sp):Prop where
 ex:∃(f:Addr) (fd:FuncData),mg x=some (.ref f)/\PySem.W.keepIn K (.ref f)=true/\Binds K fd ps []/\FnOkM P w K mg base CX k f fd ps sp
end L2
namespace J
open PySem PySem.Spec PyProof.Rows L2
section
variable{P:Program}{w:World}{K:Frag}{mg:Str->Option Value}{base:Heap}
theorem Tb{x:Str}{st:Stmt}{f:Addr}{fd:FuncData}{N ps:List Str}{k:Nat}{m:MS}(F:Fun K x x st f fd)(S:FnScope N ps (Ar st))(hb:∀(cdv:Value) (A:Around) (outer:List Env) (s:Shared) (H:Hp) (E:XK),RoomM k (A.deeper (envOfC x (Ar st) s.heap.objs.size f cdv))->Mkd (cxM CX0 P w K mg base N x (Ar st) f cdv A outer s H E) ->
   JSs (cxM CX0 P w K mg base N x (Ar st) f cdv A outer s H E).nox (BJ st) m):
  FnOkM P w K mg base CX0 (k+1) f fd ps (spJ K (fnM ps.length N.length m) ps.length):=by
 obtain⟨oc,od,kV,doc,pm,an,cdv,ct,osl,rfl,lk,hcd⟩:=F.ex;refine S8 lk hcd S (fun vs H Q E h=>?_) fun A outer s H vs Q E hr hm h=>?_
 .obtain⟨_,_,_,h,_⟩:=h
  exact h
 .have hl:vs.length=ps.length:=by
   obtain⟨_,_,_,h,_⟩:=h;exact h
  have:=JY h;refine⟨_,PSs.nox (hb cdv A outer s H E hr hm),?_⟩;unfold L2.start;rw[hl];exact this
end
section
variable{X:Cx}{e:Expr}{es:List Expr}{ms:MA}{p pos:Pos}{x:Str}
theorem O7{P:Program}{w:World}{K:Frag}{mg:Str->Option Value}{base:Heap}{CX:CXT}{k j:Nat}{ps:List Str}{Φ:Fn}{np:Nat}{E:XK}(D:DefM P w K mg base CX k x ps (spJ K Φ np))(hnp:∀args y,Φ args=some y->args.length=np)(hP:X.prog=P)(hw:X.w=w)(hK:X.K=K)(hm:X.mg=mg)(hb:X.base=base)(hr:RoomM j X.A)(hkj:k<=j)(hmk:Mkd X)(hx:Passes CX X E)(hdb:(x==("__debug__" : Str))=false)(hg:Gl X x)(he:starEach (e::es) X.env=(false,eval e X.env)::starEach es X.env)(hpl:(backTo pos (starEach es X.env)).any (·.1)=false)(ha:JA X (e::es) ms):JE X (.Call (.Name x p) (e::es) [] pos) (Au Φ ms):=by
 subst hP hw hK hm hb;obtain⟨f,fd,a,b,c,d⟩:=D.ex;exact AO (PK d (hr.mono hkj) hmk hg a b c .nil hx ha hdb he hpl) fun _ _ _ h=>Nw hnp h
end
end J
end
section
namespace L2
open PySem PySem.Spec PyProof.Rows PySem.W
section
variable{P:Program}{w:World}{K:Frag}{mg:Str->Option Value}{base:Heap}
end
theorem BV.obj{P:Program}{w:World}{H:Hp}{h:Heap}{a:Addr}{o:HO}(x:BV P w H h a o):∃u,h.get? a=some u:=by
 cases o with
 | lst xs=>obtain⟨_,_,_,_,e⟩:=x; exact⟨_,e⟩
 | tup xs=>obtain⟨_,_,_,o,e,_⟩:=x; exact⟨_,e⟩
 | dK kvs=>obtain⟨_,_,_,_,o,_,_,e,_⟩:=x; exact⟨_,e⟩
 | dT kvs=>obtain⟨_,_,_,_,o,_,_,e,_⟩:=x; exact⟨_,e⟩
 | set S n=>obtain⟨o,_,_,_,e,_⟩:=x; exact⟨_,e⟩
 | ins C dx fs=>obtain⟨_,_,_,e,_⟩:=x; exact⟨_,e⟩
 | own y=>obtain⟨_,e⟩:=x; exact⟨_,e⟩
 | xd fs=>obtain⟨_,⟨_,_,_,e,_⟩,_⟩:=x; exact⟨_,e⟩
 | rng lo hi=>obtain⟨_,_,_,e⟩:=x; exact⟨_,e⟩
 | frz ob u=>obtain⟨e,_⟩:=x; exact⟨_,e⟩
 | tbl ps=>obtain⟨_,e,_⟩:=x; exact⟨_,e⟩
 | met f y=>exact⟨_,(show h.get? a=some _ from x)⟩
 | ext φ=>obtain⟨_,⟨_,e⟩,_⟩:=x; exact⟨_,e⟩
theorem HOk.none{P:Program}{w:World}{H:Hp}{h:Heap}{a:Addr}(x:HOk P w H h)(e:h.get? a=Option.none):H a=Option.none:=by
 cases q:H a with
 | none=>rfl
 | some u =>
  obtain⟨o,z⟩:=(x a u q).obj;rw[e] at z; cases z
theorem FlyAt.untracked{P:Program}{w:World}{outer:List Env}{H H':Hp}{s s':Shared}{a C:Addr}{a0:Value}{B:Heap}(F:FlyAt P w outer H s a C a0 B H' s'):H' a=Option.none:=F.hok.none F.fly.2.1
noncomputable abbrev Cx.mk2(X:Cx)(a:Addr)(o:Obj):Cx:={ X with A:=X.A.mark (some (.ref a)),calm:=false,H₀:=upd X.H₀ a (.frz o (.own a)),xe:=fun _ _=>False }
section
variable{X:Cx}{pins:List (Addr×Obj)}{σ:St}{H:Hp}{s:Shared}{a:Addr}{o:Obj}
theorem Inv.mk2(I:Inv X pins σ H s)(ha:H a=some (.frz o (.own a)))(hs:X.s₀.heap.get? a=none)(hn:X.H₀ a=none):Inv (X.mk2 a o) pins σ H s:=by
 have k:=I.ok;have ne:∀b u,X.s₀.heap.get? b=some u->b≠a:=fun b u e z=>by rw[z,hs] at e; cases e
 have nh:∀b u,X.H₀ b=some u->b≠a:=fun b u e z=>by rw[z,hn] at e; cases e
 refine⟨⟨k.mod,k.kind,k.glob,k.blt,k.above,k.inj,k.has,k.cab,fun z=>absurd z Bool.false_ne_true,k.frames,k.stk,k.exf,fun b ob e=>⟨(k.bs b ob e).1,?_⟩,k.bsz,k.noex,k.exfs,k.funs,fun b hb=>?_,fun n q hm c p e=>?_⟩,
  I.os,I.bare,⟨fun b ob e n=>I.base.keep b ob e ?_,fun b ob e n=>I.base.slot b ob e ?_,fun b ob e n=>I.base.free b ob e ?_,I.base.there,fun b xs e=>?_,fun b ob u e=>?_,fun b qs e=>?_⟩,I.loc,I.cell,I.free,I.freeC,I.pin,I.hok,I.len⟩
 .show upd X.H₀ a _ b=none
  rw[AE (ne b ob (k.bs b ob e).1)]; exact(k.bs b ob e).2
 .obtain⟨_,ob,e,_⟩:=k.funs.mem hb
  show upd X.H₀ a _ b=none;rw[AE (ne b ob e)]; exact k.frf b hb
 .obtain⟨ps,e1,e2⟩:=k.tb n q hm c p e
  exact⟨ps,by show upd X.H₀ a _ p=_; rw[AE (nh p _ e1)]; exact e1,e2⟩
 .have n:upd X.H₀ a _ b=none:=n
  rw[AE (ne b ob e)] at n; exact n
 .have n:upd X.H₀ a _ b=none:=n
  rw[AE (ne b ob e)] at n; exact n
 .have n:upd X.H₀ a _ b=none:=n
  rw[AE (ne b ob e)] at n; exact n
 .have e:upd X.H₀ a _ b=_:=e
  by_cases z:b=a
  .rw[z,AR] at e; cases e
  .rw[AE z] at e; exact I.base.tups b xs e
 .have e:upd X.H₀ a _ b=_:=e
  by_cases z:b=a
  .rw[z,AR] at e; cases e; rw[z]; exact ha
  .rw[AE z] at e; exact I.base.frzs b ob u e
 .have e:upd X.H₀ a _ b=_:=e
  by_cases z:b=a
  .rw[z,AR] at e; cases e
  .rw[AE z] at e; exact I.base.tbls b qs e
theorem Inv.un2(I:Inv (X.mk2 a o) pins σ H s)(k:X.Ok)(hs:X.s₀.heap.get? a=none)(hn:X.H₀ a=none):Inv X pins σ H s:=by
 have ne:∀b u,X.s₀.heap.get? b=some u->b≠a:=fun b u e z=>by rw[z,hs] at e; cases e
 have nh:∀b u,X.H₀ b=some u->b≠a:=fun b u e z=>by rw[z,hn] at e; cases e
 have u:=I.base;refine⟨k,I.os,I.bare,⟨fun b ob e n=>u.keep b ob e ?_,fun b ob e n=>u.slot b ob e ?_,fun b ob e n=>u.free b ob e ?_,u.there,fun b xs e=>u.tups b xs ?_,fun b ob v e=>u.frzs b ob v ?_,fun b qs e=>u.tbls b qs ?_⟩,I.loc,I.cell,I.free,I.freeC,I.pin,I.hok,I.len⟩
 .show upd X.H₀ a _ b=none; rw[AE (ne b ob e)]; exact n
 .show upd X.H₀ a _ b=none; rw[AE (ne b ob e)]; exact n
 .show upd X.H₀ a _ b=none; rw[AE (ne b ob e)]; exact n
 .show upd X.H₀ a _ b=_; rw[AE (nh b _ e)]; exact e
 .show upd X.H₀ a _ b=_; rw[AE (nh b _ e)]; exact e
 .show upd X.H₀ a _ b=_; rw[AE (nh b _ e)]; exact e
theorem WI{vs:Array Value}(hd:o.data=.fields vs)(h2:vs[2]? = some .none):Mkd (X.mk2 a o):=⟨a,o,_,vs,rfl,AR,hd,h2⟩
end
theorem S9{CX:CXT}{P:Program}{w:World}{K:Frag}{mg:Str->Option Value}{base:Heap}{k:Nat}{f:Addr}{name qual:Str}{params:Arguments}{body:List Stmt}{scope:Scope}{dV kV doc pm cdv ct oc:Value}{an od:Option Addr}{osl:Array (Option Value)}{N ps:List Str}(lk:K.lookup f=some ⟨oc,od,.func (PySem.W.fnOf name qual params body scope dV kV doc pm an cdv ct),osl⟩)(hcd:PySem.W.codeIn K cdv qual=true)(S:FnScope N ps scope){A:Around}{outer:List Env}{s:Shared}{H:Hp}{args:Args}{us:List Value}{vs:List V}{Q:VK}{E:XK}(hr:Room (k+1) A)(e0:Env0 P w K mg base A outer s H)(hb:BindsTo s (PySem.W.fnOf name qual params body scope dV kV doc pm an cdv ct) args (ps.zip us))(r:Vals vs us)(hl:vs.length=ps.length)(hbody:∀s1,Room k (A.deeper (envOfC qual scope s.heap.objs.size f cdv))->Inv (AS CX P w K mg base N qual scope f cdv A outer s H E) [] (start N vs) H s1->(∀b o,s.heap.get? b=some o->s1.heap.get? b=some o) ->
   wpAny (model P w) (A.deeper (envOfC qual scope s.heap.objs.size f cdv)) (execs body (envOfC qual scope s.heap.objs.size f cdv)) (SP (AS CX P w K mg base N qual scope f cdv A outer s H E) [] { nx:=fun _ H'=>Q .non H',rt:=Q }) (AS CX P w K mg base N qual scope f cdv A outer s H E).xe s1):
  codeAny (model P w) A (.call (.ref f) args) (CR CX outer P w H s Q E) s:=by
 have KX:K.In s.heap:=e0.mod.kin.keeps fun b o e=>(e0.bs b o e).1;have lim:s.heap.NoLimit:=e0.mod.nolimit.keeps fun b o e=>(e0.bs b o e).1;have hkind:∀y∈ps.zip us,scope.names.lookup y.1=some .local\/(scope.names.lookup y.1=some .cell/\((cellsFrom (s.heap.objs.size+1) scope.names []).lookup y.1).isSome=true):=fun⟨n,v⟩ hy=>by
  rcases S.par n (List.of_mem_zip hy).1 with q|q
  .exact .inl q
  .exact .inr ⟨q,PySem.W.cellsFrom_some _ _ _ (.inl q)⟩
 refine codeAny_call_function hr.depth (KX _ _ lk) rfl S.co S.gen rfl (PySem.W.codeRec_of KX hcd) (hb _ _ _ _ ?_);refine wpAny_newFunctionEnv_cells S.kind hkind fun env he s1 x=>?_;subst he;refine⟨lim.keeps x.toInCall.keep,codeAny_func ?_⟩;have I:Inv (AS CX P w K mg base N qual scope f cdv A outer s H E) [] (start N vs) H s1:=G4 S hr.hd e0 hl r x;refine wpAny_mono (hbody s1 (hr.deeper _) I x.toInCall.keep) (fun fl s' hs=>?_) fun e s' hs=>hs;have fin:∀{σ':St} {H':Hp} {v:V} {u:Value},Inv (AS CX P w K mg base N qual scope f cdv A outer s H E) [] σ' H' s'->RelV v u->Q v H'->CE outer P w H s Q u s':=
  fun {σ' H' v u} J rv q=>⟨v,H',J.os,J.bare,J.base,J.hok,rv,q⟩
 cases fl with
 | ret u =>
  obtain⟨v,σ',H',J,rv,q⟩:=hs;exact fin J rv q
 | next =>
  obtain⟨σ',H',J,q⟩:=hs;exact fin (v:=V.non) (u:=Value.none) J rfl q
 | brk =>
  obtain⟨_,_,_,q⟩:=hs;exact False.elim q
 | cont =>
  obtain⟨_,_,_,q⟩:=hs;exact False.elim q
theorem OD{K:Frag}{h:Heap}{C B:Addr}{n n':String}(X:K.In h)(qC:excIn K C QM n=true)(qB:excIn K B QM n'=true)(hm:mroIn K C (.ref B)=some true)(hne:C≠B):Above h C B:=by
 obtain⟨bm',N',nm',qn',bs',hdct',sn',sub',ab',col',dd',j0,j1,j2,j3,j5,mN',hB,_,_,T'⟩:=M9 X qB;have hbase:=T'.hasType PySem.F.excBase_ValueError.hasBase;unfold excIn at qC;split at qC
 .rename_i dd cd sl ho
  split at qC
  .rename_i C' bm k0 k1 k2 k3 n k5 hmro hs
   simp only[Bool.and_eq_true,beq_iff_eq,Bool.not_eq_true'] at qC;obtain⟨⟨⟨⟨⟨rfl,rfl⟩,hdel⟩,ht⟩,hok⟩,hni⟩:=qC;have hc:clsIn K C'=some cd:=by unfold clsIn; rw[ho]
   unfold mroIn at hm;rw[hc,Option.bind_some,hmro] at hm;have hm2:(Value.ref C'::bm).contains (.ref B)=true:=by simpa using hm
   rw[List.contains_cons] at hm2;have hne2:((Value.ref B:Value)==.ref C')=false:=by
    rw[Bool.eq_false_iff];intro z;exact hne (Value.ref.inj (beq_iff_eq.mp z)).symm
   rw[hne2,Bool.false_or] at hm2;obtain⟨nm,bs,mro,ns,qn,hd,sn,sub,ab,col,del⟩:=cd;dsimp only at hmro hdel hok hni;subst hmro hdel;have hsl:sl = #[k0,k1,k2,k3,some (.builtin n),k5]:=by
    obtain⟨l⟩:=sl;simp only at hs;rw[hs]
   subst hsl;exact⟨_,_,_,_,_,_,_,_,_,_,_,_,_,_,_,_,_,_,_,_,_,_,_,_,_,_,_,_,_,_,_,_,_,_,X _ _ ho,hB,hbase,hm2⟩
  .cases qC
 .cases qC
end L2
end
section
namespace J
open PySem PySem.Spec PyProof.Rows L2
section
variable{P:Program}{w:World}{K:Frag}{mg:Str->Option Value}{base:Heap}
end
end J
end
section
namespace J
open PySem PySem.Spec PyProof.Rows L2 PySem.W
section
variable{P:Program}{w:World}{K:Frag}{mg:Str->Option Value}{base:Heap}
end
section
variable{X:Cx}{scope:Scope}{pins:List (Addr×Obj)}{σ:L2.St}{H H2:Hp}{s:Shared}{Z:Ro}{O:Addr->Prop}{fp:Nat->List Addr}
end
end J
end
section
namespace L2
open PySem PySem.Spec PyProof.Rows
section
variable{X:Cx}
theorem Of{i:Nat}{y:Str}{py spos:Pos}{own:List Str}{scope:Scope}{target iter elt:Expr}{ifs:List Expr}{pos:Pos}{wi:TI}{un:TU}{tc:TT}{te:TE}(nd:X.N.Nodup)(hiN:X.N[i]? = some y)(hy:X.env.scope.names.lookup y=some .local)(hc:Mkd X)(hok:BR own X.N scope X.env.scope=true)(hi:PIM X target iter wi)(hg:∀C s H fp pins,PGo (cxC X own scope C s H fp pins) target own.length un)(ht:∀C s H fp pins,PTs (cxC X own scope C s H fp pins) ifs tc)(he:∀C s H fp pins,PE (cxC X own scope C s H fp pins) elt te)(hs:∀x,foldedSetIterable iter X.env x=pure x:=by intro _; rfl)(hsw:swapsWith (.ListComp elt [⟨target,iter,ifs,0⟩] scope pos) (some (.Name y py)) spos.line X.env=pure true:=by rfl):
  PS X (.Assign [.Name y py] (.ListComp elt [⟨target,iter,ifs,0⟩] scope pos) spos) (MQ (tLc wi un tc te) (FK i)):=by
 intro pins s σ H D I h;rw[exec_Assign_Name_used _ _ _ _ hsw];refine wpAny_bind (wpAny_standAt (wpAny_bind ?_));show wpAny _ X.A (do let _ <- comprehension (.ListComp elt [⟨target,iter,ifs,0⟩] scope pos) scope X.env _ (newList []) false (eval iter X.env) (some (assign (.Name y py) X.env))) _ _ s;refine wpAny_bind (wpAny_mono (wpAny_comprehension_free (use:=some (assign (.Name y py) X.env)) (Q:=fun _ s'=>SP X pins D .next s') rfl hs (LP (BR.free hok I)) (BR.kind hok) (BR.names hok) ?_) (fun _ s' hq=>wpAny_pure (wpAny_pure hq)) fun _ _ e=>e);refine thn (hi pins s σ H _ I h) fun v s1 h1=>thn h1 fun itv s2 h2=>?_;obtain⟨it,fp,tn,J,H2,e,I2,T,st2,f2,q⟩:=h2;subst e;obtain⟨W,w0,turn⟩:=q s2.heap.objs.size I2.fresh;refine wpAny_newObj_type (hd:=by size_fits) ?_;have I3:Inv X pins σ (upd H2 s2.heap.objs.size (.lst [])) { s2 with heap:=s2.heap.push { cls:=.type "list",data:=.seq ([]:List Value).toArray } }:=I2.lnew (its:=[]) (t':=s2.toks) .nil (Nat.zero_le _);have st3:tn 0 (s2.heap.push { cls:=.type "list",data:=.seq ([]:List Value).toArray }):=T.keep _ _ _ st2 fun b _ o e=>Heap.get?_push_of_some _ e;have f3:∀b∈fp,Eu X pins (upd H2 s2.heap.objs.size (.lst [])) b:=fun b hb=>by
  obtain⟨o,e,_⟩:=T.obj _ _ st2 b hb;exact⟨by rw[AE (Nat.ne_of_lt (Heap.lt_size e))]; exact(f2 b hb).1,(f2 b hb).2⟩
 generalize hS:({ s2 with heap:=s2.heap.push { cls:=.type "list",data:=.seq ([]:List Value).toArray } }:Shared)=s3 at I3 st3;have st3':tn 0 s3.heap:=by rw[<- hS]; exact st3
 refine thn (MF (iter:=iter) (pos:=pos) (acc:=s2.heap.objs.size) (Q:=fun x H1=>FK i x σ H1 D.nx) (R:=compPost (model X.prog X.w) X.A X.xe (some (assign (.Name y py) X.env)) (fun _ s'=>SP X pins D .next s') (.ref s2.heap.objs.size) s3.heap.objs.size) hc hok hg ht he I3 T st3' f3 W w0 turn fun s' σ' H' J' q'=>?_) fun cenv s4 ⟨el,h4⟩=>?_
 .have I4:Inv X pins σ H' s':=Fi I3 f3 J' (h':=s'.heap) (.refl ..)
  obtain⟨m,⟨oC,es,ep,hoC,hdC,hrC⟩,_⟩:=J'.loc;have hCL:s3.heap.objs.size≠X.env.locals:=Nat.ne_of_gt I3.lt;have hfs:s3.heap.objs.size∉X.fs:=I3.nofs (Nat.le_refl _);have hCc:∀x c,X.env.cells.lookup x=some c->c≠s3.heap.objs.size:=fun x c e=>by
   obtain⟨v,z⟩:=I3.cell x c e;exact Nat.ne_of_lt z.lt
  have hCp:∀p∈X.pn++pins,p.1≠s3.heap.objs.size:=fun p hp=>Nat.ne_of_lt (Heap.lt_size (I3.pin p hp).1);have I5:Inv X (pins++[(s3.heap.objs.size,oC)]) σ H' s':=I4.pins_of fun p hp=>(List.mem_append.mp hp).elim (fun z=>I4.pin p (List.mem_append_right _ z)) fun z=>by
   have z':p=(s3.heap.objs.size,oC):=by simpa using z
   subst z';exact⟨hoC,J'.free,hCL,hfs,fun v=>by rw[hdC]; intro z; cases z⟩
  show wpAny _ X.A (assign (.Name y py) X.env (.ref s2.heap.objs.size)) _ _ s';refine wpAny_assign_Name (DY I5 nd hiN (.inl hy) (v:=.ref s2.heap.objs.size) rfl (fun s6 I6=>?_) (.inr hy));have hp:=I6.pin (s3.heap.objs.size,oC) (List.mem_append_right _ (List.mem_append_right _ (by simp)));refine⟨m,⟨oC,es,ep,hp.1,hdC,hrC⟩,fun h' hs'=>?_⟩;exact⟨_,H',I6.unpinned.turned (h':=h') (t':=s6.toks) (it:=s3.heap.objs.size) (fun b o hb e=>(hs'.2 b hb).trans e) hp.2.1 hCL (.inr I3.sz) hCc hCp,q'⟩
 .rw[<- el] at h4
  exact h4
theorem RC{k:Nat}(hr:RoomM k X.A):OpR X (compareOp .NotEq) UO:=by
 intro pins s σ H x y v u Q I rx ry h;obtain⟨d,e,r1,r2,hs,q⟩:=h;exact EqBoolInt.of_rcne (Lv I.hok r1 r2 rx ry hs (by have:=hr.units; lia)) ⟨.bl _,H,I,rfl,q⟩
end
end L2
namespace J
open PySem PySem.Spec PyProof.Rows L2
section
variable{X:Cx}{a b c e:Expr}{m:ME}{mt:MT}{mi:MI}{p pos apos cpos q:Pos}{x:Str}{K:Frag}
theorem NU(i:Nat){y:Str}{py spos:Pos}{scope:Scope}{iter elt:Expr}{ifs:List Expr}{px:Pos}(nd:X.N.Nodup)(hiN:X.N[i]? = some y)(hy:X.env.scope.names.lookup y=some .local)(hok:BR [x] X.N scope X.env.scope=true)(hc:Mkd X)(hx:scope.names.lookup x=some .local)(hs:∀z,foldedSetIterable iter X.env z=pure z)(hsw:swapsWith (.ListComp elt [⟨.Name x px,iter,ifs,0⟩] scope pos) (some (.Name y py)) spos.line X.env=pure true)(hi:JIM X (.Name x px) iter mi)(ht:JTc X [x] scope ifs mt)(he:JEc X [x] scope elt m):
  JS X (.Assign [.Name y py] (.ListComp elt [⟨.Name x px,iter,ifs,0⟩] scope pos) spos) (AF i (BL mi 0 mt m)):=by
 have hnx:x∉X.N:=fun hy=>by
  simp only[BR,Bool.and_eq_true,List.all_eq_true] at hok;have:=hok.2 x (by simp);simp[hy] at this
 exact Bg (Of (un:=QK) (te:=tE X.K m) nd hiN hy hc hok hi (fun C s H fp pins=>IA rfl (List.nodup_cons.mpr ⟨hnx,nd⟩) (lookup_relabel_local hx)) ht (fun C s H fp pins=>he C s H fp pins) hs hsw) fun _ _ _ h=>Kv (Kw h)
noncomputable def KH:List Str:=["NoHouse","NoRow","NoMachine","NoRoom","NoHand","Unlike","NoPast","TooMany","Torn","NoTable","NoSet","Falls","Whole","NoText","NoWord"]
structure XW (K:Frag) (mg:Str->Option Value) (C:Addr) (wd:Str):Prop where
 cls:ExcCls K C
 cd:(PySem.W.clsIn K C).isSome=true
 own:∀y∈KH,∃a,mg y=some (.ref a)/\PySem.W.kitOne K (.ref C) (.ref a)=some (y==wd)
 ve:mg "ValueError" = none/\PySem.W.kitOne K (.ref C) (.type "ValueError")=some true
theorem Cv{y wd:Str}{C:Addr}(bb:Bool)(W:XW X.K X.mg C wd)(hy:y∈KH)(hb:(y==wd)=bb)(hdb:(y==("__debug__" : Str))=false)(hgy:Gl X y)(hg:Gl X "isinstance")(B:Blt X.mg X.K)(he:starEach [a,.Name y q] X.env=[(false,eval a X.env),(false,eval (.Name y q) X.env)])(he2:starEach [.Name y q] X.env=[(false,eval (.Name y q) X.env)])(ha:JE X a m):
  JE X (.Call (.Name "isinstance" p) [a,.Name y q] [] pos) (opM (Bb C bb) (m1L m)):=by
 obtain⟨cd,hcd⟩:=Option.isSome_iff_exists.mp W.cd;obtain⟨ay,h1,h2⟩:=W.own y hy;rw[hb] at h2;exact Pa (c:=.ref ay) W.cls hcd h2 (fun u r=>r) (GF hgy h1 rfl hdb) hg B he he2 ha
theorem Tv{wd:Str}{C:Addr}(W:XW X.K X.mg C wd)(hgy:Gl X "ValueError")(hg:Gl X "isinstance")(B:Blt X.mg X.K)(he:starEach [a,.Name "ValueError" q] X.env=[(false,eval a X.env),(false,eval (.Name "ValueError" q) X.env)])(he2:starEach [.Name "ValueError" q] X.env=[(false,eval (.Name "ValueError" q) X.env)])(ha:JE X a m):
  JE X (.Call (.Name "isinstance" p) [a,.Name "ValueError" q] [] pos) (opM (Bb C true) (m1L m)):=by
 obtain⟨cd,hcd⟩:=Option.isSome_iff_exists.mp W.cd;exact Pa (c:=.ty "ValueError") W.cls hcd W.ve.2 (fun u r=>r) (Fz hgy W.ve.1 dK rfl dK dK) hg B he he2 ha
noncomputable def JP(r s:MR):MR:=fun Z=>(r Z).or (s Z)
theorem Rk{XC:Str->Addr}{E:XK}{ss:List Stmt}{r r2:MR}(h:JRs X XC E ss r)(h2:JRs X XC E ss r2):JRs X XC E ss (JP r r2):=by
 intro pins s σ H D I q;obtain⟨Z,O,fp,rl,x,e,k⟩:=q;simp only[JP] at e;rcases Option.or_eq_some_iff.mp e with e|⟨_,e⟩
 .exact h pins s σ H D I ⟨Z,O,fp,rl,x,e,k⟩
 .exact h2 pins s σ H D I ⟨Z,O,fp,rl,x,e,k⟩
end
end J
end
section
namespace J
open PySem PySem.Spec PyProof.Rows L2 PySem.W
section
variable{P:Program}{w:World}{K:Frag}{mg:Str->Option Value}{base:Heap}
theorem NV{X:Cx}{body:List Stmt}{h0:ExceptHandler}{hs:List ExceptHandler}{pos:Pos}{m:MS}(hb:JSs X.nox body m):JS X (.Try body (h0::hs) [] [] pos) m:=Og hb
end
noncomputable def DB(x:Str)(n:Nat):Str:=⟨(List.replicate n x.cps).foldl (· ++ ·) #[]⟩
theorem KZ(x:Array Nat):∀(n:Nat) (a:Array Nat),((List.replicate n x).foldl (· ++ ·) a).toList=a.toList++(List.replicate n x.toList).flatten:=by
 intro n;induction n with
 | zero=>intro a; simp
 | succ n ih=>intro a; rw[List.replicate_succ,List.foldl_cons,ih]; simp[List.replicate_succ]
theorem JF(x:Str)(n:Nat):(DB x n).cps.toList=(List.replicate n x.cps.toList).flatten:=by
 unfold DB;exact(KZ x.cps n #[]).trans (by simp)
theorem IF(x:Str)(n:Nat):(DB x n).length=n*x.length:=by
 have h:(DB x n).length=(DB x n).cps.toList.length:=by simp[Str.length]
 rw[h,JF];simp[Str.length]
theorem Qe(x:Str):DB x 1=x:=by
 obtain⟨c⟩:=x;simp[DB]
theorem Qd{x:Str}(h:x.length=0)(n:Nat):DB x n=x:=by
 obtain⟨⟨c⟩⟩:=x;have:c=[]:=List.eq_nil_of_length_eq_zero (by simpa[Str.length] using h);subst this;have e:=JF ⟨#[]⟩ n;have:(DB ⟨#[]⟩ n).cps.toList=[]:=by rw[e]; simp
 generalize DB ⟨#[]⟩ n=y at this;obtain⟨⟨d⟩⟩:=y;simp at this;subst this;rfl
theorem Uk{X:Cx}:OpR X (binaryOp .Mult) (fun x y H Q=>∃z i,x=.str z/\y=.int i/\(z.length<=1000/\0<=i/\i<=1000)/\Q (.str (DB z i.toNat)) H):=by
 intro pins s σ H x y v u Q I rx ry h;obtain⟨z,i,rfl,rfl,⟨h1,h2,h3⟩,q⟩:=h;obtain⟨t,rfl⟩:=rx;obtain⟨t',rfl⟩:=ry;have hz:z.length*i.toNat<=1000000:=Nat.le_trans (Nat.mul_le_mul h1 (show i.toNat<=1000 by omega)) (by decide);have hlim:1000000<=sizeLine:=by decide
 refine P.mul_str (by rw[decide_eq_false (by omega),decide_eq_false (by omega)]; rfl) (fun a b=>?_) (fun a b=>?_) ?_
 .have:1000<=(2 ^ 63-1:Int) / i:=Int.le_ediv_of_mul_le (by omega) (by omega)
  omega
 .unfold Builtin.Str.tooLong
  exact decide_eq_false (by omega)
 .split
  .rename_i hi
   have:i.toNat=0:=by omega
   rw[this] at q;exact⟨by decide,⟨.str (DB z 0),H,I.tok _,⟨_,rfl⟩,q⟩⟩
  .split
   .rename_i hc
    have:DB z i.toNat=z:=by
     simp only[Bool.or_eq_true,beq_iff_eq] at hc;rcases hc with hc|hc
     .rw[hc]; exact Qe z
     .exact Qd hc _
    rw[this] at q;exact⟨.str z,H,I,⟨_,rfl⟩,q⟩
   .exact⟨by rw[show(⟨(List.replicate i.toNat z.cps).foldl (· ++ ·) #[]⟩:Str)=DB z i.toNat from rfl,IF,Nat.mul_comm]; omega,⟨.str (DB z i.toNat),H,I.tok _,⟨_,rfl⟩,q⟩⟩
section
variable{K:Frag}
noncomputable def RW:List A->Option A:=on2 fun q1 q2=>(Ck q1).bind fun x=>(BF q2).bind fun i=>if x.length<=1000/\0<=i/\i<=1000 then some (.fz (.str (DB x i.toNat))) else none
theorem Ub:OpN K RW (r2L fun x y H Q=>∃z i,x=.str z/\y=.int i/\(z.length<=1000/\0<=i/\i<=1000)/\Q (.str (DB z i.toNat)) H):=by
 intro N H xs as b Q hs e k
 replace e:=Cy e
 obtain⟨q1,q2,rfl,e⟩:=e;simp only[bind_eq_some_iff] at e;obtain⟨z,eq1,i,eq2,e⟩:=e;cases B5 eq1;cases A4 eq2;split at e
 .rename_i hc
  cases e;obtain⟨x,y,L1,L2,rfl,h1,h2⟩:=Bq hs;obtain⟨rfl,_⟩:=CT h1;cases Bc h2;have hlim:1000000<=sizeLine:=by decide
  have hz:i.toNat*z.length<=1000000:=Nat.le_trans (Nat.mul_le_mul (show i.toNat<=1000 by omega) hc.1) (by decide);exact⟨_,_,rfl,z,i,rfl,rfl,hc,k _ _ (HK (by rw[IF]; omega))⟩
 .cases e
end
section
variable{X:Cx}{K:Frag}{a b:Expr}{m1 m2:ME}{p2 pos:Pos}{N:Addr->Prop}{H:Hp}
end
end J
end
section
namespace J
open PySem PySem.Spec PyProof.Rows L2
section
variable{X:Cx}
end
section
variable{K:Frag}{σ:L2.St}{H:Hp}
end
section
variable{X:Cx}{p pos apos cpos npos npos2:Pos}{x y:Str}
end
end J
end
section
namespace L2
open PySem PySem.Spec PyProof.Rows
section
variable{X:Cx}
end
end L2
namespace J
open PySem PySem.Spec PyProof.Rows L2
section
variable{X:Cx}{x:Str}{pos:Pos}{m:ME}
end
end J
end
section
namespace L2
open PySem PySem.Spec PyProof.Rows
section
variable{X:Cx}
end
end L2
namespace J
open PySem PySem.Spec PyProof.Rows L2
section
variable{X:Cx}{e:Expr}{es:List Expr}{m:ME}{ms:MA}{p pos:Pos}{K:Frag}
end
end J
end
section
namespace J
open PySem PySem.Spec PyProof.Rows L2
section
variable{P:Program}{w:World}{K:Frag}{mg:Str->Option Value}{base:Heap}{XC:Str->Addr}
variable{N:List Str}{qual:Str}{scope:Scope}{f:Addr}{cd:Value}{A:Around}{outer:List Env}{s:Shared}{H:Hp}{E:XK}
theorem Rj{g:Str}{k j np:Nat}{ps:List Str}{Ψ:FnR}{ms:MA}{p cpos pos npos:Pos}{e:Expr}{es:List Expr}{st st':List Stmt}(D:Def P w K mg base (Fly P w) k g ps (spR K XC Ψ np))(hnp:∀args y,Ψ args=some y->args.length=np)(hr:Room j (A.deeper (envOfC qual scope s.heap.objs.size f cd)))(hkj:k<=j)(hdb:(g==("__debug__" : Str))=false)(hg:Gl (AS (Fly P w) P w K mg base N qual scope f cd A outer s H E) g)(he:starEach (e::es) (AS (Fly P w) P w K mg base N qual scope f cd A outer s H E).env=(false,eval e (AS (Fly P w) P w K mg base N qual scope f cd A outer s H E).env)::starEach es (AS (Fly P w) P w K mg base N qual scope f cd A outer s H E).env)(hpl:(backTo cpos (starEach es (AS (Fly P w) P w K mg base N qual scope f cd A outer s H E).env)).any (·.1)=false)(ha:JA (AS (Fly P w) P w K mg base N qual scope f cd A outer s H E) (e::es) ms):
  JR (AS (Fly P w) P w K mg base N qual scope f cd A outer s H E) XC E (.If (.UnaryOp .Not (.Call (.Name g p) (e::es) [] cpos) npos) st st' pos) (DM Ψ ms):=
 Bg (PY (P7 (P9 (Iw (X:=AS (Fly P w) P w K mg base N qual scope f cd A outer s H E) (E:=E) D hr hkj (Ln fun _ _ _ h=>h) ha hg hdb he hpl) (fun _=>rfl))) (show PSs _ st (fun _ _ _=>False) from fun _ _ _ _ _ _ h=>h.elim) (show PSs _ st' (fun _ _ _=>False) from fun _ _ _ _ _ _ h=>h.elim)) fun D _ _ h=>HM (D:=D) rfl hnp h
end
end J
namespace L2
open PySem PySem.Spec PyProof.Rows
section
variable{X:Cx}
end
end L2
namespace J
open PySem PySem.Spec PyProof.Rows L2
section
variable{K:Frag}{H:Hp}{N:Addr->Prop}
end
section
variable{X:Cx}{a b:Expr}{m m1 m2:ME}{p2 pos:Pos}
end
end J
end
section
namespace L2
open PySem PySem.Spec PyProof.Rows PySem.W
section
variable{P:Program}{w:World}{K:Frag}{mg:Str->Option Value}{base:Heap}
end
end L2
namespace J
open PySem PySem.Spec PyProof.Rows L2 PySem.W
section
variable{P:Program}{w:World}{K:Frag}{mg:Str->Option Value}{base:Heap}
end
section
variable{X:Cx}{scope:Scope}{pins:List (Addr×Obj)}{σ:L2.St}{H H2:Hp}{s:Shared}{Z:Ro}{O:Addr->Prop}{fp:Nat->List Addr}
end
end J
end
section
namespace J
open PySem PySem.Spec PyProof.Rows L2
section
variable{N:Addr->Prop}{H:Hp}{us:List (D×V)}{kvs:List (D×D)}{k d:D}{y:V}
end
section
variable{X:Cx}{a b c e:Expr}{m m1 m2 m3:ME}{p pos pos' p2 apos cpos npos:Pos}{x:Str}
variable{K:Frag}{N:Addr->Prop}{H:Hp}{v:V}
end
section
variable{K:Frag}{Z Z' Z1 Z2:Ro}{σ σ' σ1 σ2:L2.St}{H H' H1 H2:Hp}{O O' N:Addr->Prop}{fp fp' fp1 fp2:Nat->List Addr}{L L1:List Addr}
end
section
variable{X:Cx}{a b c e:Expr}{es:List Expr}{m m1 m2 m3:ME}{ms:MA}{p pos pos' p2 apos cpos q npos:Pos}{x:Str}
end
end J
end
section
namespace L2
open PySem PySem.Spec PyProof.Rows
section
variable{X:Cx}
end
end L2
namespace J
open PySem PySem.Spec PyProof.Rows L2
section
variable{X:Cx}{a b c e:Expr}{es:List Expr}{m m1 m2 m3:ME}{ms:MA}{p pos pos' p2 apos cpos q npos:Pos}{x:Str}
variable{K:Frag}{N:Addr->Prop}{H:Hp}{σ:L2.St}{v:V}{L:List Addr}
end
end J
end
section
namespace L2
open PySem PySem.Spec PyProof.Rows
section
variable{X:Cx}{H:Hp}
open Classical in
noncomputable def eqW(H:Hp)(e:D)(y:Value):Bool:=if ∃d v,RelV v y/\Rep H v d/\eqD d e=true then true else false
end
end L2
namespace J
open PySem PySem.Spec PyProof.Rows L2
section
variable{X:Cx}{a b c e:Expr}{m m1 m2 m3:ME}{p pos pos' p2:Pos}
variable{K:Frag}{N:Addr->Prop}{H:Hp}{v:V}
end
end J
end
section
namespace L2
open PySem PySem.Spec PyProof.Rows
theorem Inv.nopin{X:Cx}{pins:List (Addr×Obj)}{σ:St}{H:Hp}{s:Shared}(I:Inv X pins σ H s):Inv X [] σ H s:=
 ⟨I.ok,I.os,I.bare,I.base,I.loc,I.cell,I.free,I.freeC,fun p hp=>I.pin p (by rw[List.append_nil] at hp; exact List.mem_append_left _ hp),I.hok,I.len⟩
end L2
namespace J
open PySem PySem.Spec PyProof.Rows L2 PySem.W
section
variable{X:Cx}{XC:Str->Addr}{E:XK}{K:Frag}{σ:L2.St}{H:Hp}{D:Ends}
noncomputable def O2(c:MT)(r s:MR):MR:=fun Z=>(c Z).bind fun p=>if p.1 then r p.2 else s p.2
theorem Pe{g:Str}{k j np:Nat}{ps:List Str}{Ψ:FnR}{ms:MA}{p cpos pos:Pos}{e:Expr}{es:List Expr}(D:Def X.prog X.w X.K X.mg X.base (Fly X.prog X.w) k g ps (spR X.K XC Ψ np))(hnp:∀args y,Ψ args=some y->args.length=np)(hr:Room j X.A)(hkj:k<=j)(hx:Passes (Fly X.prog X.w) X E)(hs:swapsWith (.Call (.Name g p) (e::es) [] cpos) none pos.line X.env=pure false)(hdb:(g==("__debug__" : Str))=false)(hg:Gl X g)(he:starEach (e::es) X.env=(false,eval e X.env)::starEach es X.env)(hpl:(backTo cpos (starEach es X.env)).any (·.1)=false)(ha:JA X (e::es) ms):
  JR X XC E (.Expr (.Call (.Name g p) (e::es) [] cpos) pos) (DM Ψ ms):=Bg (GG (Iw (E:=E) D hr hkj hx ha hg hdb he hpl) hs) fun _ _ _ h=>HM rfl hnp h
theorem Ri{g:Str}{k j np:Nat}{ps:List Str}{Ψ:FnR}{ms:MA}{p cpos pos:Pos}{e:Expr}{es:List Expr}(D:Def X.prog X.w X.K X.mg X.base (Fly X.prog X.w) k g ps (spR X.K XC Ψ np))(hnp:∀args y,Ψ args=some y->args.length=np)(hr:Room j X.A)(hkj:k<=j)(hx:Passes (Fly X.prog X.w) X E)(hdb:(g==("__debug__" : Str))=false)(hg:Gl X g)(he:starEach (e::es) X.env=(false,eval e X.env)::starEach es X.env)(hpl:(backTo cpos (starEach es X.env)).any (·.1)=false)(ha:JA X (e::es) ms):
  JR X XC E (.Return (some (.Call (.Name g p) (e::es) [] cpos)) pos) (DM Ψ ms):=Bg (P0 (Iw (E:=E) D hr hkj hx ha hg hdb he hpl)) fun D _ _ h=>HM (D:=D) rfl hnp h
end
noncomputable def E4(np nn:Nat)(b:MS)(rr:MR):Fn:=fun as=>if Bo as=true/\as.length=np then (match rr (as.map some++List.replicate (nn-np) none) with
 | some x=>some (.fz (.str x),as.map (·.2))
 | none=>fnM np nn b as) else none
theorem JD:∀{as:List (Own×A)},Bo as=true->∀{i:Nat} {st:Own} {a:A},as[i]? = some (st,a)->st=.own/\∃d,a=.fz d:=by
 intro as;induction as with
 | nil=>intro _ i st a e; simp at e
 | cons p as ih =>
  intro h i st a e;obtain⟨st0,a0⟩:=p;cases st0 with
  | own =>
   cases a0 with
   | fz d =>
    cases i with
    | zero=>simp at e; obtain⟨rfl,rfl⟩:=e; exact⟨rfl,d,rfl⟩
    | succ i=>exact ih (by simpa[Bo] using h) (by simpa using e)
   | _=>simp[Bo] at h
  | _=>cases a0<;>simp[Bo] at h
theorem Ir:∀{as:List (Own×A)},Bo as=true->EZ as (as.map (·.2))=List.replicate as.length none:=by
 intro as;induction as with
 | nil=>intro _; rfl
 | cons p as ih =>
  intro h;obtain⟨st0,a0⟩:=p;cases st0 with
  | own =>
   cases a0 with
   | fz d =>
    have:=ih (by simpa[Bo] using h);simp[EZ,this,List.replicate_succ]
   | _=>simp[Bo] at h
  | _=>cases a0<;>simp[Bo] at h
section
variable{P:Program}{w:World}{K:Frag}{mg:Str->Option Value}{base:Heap}
theorem Lk{k kw i:Nat}{f HE:Addr}{fd:FuncData}{st:Stmt}{x n:Str}{N ps:List Str}{tb rest:List Stmt}{b r:MS}{rr:MR}{Φw:Str->Fn}{XC:Str->Addr}{p7 p8 p9 p10 p11 p12 p13:Pos}(words:List Str)(F:Fun K x x st f fd)(S:FnScope N ps (Ar st))(hbody:BJ st=.Try tb [.ExceptHandler (some (.Name "HandError" p7)) (some n) [.Return (some (.Call (.Name "_law_word" p8) [.Name n p9] [] p10)) p11] p12] [] [] p13::rest)(hi:N[i]? = some n)(hsn:(Ar st).names.lookup n=some .local)(hsH:(Ar st).names.lookup ("HandError" : Str)=some .globalImplicit)(hsw:(Ar st).names.lookup ("_law_word" : Str)=some .globalImplicit)(hdn:(n==("__debug__" : Str))=false)(hcn:(n==("__classdict__" : Str))=false)(hHE:mg "HandError" = some (.ref HE))(hb:∀(cdv:Value) (A:Around) (outer:List Env) (s:Shared) (H:Hp) (E:XK),Room k (A.deeper (envOfC x (Ar st) s.heap.objs.size f cdv))->JSs (AS CX0 P w K mg base N x (Ar st) f cdv A outer s H E).nox tb b)(hrest:∀(cdv:Value) (A:Around) (outer:List Env) (s:Shared) (H:Hp) (E:XK),Room k (A.deeper (envOfC x (Ar st) s.heap.objs.size f cdv))->JSs (AS CX0 P w K mg base N x (Ar st) f cdv A outer s H E).nox rest r)(hR:∀(cdv:Value) (A:Around) (outer:List Env) (s:Shared) (H:Hp) (E E':XK) (xe:Value->Shared->Prop),Room k (A.deeper (envOfC x (Ar st) s.heap.objs.size f cdv))->Passes (Fly P w) ((AS CX0 P w K mg base N x (Ar st) f cdv A outer s H E).wish xe) E'->JRs ((AS CX0 P w K mg base N x (Ar st) f cdv A outer s H E).wish xe) XC E' tb rr)(W:∀z∈words,DefM P w K mg base CX0 kw "_law_word" ["_law_e"] (spJ K (Φw z) 1))(hw1:∀z,∀args y,Φw z args=some y->args.length=1)(hΨ:∀Z z,rr Z=some z->z∈words)(hz:∀z∈words,Above base (XC z) HE/\z.length<=sizeLine/\∀a o,o.cls=.ref (XC z) -> Φw z [(.lent,.opq a o)]=some (.fz (.str z),[.opq a o]))(hkw:kw<=k):
  FnOk P w K mg base CX0 (k+1) f fd ps (spJ K (E4 ps.length N.length (Az b r) rr) ps.length):=by
 have F1:FnOk P w K mg base CX0 (k+1) f fd ps (spJ K (fnM ps.length N.length (Az b r)) ps.length):=by
  refine Bv F S fun cdv A outer s H E hr=>?_;rw[hbody];exact Aj (NV (hb cdv A outer s H E hr)) (hrest cdv A outer s H E hr)
 refine⟨fun vs H Q E h=>?_,fun A outer s H args us vs Q E hr e0 hbi rv h=>?_⟩
 .obtain⟨_,_,_,h,_⟩:=h
  exact h
 obtain⟨as,O,fp,hl,rl,a,as',ha,kont⟩:=h;unfold E4 at ha;split at ha
 .rename_i hp
  obtain⟨hp,_⟩:=hp;have la:as.length=ps.length:=by
   have:=rl.len;simp only[List.length_map] at this;rw[this]; exact hl
  split at ha
  .rename_i z hzz
   cases ha;have hzm:=hΨ _ _ hzz;obtain⟨hab,hzl,hword⟩:=hz z hzm;have fpn:∀i,fp i=[]:=fun i=>by
    cases e:as[i]? with
    | none=>exact rl.out i fun st a e2=>by rw[List.getElem?_map,e] at e2; cases e2
    | some p =>
     obtain⟨st0,a0⟩:=p;obtain⟨_,d,rfl⟩:=JD hp e;obtain⟨v,_,q⟩:=rl.slot i st0 (.fz d) (by rw[List.getElem?_map,e]; rfl);rw[AA] at q;exact q.1
   have fin:∀H',Ew H H'->∀v,AA K (fun _=>False) H' v (.fz (.str z)) []->Q v H':=fun H' sm v q=>by
    refine kont v H' ⟨[],fun _=>[],⟨⟨by rw[Ir hp,List.length_replicate,List.length_map,la,hl],fun i st a e=>?_,fun _ _=>rfl,fun _=>List.nodup_nil,fun i j p h=>by simp at h,fun i p h=>by simp at h,fun p h=>?_⟩,List.nodup_nil,fun p h=>by simp at h,fun p h=>?_,fun b o e _=>sm b o e,rfl,fun j st a e n=>?_⟩,?_⟩
    .rw[Ir hp,List.getElem?_replicate] at e
     split at e<;>cases e
    .have hO:O p:=by
      rcases h with ⟨i,h⟩|h|h
      .simp at h
      .exact h
      .simp at h
     have:=rl.al p (.inr hO);cases q:H p with
     | none=>exact absurd q this
     | some o=>rw[sm p o q]; simp
    .rcases h with h|⟨i,h⟩<;>simp at h
    .rw[List.getElem?_map] at e
     cases e2:as[j]? with
     | none=>rw[e2] at e; cases e
     | some p =>
      obtain⟨st0,a0⟩:=p;rw[e2] at e;cases e;exact absurd (JD hp e2).1 n
    .rw[AA] at q |-
     obtain⟨_,q⟩:=q;cases q with
     | str _ _=>exact⟨rfl,.str z hzl⟩
   obtain⟨oc,od,kV,doc,pm,an,cdv,ct,osl,rfl,lk,hcd⟩:=F.ex;refine S9 (E:=E) lk hcd S hr e0 (us:=us) hbi rv hl fun s1 hr1 I kp=>?_;rw[hbody];generalize hX:AS CX0 P w K mg base N x (Ar st) f cdv A outer s H E=X at I |-;have hXi:∀{σ:L2.St} {H1:Hp} {pins:List (Addr×Obj)} {s':Shared},Inv X pins σ H1 s'->Inv (AS CX0 P w K mg base N x (Ar st) f cdv A outer s H E) pins σ H1 s':=fun h=>by rw[hX]; exact h
   have tri:wpAny (model P w) (A.deeper (envOfC x (Ar st) s.heap.objs.size f cdv)) (exec (.Try tb [.ExceptHandler (some (.Name "HandError" p7)) (some n) [.Return (some (.Call (.Name "_law_word" p8) [.Name n p9] [] p10)) p11] p12] [] [] p13) (envOfC x (Ar st) s.heap.objs.size f cdv)) (SP X [] { nx:=fun _ _=>False,rt:=Q }) X.xe s1:=by
    subst hX;refine NB (X:=AS CX0 P w K mg base N x (Ar st) f cdv A outer s H E) (σ:=start N vs) (H:=H) ?_;have pas:Passes (Fly P w) ((AS CX0 P w K mg base N x (Ar st) f cdv A outer s H E).wish (LO (AS CX0 P w K mg base N x (Ar st) f cdv A outer s H E) [] { nx:=fun _ _=>False,rt:=Q } [.ExceptHandler (some (.Name "HandError" p7)) (some n) [.Return (some (.Call (.Name "_law_word" p8) [.Name n p9] [] p10)) p11] p12])) (fun c _ H'=>c=.ref (XC z)/\Ew H H'):=by
     intro pins σ H1 s2 ex s' I2 fl;refine Jl (X:=AS CX0 P w K mg base N x (Ar st) f cdv A outer s H E) (E:=fun c _ H'=>c=.ref (XC z)/\Ew H H') rfl rfl rfl rfl rfl (fun σ H1 H2 s3 s4 a C' a0 B I3 F3 I4 he=>?_) σ H1 s2 ex s' I2.unwish.nopin fl;obtain⟨hc,sm⟩:=he;obtain rfl:C'=XC z:=Value.ref.inj hc;have fresh3:s3.heap.get? a=none:=F3.fresh I3.env0;have fresh0:s.heap.get? a=none:=by
      cases q:s.heap.get? a with
      | none=>rfl
      | some o =>
       obtain⟨o',z⟩:=I3.base.there a o q (fun z=>absurd (show a∈([]:List Addr) from z) (by simp));rw[fresh3] at z; cases z
     refine L7 (X:=(AS CX0 P w K mg base N x (Ar st) f cdv A outer s H E)) (i:=i) (HE:=HE) S.nd hi hsn hsn hsH hHE (by decide) hab I3 F3 F3.untracked ?_;intro oe vs5 s5 hcls hd hv2 I5;have I6:=I5.mk2 AR fresh0 (e0.hok.none fresh0);have hlσ : σ.length=N.length:=I3.len;have hiN:i<N.length:=(List.getElem?_eq_some_iff.mp hi).1;have je:JE ((AS CX0 P w K mg base N x (Ar st) f cdv A outer s H E).mk2 a oe) (.Call (.Name "_law_word" p8) [.Name n p9] [] p10) (Au (Φw z) (Aa (Ag i) Ah)):=
      O7 (X:=(AS CX0 P w K mg base N x (Ar st) f cdv A outer s H E).mk2 a oe) (E:=E0) (W z hzm) (hw1 z) rfl rfl rfl rfl rfl (hr1.marked _) hkw (WI hd hv2) (fun _ _ _ _ _ _ _ z=>False.elim z) (by decide) hsw rfl rfl (Ac rfl (Pc i hi (.inl hsn) hdn hcn) Ae)
     have hg:((List.replicate N.length (none:Slot)).set i (some (.own,.opq a oe)))[i]? = some (some (.own,.opq a oe)):=List.getElem?_set_self (by rw[List.length_replicate]; exact hiN);have em:Au (Φw z) (Aa (Ag i) Ah) ((List.replicate N.length none).set i (some (.own,.opq a oe)))=some (.val (.fz (.str z)),(List.replicate N.length none).set i (some (.own,.opq a oe))):=by
      simp only[Au,Aa,Ag,Ah,hg,Option.bind_some,Option.map_some,CI,E9,refs,hword a oe hcls,back,MK];simp
     have cl:=je [] s5 _ _ (fun v H'=>Ew H H'/\Rep H' v (.str z)) I6 ?_
     .refine wpAny_mono cl (fun u s6 q=>?_) fun _ _ z=>z
      obtain⟨v,H6,I7,r7,q7⟩:=q;exact⟨v,_,H6,I7.un2 I3.ok fresh0 (e0.hok.none fresh0),r7,fin H6 q7.1 v (by rw[AA]; exact⟨rfl,q7.2⟩)⟩
     .refine⟨(List.replicate N.length none).set i (some (.own,.opq a oe)),fun _=>False,fun _=>[],⟨by simp[hlσ],fun j st' a' e=>?_,fun _ _=>rfl,fun _=>List.nodup_nil,fun i j p z=>by simp at z,fun i p z=>by simp at z,fun p z=>?_⟩,_,_,em,fun v H' q=>?_⟩
      .by_cases hj:j=i
       .subst hj
        rw[hg] at e;cases e;refine⟨.ref a,List.getElem?_set_self (by rw[hlσ]; exact hiN),?_⟩;rw[AA];exact⟨rfl,rfl,_,AR⟩
       .rw[List.getElem?_set_ne (Ne.symm hj),List.getElem?_replicate] at e
        split at e<;>cases e
      .rcases z with ⟨i,z⟩|z
       .simp at z
       .exact z.elim
      .obtain⟨L,fp',p,rr'⟩:=q
       simp only[RR] at rr';rw[AA] at rr';refine⟨fun b o e=>p.kept b o ?_ (.inl fun⟨i,z⟩=>by simp at z),E5 (fun _ z=>z.elim) rr'.2⟩;have ne:b≠a:=fun z=>by
        rw[z,e0.hok.none fresh0] at e; cases e
       rw[AE ne];exact sm b o e
    have run:=hR cdv A outer s H E (fun c _ H'=>c=.ref (XC z)/\Ew H H') _ hr1 pas [] s1 (start N vs) H { nx:=fun _ _=>False,rt:=fun _ _=>False } (I.wish _) ?_
    .refine wpAny_mono run (fun fl s2 q=>?_) fun _ _ q=>q
     cases fl with
     | next=>obtain⟨_,_,_,q⟩:=q; exact q.elim
     | brk=>obtain⟨_,_,_,q⟩:=q; exact q.elim
     | cont=>obtain⟨_,_,_,q⟩:=q; exact q.elim
     | ret u=>obtain⟨_,_,_,_,_,q⟩:=q; exact q.elim
    .refine⟨_,O,fp,?_,z,hzz,fun H' kk=>⟨rfl,fun b o e=>kk b o e (.inl fun⟨i,y⟩=>by rw[fpn i] at y; simp at y)⟩⟩
     have:=rl.start (N.length-ps.length);unfold L2.start;rw[hl];exact this
   refine wpAny_execs_cons (wpAny_mono tri (fun fl s2 q=>?_) fun _ _ q=>q);cases fl with
   | next=>obtain⟨_,_,_,q⟩:=q; exact q.elim
   | brk=>exact q
   | cont=>exact q
   | ret u=>exact q
  .exact F1.run A outer s H args us vs Q E hr e0 hbi rv ⟨_,O,fp,hl,rl,_,_,ha,kont⟩
 .cases ha
end
end J
end
section
namespace J
open PySem PySem.Spec PyProof.Rows L2
section
variable{X:Cx}{s:Stmt}{m:MS}{K:Frag}{σ:L2.St}{H:Hp}{D:Ends}
end
section
variable{X:Cx}{x:Str}{pos:Pos}{m:ME}
end
end J
namespace J
open PySem PySem.Spec PyProof.Rows L2
theorem Gd{np nn:Nat}{b:MS}{rr:MR}:∀args y,E4 np nn b rr args=some y->args.length=np:=fun args y e=>by
 unfold E4 at e;split at e
 .rename_i hp; exact hp.2
 .cases e
end J
end
section
namespace J
open PySem PySem.Spec PyProof.Rows L2
section
variable{P:Program}{w:World}{K:Frag}{mg:Str->Option Value}{base:Heap}{XC:Str->Addr}
variable{N:List Str}{qual:Str}{scope:Scope}{f:Addr}{cd:Value}{A:Around}{outer:List Env}{s:Shared}{H:Hp}{E:XK}
end
section
variable{X:Cx}{XC:Str->Addr}{E:XK}
end
end J
end
section
namespace L2
open PySem PySem.Spec PyProof.Rows
section
variable{X:Cx}
end
end L2
namespace J
open PySem PySem.Spec PyProof.Rows L2
section
variable{X:Cx}{a:Expr}{m:ME}{p pos:Pos}{K:Frag}{H:Hp}{σ:L2.St}
end
end J
end
section
namespace L2
open PySem PySem.Spec PyProof.Rows
section
variable{X:Cx}
end
end L2
namespace J
open PySem PySem.Spec PyProof.Rows L2
section
variable{K:Frag}{N:Addr->Prop}{H H1:Hp}{σ:L2.St}{O:Addr->Prop}{Z Z2 Z3:Ro}{fp fp2:Nat->List Addr}
end
section
variable{X:Cx}{a b c e:Expr}{es:List Expr}{m m1 m2 m3:ME}{ms:MA}{p pos pos' pos2 p2 apos cpos q npos npos2 tpos:Pos}{x:Str}{kt:Nat}
end
end J
end
section
namespace L2
open PySem PySem.Spec PyProof.Rows
theorem apart{n a b:Addr}(ha:a<n)(hb:b<n):ZipApart (n+4) (n+2) (n+3) n (n+1) a b:=by
 refine⟨?_,?_,?_,?_,?_,?_,?_,?_,?_,?_,?_,?_,?_,?_,?_,?_,?_,?_⟩<;>(intro e; simp only[Addr] at *; omega)
section
variable{X:Cx}
end
end L2
namespace J
open PySem PySem.Spec PyProof.Rows L2
section
variable{X:Cx}{a b c e:Expr}{es:List Expr}{m m1 m2 m3:ME}{ms:MA}{p pos pos' p2 apos cpos q npos:Pos}{x:Str}
variable{K:Frag}{N:Addr->Prop}{H:Hp}{σ:L2.St}{v:V}{L:List Addr}
end
end J
end
section
namespace Sp
open PySem Sg
end Sp
end
section
namespace Sp
open PySem PySem.Spec PyProof.Rows L2 Sg
section
variable{P:Program}{w:World}{H:Hp}{A:Around}{E:Value->Shared->Prop}
end
section
variable{P:Program}{w:World}{H:Hp}{A:Around}{E:Value->Shared->Prop}{s:Shared}
end
section
variable{P:Program}{w:World}{H:Hp}{A:Around}{E:Value->Shared->Prop}{s:Shared}
end
section
variable{P:Program}{w:World}{H:Hp}{A:Around}{E:Value->Shared->Prop}{s:Shared}
end
end Sp
end
section
namespace L2
open PySem PySem.Spec PyProof.Rows Sg Sp
section
variable{X:Cx}
end
end L2
namespace J
open PySem PySem.Spec PyProof.Rows L2 Sg Sp
section
variable{X:Cx}{a b c e:Expr}{es:List Expr}{m m1 m2 m3:ME}{ms:MA}{p pos pos' p2 apos cpos q npos:Pos}{x:Str}
variable{K:Frag}{N:Addr->Prop}{H:Hp}{σ:L2.St}{v:V}{L:List Addr}
end
end J
end
section
namespace J
open PySem PySem.Spec PyProof.Rows L2
section
variable{K:Frag}{Z Z' Z1 Z2:Ro}{σ σ' σ1 σ2:L2.St}{H H' H1 H2:Hp}{O O' N:Addr->Prop}{fp fp' fp1 fp2:Nat->List Addr}{L L1:List Addr}
end
end J
end
section
namespace L2
open PySem
end L2
namespace J
open PySem L2
end J
end
section
namespace J
open PySem PySem.Spec PyProof.Rows L2
section
variable{X:Cx}
end
section
variable{K:Frag}{σ:L2.St}{H:Hp}
end
section
variable{X:Cx}{p pos apos cpos npos npos2:Pos}{x y:Str}
end
end J
end
section
namespace L2
open PySem PySem.Spec PyProof.Rows PySem.W
section
variable{M:Model}{A:Around}{E:Value->Shared->Prop}{s:Shared}
end
section
variable{P:Program}{w:World}{K:Frag}{mg:Str->Option Value}{base:Heap}{N:List Str}{qual:Str}{scope:Scope}{f:Addr}{cd:Value}{A:Around}{outer:List Env}{s:Shared}{H:Hp}{E:XK}
end
end L2
namespace J
open PySem PySem.Spec PyProof.Rows L2 PySem.W
section
variable{P:Program}{w:World}{K:Frag}{mg:Str->Option Value}{base:Heap}{XC:Str->Addr}{N:List Str}{qual:Str}{scope:Scope}{f:Addr}{cd:Value}{A:Around}{outer:List Env}{s:Shared}{H:Hp}{E:XK}
end
end J
end
section
namespace L2
open PySem PySem.Spec PyProof.Rows
section
variable{X:Cx}
end
end L2
namespace J
open PySem PySem.Spec PyProof.Rows L2
section
variable{X:Cx}{a b c e:Expr}{m1 m2 m3:ME}{pos p2:Pos}
end
end J
end
section
namespace L2
open PySem PySem.Spec PyProof.Rows
section
variable{P:Program}{w:World}{A:Around}{E:Value->Shared->Prop}{s:Shared}{H:Hp}{a:Addr}{k:D}{u r:Value}{kvs:List (D×V)}
end
section
variable{X:Cx}{pins:List (Addr×Obj)}{σ:St}{H:Hp}{s:Shared}{a:Addr}{y d:V}{u r:Value}{A:Around}{E:Value->Shared->Prop}{kvs:List (D×V)}{k:D}
end
section
variable{X:Cx}{o e f:Expr}{apos cpos pos:Pos}{td ty tx:TE}
end
end L2
namespace J
open PySem PySem.Spec PyProof.Rows L2
section
variable{K:Frag}{Z Z' Z1 Z2:Ro}{σ σ' σ1 σ2:L2.St}{H H' H1 H2:Hp}{O O' N:Addr->Prop}{fp fp' fp1 fp2:Nat->List Addr}{L L1:List Addr}
end
section
variable{X:Cx}{a b c e:Expr}{es:List Expr}{m m1 m2 m3:ME}{ms:MA}{p pos pos' p2 apos cpos q npos:Pos}{x:Str}
end
end J
end
section
namespace J
open PySem PySem.Spec PyProof.Rows L2
section
variable{K:Frag}{Z Z' Z1 Z2:Ro}{σ σ' σ1 σ2:L2.St}{H H' H1 H2:Hp}{O O' N:Addr->Prop}{fp fp' fp1 fp2:Nat->List Addr}{L L1:List Addr}
end
section
variable{X:Cx}{a b c e:Expr}{m m1 m2 m3:ME}{p pos pos' p2 apos cpos q npos jpos kpos lpos spos:Pos}{x y z u:Str}
end
end J
end
section
namespace L2
open PySem PySem.Spec PyProof.Rows
section
variable{X:Cx}
end
end L2
namespace J
open PySem PySem.Spec PyProof.Rows L2
section
variable{X:Cx}{a b c e:Expr}{m m1 m2 m3:ME}{p pos pos' p2:Pos}{x:Str}
variable{K:Frag}{N:Addr->Prop}{H:Hp}
end
end J
end
section
namespace L2
open PySem PySem.Spec PyProof.Rows
section
variable{X:Cx}
end
end L2
namespace J
open PySem PySem.Spec PyProof.Rows L2
section
variable{X:Cx}{x:Str}{pos:Pos}{m:ME}
end
end J
end
section
namespace J
open PySem PySem.Spec PyProof.Rows L2
section
variable{K:Frag}{σ:L2.St}{H:Hp}{D:Ends}
end
section
variable{X:Cx}{a b:Expr}{m1 m2:ME}{x y:Str}{px py pt' pos:Pos}
end
end J
end
section
namespace L2
open PySem PySem.Spec PyProof.Rows
section
variable{X:Cx}
end
end L2
namespace J
open PySem PySem.Spec PyProof.Rows L2
section
variable{X:Cx}{x:Str}{pos:Pos}{m:ME}
end
end J
end
section
namespace L2
open PySem PySem.Spec PyProof.Rows
section
variable{P:Program}{w:World}{A:Around}{E:Value->Shared->Prop}{s:Shared}{H:Hp}{a:Addr}{kvs:List (D×V)}
end
section
variable{X:Cx}
end
end L2
namespace J
open PySem PySem.Spec PyProof.Rows L2
section
variable{K:Frag}
end
end J
end
section
namespace L2
open PySem PySem.Spec PyProof.Rows
section
variable{P:Program}{w:World}{A:Around}{E:Value->Shared->Prop}{s:Shared}
end
section
variable{X:Cx}
end
end L2
namespace J
open PySem PySem.Spec PyProof.Rows L2
section
variable{X:Cx}{a b c e:Expr}{es:List Expr}{m m1 m2 m3:ME}{ms:MA}{p pos pos' p2 apos cpos q npos:Pos}{x:Str}
variable{K:Frag}{N:Addr->Prop}{H:Hp}{σ:L2.St}{v:V}{L:List Addr}
end
end J
end
section
namespace L2
open PySem PySem.Spec PyProof.Rows
section
variable{P:Program}{w:World}{A:Around}{E:Value->Shared->Prop}{s:Shared}
end
end L2
namespace L2
open PySem PySem.Spec PyProof.Rows
section
variable{P:Program}{w:World}{A:Around}{R:Result->Shared->Prop}{I:Addr}{fp wr:List Addr}{n:Nat}{T:Nat->Value->Prop}{St:Nat->Heap->Prop}
noncomputable def Kp(h0 h:Heap):Prop:=∀b o,h0.get? b=some o->h.get? b=some o
end
section
variable{P:Program}{w:World}{A:Around}{E:Value->Shared->Prop}{s:Shared}
end
end L2
namespace L2
open PySem PySem.Spec PyProof.Rows
section
variable{X:Cx}
end
end L2
namespace J
open PySem PySem.Spec PyProof.Rows L2
section
variable{K:Frag}{N:Addr->Prop}{H:Hp}{v:V}
end
end J
end
section
namespace J
open PySem PySem.Spec PyProof.Rows L2
section
variable{X:Cx}{e:Expr}{m:ME}{K:Frag}{σ:L2.St}{H:Hp}
noncomputable def Ky(m:ME):MT:=fun Z=>(m Z).bind fun p=>(peek p.2 p.1).bind fun a=>(DX a).map fun ds=>(!ds.isEmpty,p.2)
theorem Ny{Q:Bool->Hp->Prop}(h:tT K (Ky m) σ H Q):tE K m σ H fun x H1=>∃k,SU K x H1 k/\Q k H1:=by
 obtain⟨Z,O,fp,rl,x,Z',e,k⟩:=h;simp only[Ky,bind_eq_some_iff,map_eq_some_iff] at e;obtain⟨⟨r,Z1⟩,e1,a,e2,ds,e3,e4⟩:=e;dsimp only at e2 e3 e4;cases e4;refine⟨Z,O,fp,rl,_,_,e1,fun v H1 yy=>?_⟩;obtain⟨L,fp1,p,q⟩:=yy;obtain⟨L',q'⟩:=p.rel.peek q e2;obtain⟨a,vs,rfl,ha,hz,r⟩:=Ei q' e3;refine⟨!ds.isEmpty,.inl ⟨vs,.inl (.inl ha),?_⟩,k fp1 H1 p.drop0⟩;have:=r.len;cases vs<;>cases ds<;>simp at this |-
theorem Rn(he:∀whole,isTrue e X.env whole=(do let v <- whole; standAt e.pos; holding [v] (truthy v)))(h:JE X e m):JT X e (Ky m):=FC (P8 h he) fun _ _ _ h=>Ny h
end
section
variable{X:Cx}{e:Expr}{m:ME}{K:Frag}{σ:L2.St}{H:Hp}{N:Addr->Prop}{L:List Addr}{pos:Pos}
end
structure GTup (K:Frag) (mg:Str->Option Value) (x:Str) (zs:List Str):Prop where
 at_:∃p,mg x=some (.ref p)/\∃(o:Obj) (its:Array Value) (n:Nat),K.lookup p=some o/\o.cls=.type "tuple" /\ o.data=.seq its n/\its.size<=sizeLine/\Vals (zs.map V.str) its.toList
 sz:∀z∈zs,z.length<=sizeLine
structure GDct (K:Frag) (w:World) (mg:Str->Option Value) (x:Str) (kvs:List (Str×Int)):Prop where
 at_:∃p,mg x=some (.ref p)/\(p==sysModules)=false/\∃(o:Obj) (es:Array DictEntry) (ep:Nat) (xs:List (D×Value×Value)),K.lookup p=some o/\o.ExactDict/\o.data=.dict es ep/\es.toList=xs.map (GV w)/\Paired (fun(k:Str×Int) (q:D×Value×Value)=>q.1=.str k.1/\(∃t,q.2.1=.str k.1 t)/\∃t,q.2.2=.int k.2 t) kvs xs/\(kvs.map (·.1)).Nodup/\kvs.length<=100/\∀k∈kvs,k.1.length<=sizeLine
section
variable{X:Cx}{a b c e:Expr}{es:List Expr}{m m1 m2 m3:ME}{K:Frag}{σ:L2.St}{H:Hp}{x:Str}{p p2 pos pos' apos cpos npos:Pos}
noncomputable def inG(zs:List Str)(neg:Bool):List A->Option A:=on1 fun a=>(fzU a).bind fun d=>if BX d then some (.fz (.bl (if neg then !inD d (zs.map D.str) else inD d (zs.map D.str)))) else none
theorem Lw(N:Addr->Prop)(H:Hp):∀(zs:List Str),(∀z∈zs,z.length<=sizeLine)->Ay N H (zs.map V.str) (zs.map D.str)
 | [],_=>trivial
 | z::zs,h=>⟨.str z (h z (by simp)),Lw N H zs fun y hy=>h y (by simp[hy])⟩
theorem NM(zs:List Str):(zs.map D.str).all BX=true:=by simp[List.all_eq_true,BX]
theorem T3{zs:List Str}{neg:Bool}{p:Addr}(hz:∀z∈zs,z.length<=sizeLine)(hp:∀H,SqT K H p (zs.map V.str)):OpN K (inG zs neg) (r1L fun x H Q=>rIn K neg x (.ref p) H Q):=by
 intro N H xs as b Q hs e k
 replace e:=Ek e
 obtain⟨a,rfl,e⟩:=e;simp only[bind_eq_some_iff] at e;obtain⟨d,ed,e2⟩:=e;cases G2 ed;split at e2
 .rename_i hf
  cases e2;obtain⟨x,L1,rfl,h1⟩:=Dr hs;obtain⟨_,h1⟩:=D9.mp h1;obtain⟨f1,f2⟩:=Ma h1 hf (Lw _ H zs hz) (NM zs);refine⟨_,rfl,p,_,rfl,.inr (hp H),J8 h1 hf,f1,?_⟩;rw[f2];exact k _ _ CQ
 .cases e2
theorem Rm{zs:List Str}(G:GTup X.K X.mg x zs)(hg:Gl X x)(hd:(x==("__debug__" : Str))=false)(hm:behindInMarks .NotIn (.Name x p)=false)(ha:JE X a m1):JT X (.Compare a [.NotIn] [.Name x p] pos) (AX (opM (inG zs true) (m1L m1))):=by
 obtain⟨q,e,o,its,n,g1,g2,g3,g4,g5⟩:=G.at_;refine FC (Nm GC ha (GF (v:=.ref q) hg e rfl hd) hm) fun σ H Q h=>?_;exact tE.mono (one (T3 G.sz fun H=>.inr ⟨o,its,n,g1,g2,g3,g4,g5⟩) (IT h)) fun x H1 h1=>h1
noncomputable def NC:List A->Option A:=on2 fun x q2=>(BF q2).bind fun j=>(fzU x).bind fun d=>match d with
 | .tup ds=>if ds≠[]/\0<j then some (.fz (.tup (cutD ds (some j) none))) else none
 | .non | .bl _ | .int _ | .str _ | .lst _=>none
theorem Pb(ha:JE X a m1)(hb:JE X b m2):JE X (.Subscript a (.Slice (some b) none none p2) pos) (opM NC (m2L m1 m2)):=by
 refine AO (PM UY ha (RN hb) RM) fun σ H Q h=>?_;have ok:OpN X.K NC (r2L fun x y H Q=>∃j,y=.int j/\V8 X.K x (some j) none H Q):=by
  intro N H xs as b Q hs e k
  replace e:=Cy e
  obtain⟨x,q2,rfl,e⟩:=e
  replace e:=bind_eq_some_iff.mp e
  obtain⟨j,eq2,e⟩:=e;cases A4 eq2;clear eq2;simp only[bind_eq_some_iff] at e;obtain⟨d,ed,e⟩:=e;cases G2 ed;cases d with
  | tup ds =>
   dsimp only at e;split at e
   .rename_i hj
    cases e;obtain⟨x,y,L1,L2,rfl,h1,h2⟩:=Bq hs;cases Bc h2;obtain⟨_,h1⟩:=D9.mp h1;cases h1 with
    | @tup p vs _ hp hz hl hr =>
     refine⟨_,_,rfl,j,rfl,p,vs,rfl,.inl (.inl hp),?_,fun l hl2=>k _ _ (RG hl2 (Nat.le_trans (Hl _ _ _) hz) (RY (Ay.mk hl hr)))⟩;rintro ⟨e1,_⟩;have hlen:0<vs.length:=by
      rw[hl];exact List.length_pos_iff.mpr hj.1
     revert e1
     show HT.sIx vs.length 0 (some j)=0->False;unfold HT.sIx;intro e1;split at e1
     .lia
     .lia
   .cases e
  | _=>cases e
 exact tE.mono (two ok h) fun x H1 h1=>tE.mono h1 fun y H2 ⟨j,e,q⟩=>⟨j,e,q⟩
end
theorem Mm(l:Addr)(items:Array Value)(n:Nat)(b:Addr)(items2:Array Value)(n2:Nat)(dd:Option Addr)(sl:Array (Option Value))(hs0:¬(!items.isEmpty&&Builtin.List.listTooLong (items.size+items2.size))=true)(hs1:items.size<=sizeLine)(hs2:items.size+items2.size<=sizeLine+1):
  Meets (Builtin.«list.extend» ⟨[.ref l,.ref b],[]⟩) (fun _ R s=>s.heap.get? l=some { cls:=.type "list",dict:=none,data:=.seq items n,slots:=#[] }/\s.heap.get? b=some { cls:=.type "tuple",dict:=dd,data:=.seq items2 n2,slots:=sl }/\R (.ok (.ret Value.none)) { s with heap:=s.heap.update l (Obj.mapSeq fun x=>x++items2),toks:=s.toks }):=
 .of_wp fun prog w A R s h=>by
  obtain⟨hp,g,d,tk,os⟩:=s; obtain⟨hl,hb,h⟩:=h; have f1:=PySem.AutoSeq1.idx_int; have f2:=PySem.AutoSeq1.sub_tuple_tuple; have f3:=PySem.AutoSeq1.sub_list_list; have f4:=PySem.AutoSeq1.sub_tuple_list; have f5:=PySem.AutoSeq1.sub_list_tuple;have hz':(items++items2).size<=sizeLine+1:=by rw[Array.size_append]; exact hs2
  wp_walk using(wpAny_updateSeq hl rfl (hz:=hs1) (_hz':=hz')),PySem.AutoSeq1.wpAny_loadPart' hl,PySem.AutoSeq1.wpAny_loadPart' hb; exact⟨_,rfl,h⟩
noncomputable def Lr:V->List V->Hp->VK->Prop:=fun x vs H Q=>∃l b xs zs,x=.ref l/\vs=[.ref b]/\H l=some (.lst xs)/\H b=some (.tup zs)/\xs.length+zs.length<=sizeLine/\Q .non (upd H l (.lst (xs++zs)))
section
variable{K:Frag}{σ:L2.St}{H:Hp}{X:Cx}{a b c e:Expr}{es:List Expr}{m m1 m2 m3:ME}{x y:Str}{p p2 pos pos' apos cpos npos npos':Pos}
theorem Mq:MtM X "list.extend" Lr:=by
 intro pins s σ H x vs v us Q I rx rv h;obtain⟨l,b,xs,zs,rfl,rfl,hH,hB,hz,q⟩:=h;cases rx;obtain⟨u,rfl,ru⟩:=rv.one;cases ru;obtain⟨z,its,n,r,hl,e⟩:=I.lstM hH;obtain⟨its2,r2,ht,_⟩:=I.tuple (.inl (.inl hB));obtain⟨o,ho,hc,n2,hd⟩:=ht;obtain⟨cls,dd,data,sl⟩:=o;dsimp only at hc hd;subst hc hd;have hl2:=r2.length;have hsz:its.toArray.size+its2.toArray.size<=sizeLine:=by rw[List.size_toArray,List.size_toArray]; lia
 have hlong:¬(!its.toArray.isEmpty&&Builtin.List.listTooLong (its.toArray.size+its2.toArray.size))=true:=by
  rw[Pt hsz,Bool.and_false];exact Bool.false_ne_true
 refine call_meets F.slot_list_extend ⟨_,e,rfl⟩ F.entry_list_extend (F.args_list_extend_2 _ _)
  (Mm l its.toArray n b its2.toArray n2 dd sl hlong (by rw[List.size_toArray]; lia) (by lia)) ⟨e,ho,?_⟩
 refine⟨.non,_,I.lset (its':=its++its2) hH e (by simp) (r.append r2) ?_,rfl,q⟩;rw[List.length_append];lia
noncomputable def Vi:A->Option (List D)
 | .fz (.tup ds)=>some ds
 | .fz .non | .fz (.bl _) | .fz (.int _) | .fz (.str _) | .fz (.lst _) | .tup _ | .lst _ | .scr _ | .dic _ | .dct _ | .opq _ _=>none
theorem Sq{a:A}{ds:List D}(h:Vi a=some ds):a=.fz (.tup ds):=by
 cases a with
 | fz d=>cases d with
  | tup es=>cases h; rfl
  | _=>cases h
 | _=>cases h
noncomputable def LW(i:Nat)(m:ME):MS:=fun Z=>(CV Z i).bind fun _=>(m Z).bind fun p=>(peek p.2 p.1).bind fun b=>(Vi b).bind fun ds=>(CV p.2 i).bind fun h=>if h.2.length+ds.length<=LIM then some (.next (p.2.set i (some (h.1,.lst (h.2++ds.map A.fz))))) else none
theorem Sl{i:Nat}{m:ME}{D:Ends}(h:tS K (LW i m) D σ H):LC (tBM K "list" Lr (Ox i) (B7 (tE K m) GN)) D σ H:=by
 obtain⟨Z,O,fp,rl,fl,e,w⟩:=h;simp only[LW,bind_eq_some_iff] at e;obtain⟨⟨st0,as0⟩,e0,⟨r,Z1⟩,e1,bb,e2,ds,e2',⟨st,as⟩,e3,e4⟩:=e;split at e4
 .rename_i hz
  cases e4;obtain⟨g0,_⟩:=ER e0;obtain⟨v,hv,q0⟩:=rl.slot i _ _ g0;rw[AA] at q0;obtain⟨p0,vs0,_,rfl,_,hp0,_,_⟩:=q0;refine⟨_,hv,.inl ⟨rfl,vs0,.inl (.inl hp0)⟩,Z,O,fp,rl,r,Z1,e1,fun y H1 yy=>?_⟩
  obtain⟨L,fp1,p,q⟩:=yy;obtain⟨Lb,qb⟩:=p.rel.peek q e2;cases Sq e2';obtain⟨_,qb⟩:=D9.mp qb;obtain⟨pb,ws,rfl,hpb,qd⟩:∃pb ws,y=.ref pb/\H1 pb=some (.tup ws)/\Ay _ H1 ws ds:=by
   cases qb with
   | tup h hz hl hr=>exact⟨_,_,rfl,h,Ay.mk hl hr⟩
  have p2:=p.drop0;obtain⟨g,gst⟩:=ER e3;obtain⟨v',hv',qi⟩:=p2.rel.slot i _ _ g;rw[hv] at hv'; cases hv';rw[AA] at qi;obtain⟨pa,vs,L',e5,e6,hp,hz',hs⟩:=qi;cases e5;have hlen:=hs.len;have hl2:vs.length+ws.length<=sizeLine:=by rw[hlen,qd.len]; exact hz
  refine⟨p0,pb,vs,ws,rfl,rfl,hp,hpb,hl2,w _ _ _ (p2.mut (a':=.lst (as++ds.map A.fz)) (L':=p0::L') g gst hv (by rw[e6]; simp) hp (fun b hb=>.inl (by rw[e6]; exact hb)) (by have:=p2.rel.nd i; rw[e6] at this; exact this) ?_)⟩;rw[AA];have k:=DF (o:=.lst (vs++ws)) hp;have pn:NN fp1 (ad O []) p0:=.inl ⟨i,by rw[e6]; simp⟩;have n1:=p2.rel.nd i;rw[e6] at n1;have h1:Ap K (NN fp1 (ad O [])) (upd H1 p0 (.lst (vs++ws))) vs as L':=hs.tr (M:=fun b=>b=p0) (fun b z=>z ▸ pn) k (fun b z=>.inl z) fun b hb z=>by
   subst z;exact(List.nodup_cons.mp n1).1 hb
  have h2:Ay (NN fp1 (ad O [])) (upd H1 p0 (.lst (vs++ws))) ws ds:=(IW (fun b z=>z.imp id fun y=>y.imp id fun y=>by simp at y) qd).tr (M:=fun b=>b=p0) (fun b z=>z ▸ pn) k fun b z=>.inl z;refine⟨p0,vs++ws,L',rfl,rfl,AR,by rw[List.length_append]; exact hl2,?_⟩;have:=Ap.app h1 (Ap.of h2);rw[List.append_nil] at this;exact this
 .cases e4
theorem Rl(i:Nat)(hN:X.N[i]? = some x)(hv:Vis X.env.scope x)(hd:(x==("__debug__" : Str))=false)(hcd:(x==("__classdict__" : Str))=false)(hbase:attributeBase (.Name x npos) "extend" X.env (eval (.Name x npos) X.env)=eval (.Name x npos) X.env)(hline:(apos.endLine==cpos.line)=true)(hs:starEach [e] X.env=[(false,eval e X.env)])(hw:swapsWith (.Call (.Attribute (.Name x npos) "extend" apos) [e] [] cpos) none pos.line X.env=pure false)(he:JE X e m):JS X (.Expr (.Call (.Attribute (.Name x npos) "extend" apos) [e] [] cpos) pos) (LW i m):=
 Bg (GG (PJ PySem.F.plainAttrs_list PySem.F.slot_list_extend PySem.F.type_list_extend Mq (Iz hN hv hd hcd) (De he Fq hs) hbase (by rw[hs]; rfl) hline hs rfl) hw) fun _ _ _ h=>Sl h
noncomputable def N0(m:ME):ME:=fun Z=>(Ky m Z).map fun p=>(.val (.fz (.bl (!p.1))),p.2)
theorem Rh(h:JE X e m):JE X (.UnaryOp .Not e pos) (N0 m):=by
 intro pins s σ H Q I hh;obtain⟨Z,O,fp,rl,x,Z',e1,k⟩:=hh;simp only[N0,map_eq_some_iff] at e1;obtain⟨⟨c,Z1⟩,e2,e3⟩:=e1;cases e3;have ht:tT X.K (Ky m) σ H fun c' H1=>Q (.bl (!c')) H1:=⟨Z,O,fp,rl,_,_,e2,fun fp1 H1 p=>k _ _ ⟨[],fp1,p,Ly (.bl _)⟩⟩;refine UnaryOp_ (thn (h pins s σ H _ I (Ny ht)) fun v s1 yy=>?_);obtain⟨x,H1,I1,r1,k1,tk,q1⟩:=yy;refine not_of (thn (QC pins s1 σ H1 x v (fun c' H2=>Q (.bl (!c')) H2) I1 r1 ⟨k1,tk,q1⟩) fun a s2 q=>?_);obtain⟨H2,I2,q2⟩:=q;exact⟨.bl (!a),H2,I2,rfl,q2⟩
theorem Ap.snoc{N:Addr->Prop}{d:D}:∀{as:List A} {vs:List V} {L:List Addr},Ap K N H vs (as++[.fz d]) L->∃vs' v,vs=vs'++[v]/\Ap K N H vs' as L/\RepA N H v d:=by
 intro as;induction as with
 | nil =>
  intro vs L h;cases vs with
  | nil=>simp only[List.nil_append,Ap] at h
  | cons v vs =>
   simp only[List.nil_append,Ap] at h;obtain⟨L1,L2,rfl,h1,h2⟩:=h;cases vs with
   | nil =>
    simp only[Ap] at h2;subst h2;obtain⟨e9,h9⟩:=D9.mp h1;subst e9;exact⟨[],v,rfl,by simp only[Ap,List.append_nil],h9⟩
   | cons _ _=>simp only[Ap] at h2
 | cons a as ih =>
  intro vs L h;cases vs with
  | nil=>simp only[List.cons_append,Ap] at h
  | cons v vs =>
   simp only[List.cons_append,Ap] at h;obtain⟨L1,L2,rfl,h1,h2⟩:=h;obtain⟨vs',v',rfl,h3,h4⟩:=ih h2;exact⟨v::vs',v',rfl,by simp only[Ap]; exact⟨L1,L2,rfl,h1,h3⟩,h4⟩
noncomputable def MC(i j:Nat):MS:=fun Z=>(CV Z i).bind fun h=>(h.2.getLast?).bind fun a=>(fzU a).bind fun d=>if free (Z.set i (some (h.1,.lst h.2.dropLast))) j then some (.next ((Z.set i (some (h.1,.lst h.2.dropLast))).set j (some (.own,.fz d)))) else none
theorem Vc{i j:Nat}{D:Ends}(h:tS K (MC i j) D σ H):MQ (We K "list" V7 (Ox i)) (FK j) D σ H:=by
 obtain⟨Z,O,fp,rl,fl,e,w⟩:=h;simp only[MC,bind_eq_some_iff] at e;obtain⟨⟨st,as⟩,e0,a,e1,d,e2,e3⟩:=e;split at e3
 .rename_i hf
  cases e3;cases G2 e2;obtain⟨g,gst⟩:=ER e0;obtain⟨v,hv,q0⟩:=rl.slot i _ _ g;rw[AA] at q0;obtain⟨p0,vs0,L',rfl,e6,hp0,hz,hs⟩:=q0;dsimp only at e1;obtain⟨as',rfl⟩:∃as',as=as'++[.fz d]:=by
   obtain⟨h1,h2⟩:=List.getLast?_eq_some_iff.mp e1;exact⟨h1,h2⟩
  obtain⟨vs',v,rfl,h1,h2⟩:=Ap.snoc hs;have hd2:(vs'++[v]).dropLast=vs':=List.dropLast_concat;have hd3:(as'++[A.fz d]).dropLast=as':=List.dropLast_concat;refine⟨_,hv,.inl ⟨rfl,_,.inl (.inl hp0)⟩,p0,vs'++[v],v,rfl,rfl,hp0,by simp,?_⟩;dsimp only at w hf;rw[hd3] at w hf;rw[hd2];have n1:=rl.nd i;rw[e6] at n1;have pn:NN fp (ad O []) p0:=.inl ⟨i,by rw[e6]; simp⟩;have k:=DF (o:=.lst vs') hp0;have hw1:∀p,NN fp (ad O []) p->NN fp O p:=fun p z=>F0.mp z;have h1':Ap K (NN fp (ad O [])) (upd H p0 (.lst vs')) vs' as' L':=(h1.tr (M:=fun b=>b=p0) (fun b z=>hw1 _ (z ▸ pn)) k (fun b z=>.inl (hw1 b z)) fun b hb z=>by
   subst z;exact(List.nodup_cons.mp n1).1 hb)
  have P1:=rl.post.mut (a':=.lst as') (L':=p0::L') (o:=.lst vs') g gst hv (by rw[e6]; simp) hp0 (fun b hb=>.inl (by rw[e6]; exact hb)) n1 (by
   rw[AA];exact⟨p0,vs',L',rfl,rfl,AR,by rw[List.length_append] at hz; exact Nat.le_trans (Nat.le_add_right _ _) hz,h1'⟩)
  have hA:RepA (NN (pt fp i (p0::L')) (ad O [])) (upd H p0 (.lst vs')) v d:=h2.tr (M:=fun b=>b=p0) (fun b z=>hw1 _ (z ▸ pn)) k fun b z=>.inl ?_
  .exact w _ _ _ (Post.store (L1:=[]) (L2:=[]) P1 hf (D8 hA))
  .have ep:pt fp i (p0::L')=fp:=by
    funext q;unfold pt;split
    .rename_i hq
     rw[hq,e6]
    .rfl
   rw[ep] at z;exact hw1 b z
 .cases e3
theorem Tx(i j:Nat)(hN:X.N[i]? = some x)(hv:Vis X.env.scope x)(hd:(x==("__debug__" : Str))=false)(hcd:(x==("__classdict__" : Str))=false)(hbase:attributeBase (.Name x npos) "pop" X.env (eval (.Name x npos) X.env)=eval (.Name x npos) X.env)(hline:(apos.endLine==cpos.line)=true)(hn:X.N.Nodup)(hj:X.N[j]? = some y)(hx:Loc X.env.scope y)(hs:swapsWithSole [.Name y npos'] (.Call (.Attribute (.Name x npos) "pop" apos) [] [] cpos) pos.line X.env=pure false)(hw:swappedStores [.Name y npos'] (.Call (.Attribute (.Name x npos) "pop" apos) [] [] cpos) X.env=pure none)(h1:(assignEach [.Name y npos'] X.env).map (·.2)=[assign (.Name y npos') X.env])(hf:X.fn y=true\/X.env.scope.names.lookup y=some .local):
  JS X (.Assign [.Name y npos'] (.Call (.Attribute (.Name x npos) "pop" apos) [] [] cpos) pos) (MC i j):=
 Bg (PX (Up PySem.F.plainAttrs_list PySem.F.slot_list_pop PySem.F.type_list_pop TZ (Iz hN hv hd hcd) hbase hline) (Nl hn hj hx hf) hs hw h1) fun _ _ _ h=>Vc h
end
noncomputable def B6(kvs:List (Str×Int))(z:Str):Option Int:=(kvs.find? fun k=>decide (k.1=z)).map (·.2)
noncomputable def Tf(kvs:List (Str×Int))(neg:Bool):List A->Option A:=on1 fun a=>(Ck a).map fun z=>.fz (.bl ((B6 kvs z).isSome != neg))
noncomputable def O6(kvs:List (Str×Int)):List A->Option A:=on1 fun a=>(Ck a).bind fun z=>(B6 kvs z).map fun v=>.fz (.int v)
section
variable{X:Cx}{a b c e:Expr}{es:List Expr}{m m1 m2 m3:ME}{K:Frag}{σ:L2.St}{H:Hp}{x:Str}{p p2 pos pos' apos cpos npos:Pos}{kvs:List (Str×Int)}{xs:List (D×Value×Value)}
noncomputable def PR(k:Str×Int)(q:D×Value×Value):Prop:=q.1=.str k.1/\(∃t,q.2.1=.str k.1 t)/\∃t,q.2.2=.int k.2 t
theorem PV(q:Paired PR kvs xs)(z:Str):(B6 kvs z=none/\KC xs (.str z)=none)\/∃v t,B6 kvs z=some v/\KC xs (.str z)=some (.int v t):=by
 unfold B6 KC;induction q with
 | nil=>exact .inl ⟨rfl,rfl⟩
 | @cons k y ks ys h t ih =>
  obtain⟨h1,h2,tk,h3⟩:=h;by_cases e:k.1=z
  .subst e
   refine .inr ⟨k.2,tk,?_,?_⟩
   .simp
   .rw[List.find?_cons_of_pos (by simp[h1])]
    simp[h3]
  .rw[List.find?_cons_of_neg (by simpa using e),List.find?_cons_of_neg (by simp[h1]; exact e)]
   exact ih
theorem SJ{pins:List (Addr×Obj)}{s:Shared}(I:Inv X pins σ H s){q:Addr}{o:Obj}{es:Array DictEntry}{ep:Nat}(nm:(q==sysModules)=false)(h1:X.K.lookup q=some o)(h2:o.ExactDict)(h3:o.data=.dict es ep)(h4:es.toList=xs.map (GV X.w))(h5:Paired PR kvs xs)(h6:(kvs.map (·.1)).Nodup)(h7:kvs.length<=100)(h8:∀k∈kvs,k.1.length<=sizeLine):
  RawG X.w H s.heap q (kvs.map fun k=>(D.str k.1,V.int k.2)) o es ep xs where
 sz:=by rw[List.length_map]; exact Nat.le_trans h7 (by decide)
 nm:=nm
 pr:=by
  clear h4 h6 h7 h8;induction h5 with
  | nil=>exact .nil
  | cons h t ih=>exact .cons ⟨h.1.symm,h.2.2⟩ ih
 ob:=I.kIn q o h1
 ex:=h2
 dt:=h3
 en:={
  es:=h4
  rel:=by
   clear h4 h6 h7;induction h5 with
   | nil=>intro x hx; exact nomatch hx
   | @cons k y ks ys h t ih =>
    intro x hx;rcases List.mem_cons.mp hx with rfl|hx
    .obtain⟨e1,⟨t,e2⟩,_⟩:=h
     rw[e1,e2];exact⟨.str _,.str k.1,.str _ (h8 k (by simp)),⟨t,rfl⟩⟩
    .exact ih (fun k hk=>h8 k (by simp[hk])) x hx
  nd:=by
   have:xs.map (·.1)=(kvs.map (·.1)).map D.str:=by
    clear h4 h6 h7 h8;induction h5 with
    | nil=>rfl
    | cons h t ih=>rw[List.map_cons,List.map_cons,List.map_cons,ih,h.1]
   rw[this];exact List.pairwise_map.mpr (h6.imp fun h e=>h (by cases e; rfl)) }
theorem Rc{k:Nat}(hr:Room k X.A)(G:GDct X.K X.w X.mg x kvs)(hg:Gl X x)(hd:(x==("__debug__" : Str))=false)(hm:behindInMarks .In (.Name x p)=false)(ha:JE X a m1):JE X (.Compare a [.In] [.Name x p] pos) (opM (Tf kvs false) (m1L m1)):=by
 obtain⟨q,e,nm,o,es,ep,xs,g1,g2,g3,g4,g5,g6,g7,g8⟩:=G.at_;have pc:PC X .In a (.Name x p) (fun σ H Q=>tE X.K m1 σ H fun y H1=>∃z,y=.str z/\z.length<=sizeLine/\Q (.bl (B6 kvs z).isSome) H1):=by
  intro pins s σ H Q I h;refine thn (ha pins s σ H _ I h) fun iv s1 ⟨y,H1,I1,ry,z,ez,hz,q1⟩=>?_;refine thn (GF (v:=.ref q) hg e rfl hd pins s1 σ H1 (fun v H2=>v=.ref q/\H2=H1) I1 ⟨rfl,rfl⟩) fun u s2 ⟨y2,H2,I2,ry2,e2,e3⟩=>?_;subst e2 e3 ez;obtain rfl:u=Value.ref q:=ry2;show wpAny (model X.prog X.w) X.A (do return Value.bool (<- contains (.ref q) iv)) _ _ s2;refine wpAny_bind (WC I2.hok (Sy hr) (SJ I2 nm g1 g2 g3 g4 g5 g6 g7 g8) (k:=.str z) ⟨.str _,.str z,.str z hz,ry⟩ fun tk=>wpAny_pure ?_);refine⟨.bl _,H2,I2.tok _,rfl,?_⟩;have:=PV g5 z;rcases this with ⟨h1,h2⟩|⟨v,t,h1,h2⟩
  .rw[h2]; rw[h1] at q1; exact q1
  .rw[h2]; rw[h1] at q1; exact q1
 refine AO (Uq pc hm) fun σ H Q h=>?_;have ok:OpN X.K (Tf kvs false) (r1L fun x H Q=>∃z,x=.str z/\z.length<=sizeLine/\Q (.bl (B6 kvs z).isSome) H):=by
  intro N H xs as b Q hs e k
  replace e:=Ek e
  obtain⟨a,rfl,e⟩:=e;simp only[map_eq_some_iff] at e;obtain⟨z,ez,rfl⟩:=e;cases B5 ez;obtain⟨x,L1,rfl,h1⟩:=Dr hs;obtain⟨rfl,hz⟩:=CT h1;refine⟨_,rfl,z,rfl,hz,?_⟩;have:=k (.bl (B6 kvs z).isSome) H (by simpa using CQ);exact this
 exact tE.mono (one ok h) fun x H1 h1=>h1
theorem Rf{k:Nat}(hr:Room k X.A)(G:GDct X.K X.w X.mg x kvs)(hg:Gl X x)(hd:(x==("__debug__" : Str))=false)(hs:Vo b)(hb:JE X b m1):JE X (.Subscript (.Name x p) b pos) (opM (O6 kvs) (m1L m1)):=by
 obtain⟨q,e,nm,o,es,ep,xs,g1,g2,g3,g4,g5,g6,g7,g8⟩:=G.at_;have pe:PE X (.Subscript (.Name x p) b pos) (fun σ H Q=>tE X.K m1 σ H fun y H1=>∃z v,y=.str z/\z.length<=sizeLine/\B6 kvs z=some v/\Q (.int v) H1):=by
  intro pins s σ H Q I h;refine Sf PySem.F.slot_dict_getitem.lookup hs (thn (GF (v:=.ref q) hg e rfl hd pins s σ H (fun v H2=>v=.ref q/\H2=H) I ⟨rfl,rfl⟩) fun u s1 ⟨y2,H2,I1,ry2,e2,e3⟩=>?_);subst e2 e3;obtain rfl:u=Value.ref q:=ry2;refine thn (hb pins s1 σ H2 _ I1 h) fun iv s2 ⟨y,H1,I2,ry,z,v,ez,hz,hv,q1⟩=>?_;subst ez;have rw1:=SJ I2 nm g1 g2 g3 g4 g5 g6 g7 g8;rcases PV g5 z with ⟨h1,h2⟩|⟨v',t,h1,h2⟩
  .rw[hv] at h1; cases h1
  .rw[hv] at h1
   cases h1;exact⟨rw1.ty,Tp I2.hok (Sy hr) rw1 (k:=.str z) ⟨.str _,.str z,.str z hz,ry⟩ h2 fun tk=>⟨.int v,H1,I2.tok _,⟨_,rfl⟩,q1⟩⟩
 refine AO pe fun σ H Q h=>?_;have ok:OpN X.K (O6 kvs) (r1L fun x H Q=>∃z v,x=.str z/\z.length<=sizeLine/\B6 kvs z=some v/\Q (.int v) H):=by
  intro N H xs as b Q hs e k
  replace e:=Ek e
  obtain⟨a,rfl,e⟩:=e;simp only[bind_eq_some_iff,map_eq_some_iff] at e;obtain⟨z,ez,v,hv,rfl⟩:=e;cases B5 ez;obtain⟨x,L1,rfl,h1⟩:=Dr hs;obtain⟨rfl,hz⟩:=CT h1;exact⟨_,rfl,z,v,rfl,hz,hv,k _ _ CS⟩
 exact tE.mono (one ok h) fun x H1 h1=>h1
end
noncomputable def GT0(K:Frag)(x:Str)(zs:List Str):Prop:=∃p,PySem.W.nsIn K mainGlobals x=some (some (.ref p))/\(∃(o:Obj) (its:Array Value) (n:Nat),K.lookup p=some o/\o.cls=.type "tuple" /\ o.data=.seq its n/\its.size<=sizeLine/\Vals (zs.map V.str) its.toList)/\∀z∈zs,z.length<=sizeLine
noncomputable def GE0(K:Frag)(w:World)(x:Str)(kvs:List (Str×Int)):Prop:=∃p,PySem.W.nsIn K mainGlobals x=some (some (.ref p))/\(p==sysModules)=false/\∃(o:Obj) (es:Array DictEntry) (ep:Nat) (xs:List (D×Value×Value)),K.lookup p=some o/\o.ExactDict/\o.data=.dict es ep/\es.toList=xs.map (GV w)/\Paired PR kvs xs/\(kvs.map (·.1)).Nodup/\kvs.length<=100/\∀k∈kvs,k.1.length<=sizeLine
theorem VF{K:Frag}{h:Heap}{mg:Str->Option Value}{x:Str}{zs:List Str}(X:K.In h)(G:h.Ns mainGlobals mg)(e:GT0 K x zs):GTup K mg x zs:=by
 obtain⟨p,e1,e2,e3⟩:=e;exact⟨⟨p,PySem.W.mg_of X G e1,e2⟩,e3⟩
theorem VE{K:Frag}{w:World}{h:Heap}{mg:Str->Option Value}{x:Str}{kvs:List (Str×Int)}(X:K.In h)(G:h.Ns mainGlobals mg)(e:GE0 K w x kvs):GDct K w mg x kvs:=by
 obtain⟨p,e1,e2,e3⟩:=e;exact⟨⟨p,PySem.W.mg_of X G e1,e2,e3⟩⟩
end J
end
section
namespace J
open PySem L2
noncomputable def EV(m:ME)(Z:Ro)(Q:R->Ro->Prop):Prop:=∃r Z',m Z=some (r,Z')/\Q r Z'
noncomputable def AV(m:MA)(Z:Ro)(Q:List R->Ro->Prop):Prop:=∃r Z',m Z=some (r,Z')/\Q r Z'
noncomputable def TV(m:MT)(Z:Ro)(Q:Bool->Ro->Prop):Prop:=∃b Z',m Z=some (b,Z')/\Q b Z'
noncomputable def SV(m:MS)(Z:Ro)(Q:Fl->Prop):Prop:=∃f,m Z=some f/\Q f
noncomputable def IV(m:MI)(Z:Ro)(Q:List D->Option Nat->Ro->Prop):Prop:=∃ds n Z',m Z=some (ds,n,Z')/\Q ds n Z'
noncomputable def FV(Φ:Fn)(as:List (Own×A))(Q:A->List A->Prop):Prop:=∃a os,Φ as=some (a,os)/\Q a os
noncomputable def nxt(K:Ro->Prop)(Q:Fl->Prop):Fl->Prop
 | .next Z=>K Z
 | f=>Q f
noncomputable def turn(I:Ro->Prop)(u:Ro->Ro)(Q:Fl->Prop):Fl->Prop
 | .next Z=>I Z
 | .cnt Z=>I Z
 | .brk Z=>Q (.next (u Z))
 | .ret x Z=>Q (.ret x (u Z))
noncomputable def fin(np:Nat)(Q:A->List A->Prop):Fl->Prop
 | .next Z=>Q (.fz .non) ((Z.take np).map GD)
 | .ret a Z=>Q a ((Z.take np).map GD)
 | _=>False
noncomputable abbrev Fr(x:Slot):Prop:=free [x] 0=true
section
variable{m m1 m2 m3:ME}{ms:MA}{c c2:MT}{a b:MS}{it:MI}{Z Z1 Z2:Ro}{Q:R->Ro->Prop}{QA:List R->Ro->Prop}{QT:Bool->Ro->Prop}{QS:Fl->Prop}{K:Ro->Prop}{i:Nat}
theorem Bi{Φ:Fn}{as:List (Own×A)}{QF:A->List A->Prop}{x:A}{os:List A}(h : Φ as=some (x,os))(q:QF x os):FV Φ as QF:=⟨x,os,h,q⟩
theorem VB{Φ:Fn}{as:List (Own×A)}{x:A}{os:List A}(h:FV Φ as fun x' os'=>x'=x/\os'=os): Φ as=some (x,os):=by
 obtain⟨x',os',e,rfl,rfl⟩:=h; exact e
theorem A2{Φ:Fn}{as:List (Own×A)}{QF QF':A->List A->Prop}(h:FV Φ as QF)(k:∀x os,QF x os->QF' x os):FV Φ as QF':=by
 obtain⟨x,os,e,q⟩:=h; exact⟨x,os,e,k x os q⟩
theorem Dv{np nn:Nat}{as:List (Own×A)}{QF:A->List A->Prop}(hl:as.length=np)(hZ:as.map some++List.replicate (nn-np) none=Z)(h:SV b Z (fin np QF)):FV (fnM np nn b) as QF:=by
 obtain⟨f,e,q⟩:=h;subst hZ;cases f with
 | next Z'=>exact⟨_,_,by simp only[fnM,if_pos hl,e,Option.bind_some],q⟩
 | ret x Z'=>exact⟨_,_,by simp only[fnM,if_pos hl,e,Option.bind_some],q⟩
 | brk Z'=>exact q.elim
 | cnt Z'=>exact q.elim
theorem Ec{d:D}(q:Q (.val (.fz d)) Z):EV (Af d) Z Q:=⟨_,_,rfl,q⟩
theorem FG{f:List A->Option A}(h:AV ms Z fun rs Z1=>∃as,peeks Z1 rs=some as/\∃x,f as=some x/\Q (.val x) Z1):EV (opM f ms) Z Q:=by
 obtain⟨rs,Z1,e,as,e2,x,e3,q⟩:=h;exact⟨_,_,by simp only[opM,e,e2,e3,Option.bind_some,Option.map_some],q⟩
noncomputable def bk(rs:List R)(os:List A)(Z:Ro):Ro:=match refs rs with
 | []=>Z
 | _::_=>back rs os Z
theorem Vv(rs:List R)(os:List A)(Z:Ro):bk rs os Z=back rs os Z:=by
 unfold bk;split
 .rename_i h
  induction rs generalizing os Z with
  | nil=>simp[back]
  | cons r rs ih =>
   cases r with
   | ref i=>simp[refs] at h
   | val a =>
    have h:refs rs=[]:=h;cases os with
    | nil=>rfl
    | cons o os=>exact ih os Z h
 .rfl
theorem C7{Φ:Fn}(h:AV ms Z fun rs Z1=>∃as,CI Z1 rs=some as/\decide (refs rs).Nodup=true/\FV Φ as fun x os=>Q (.val x) (bk rs os Z1)):EV (Au Φ ms) Z Q:=by
 obtain⟨rs,Z1,e,as,e2,hn,x,os,e3,q⟩:=h;rw[Vv] at q;exact⟨_,_,by simp only[Au,e,e2,e3,Option.bind_some,Option.map_some,if_pos (of_decide_eq_true hn)],q⟩
theorem Cg(h:EV m Z fun r Z1=>∃d Z2,share Z1 r=some (d,Z2)/\Q (.val (.fz d)) Z2):EV (Ab m) Z Q:=by
 obtain⟨r,Z1,e,d,Z2,e2,q⟩:=h;exact⟨_,_,by simp only[Ab,e,e2,Option.bind_some,Option.map_some],q⟩
theorem DQ(h:EV m1 Z fun r Z1=>∃x,peek Z1 r=some x/\∃y,D2 x=some y/\if y then EV m2 Z1 Q else Q (.val (.fz (.bl false))) Z1):EV (andM m1 m2) Z Q:=by
 obtain⟨r,Z1,e,x,e2,y,e3,q⟩:=h;cases y with
 | false=>exact⟨_,_,by simp only[andM,AX,e,e2,e3,Option.bind_some,Option.map_some,Bool.false_eq_true,if_false],q⟩
 | true =>
  obtain⟨r',Z',e4,q⟩:=q;exact⟨_,_,by simp only[andM,AX,e,e2,e3,Option.bind_some,Option.map_some,if_true,e4],q⟩
theorem FH(h:EV m1 Z fun r Z1=>∃x,peek Z1 r=some x/\∃y,D2 x=some y/\if y then Q (.val (.fz (.bl true))) Z1 else EV m2 Z1 Q):EV (orM m1 m2) Z Q:=by
 obtain⟨r,Z1,e,x,e2,y,e3,q⟩:=h;cases y with
 | true=>exact⟨_,_,by simp only[orM,AX,e,e2,e3,Option.bind_some,Option.map_some,if_true],q⟩
 | false =>
  obtain⟨r',Z',e4,q⟩:=q;exact⟨_,_,by simp only[orM,AX,e,e2,e3,Option.bind_some,Option.map_some,Bool.false_eq_true,if_false,e4],q⟩
theorem Ee(h:EV m Z fun r Z1=>∃x,peek Z1 r=some x/\∃y,D2 x=some y/\Q (.val (.fz (.bl (!y)))) Z1):EV (notM m) Z Q:=by
 obtain⟨r,Z1,e,x,e2,y,e3,q⟩:=h;exact⟨_,_,by simp only[notM,AX,e,e2,e3,Option.bind_some,Option.map_some],q⟩
theorem Eb(h:TV c Z fun x Z1=>if x then EV m1 Z1 Q else EV m2 Z1 Q):EV (To c m1 m2) Z Q:=by
 obtain⟨x,Z1,e,q⟩:=h;cases x with
 | true=>obtain⟨r',Z',e4,q⟩:=q; exact⟨_,_,by simp only[To,e,Option.bind_some,if_true,e4],q⟩
 | false=>obtain⟨r',Z',e4,q⟩:=q; exact⟨_,_,by simp only[To,e,Option.bind_some,Bool.false_eq_true,if_false,e4],q⟩
theorem Ed(h:AV ms Z fun rs Z1=>∃as,vals rs=some as/\decide (as.length<=LIM)=true/\Q (.val (.lst as)) Z1):EV (lstM ms) Z Q:=by
 obtain⟨rs,Z1,e,as,e2,hl,q⟩:=h;exact⟨_,_,by simp only[lstM,e,e2,Option.bind_some,if_pos (of_decide_eq_true hl)],q⟩
theorem Ef(h:AV ms Z fun rs Z1=>∃as Z2,moves rs Z1=some (as,Z2)/\decide (as.length<=LIM)=true/\Q (.val (mkT as)) Z2):EV (An ms) Z Q:=by
 obtain⟨rs,Z1,e,as,Z2,e2,hl,q⟩:=h;exact⟨_,_,by simp only[An,e,e2,Option.bind_some,if_pos (of_decide_eq_true hl)],q⟩
theorem DK(q:QA [] Z):AV Ah Z QA:=⟨_,_,rfl,q⟩
theorem Cn(h:EV m Z fun r Z1=>AV ms Z1 fun rs Z2=>QA (r::rs) Z2):AV (Aa m ms) Z QA:=by
 obtain⟨r,Z1,e,rs,Z2,e2,q⟩:=h;exact⟨_,_,by simp only[Aa,e,e2,Option.bind_some,Option.map_some],q⟩
theorem HP(h:EV m Z fun r Z1=>QA [r] Z1):AV (m1L m) Z QA:=Cn (by
 obtain⟨r,Z1,e,q⟩:=h; exact⟨r,Z1,e,DK q⟩)
theorem IY(h:EV m1 Z fun r Z1=>EV m2 Z1 fun r2 Z2=>QA [r,r2] Z2):AV (m2L m1 m2) Z QA:=Cn (by
 obtain⟨r,Z1,e,q⟩:=h; exact⟨r,Z1,e,HP q⟩)
theorem Es(h:EV m Z fun r Z1=>∃x,peek Z1 r=some x/\∃y,D2 x=some y/\QT y Z1):TV (AX m) Z QT:=by
 obtain⟨r,Z1,e,x,e2,y,e3,q⟩:=h;exact⟨_,_,by simp only[AX,e,e2,e3,Option.bind_some,Option.map_some],q⟩
theorem Er(h:TV c Z fun x Z1=>QT (!x) Z1):TV (C5 c) Z QT:=by
 obtain⟨x,Z1,e,q⟩:=h;exact⟨_,_,by simp only[C5,e,Option.map_some],q⟩
theorem FO(h:TV c Z fun x Z1=>if x then QT true Z1 else TV c2 Z1 QT):TV (orT c c2) Z QT:=by
 obtain⟨x,Z1,e,q⟩:=h;cases x with
 | true=>exact⟨_,_,by simp only[orT,e,Option.bind_some,if_true],q⟩
 | false=>obtain⟨y,Z',e4,q⟩:=q; exact⟨_,_,by simp only[orT,e,Option.bind_some,Bool.false_eq_true,if_false,e4],q⟩
theorem D0(h:TV c Z fun x Z1=>if x then TV c2 Z1 QT else QT false Z1):TV (JQ c c2) Z QT:=by
 obtain⟨x,Z1,e,q⟩:=h;cases x with
 | false=>exact⟨_,_,by simp only[JQ,e,Option.bind_some,Bool.false_eq_true,if_false],q⟩
 | true=>obtain⟨y,Z',e4,q⟩:=q; exact⟨_,_,by simp only[JQ,e,Option.bind_some,if_true,e4],q⟩
theorem CA(h:SV a Z (nxt (fun Z1=>SV b Z1 QS) QS)):SV (Az a b) Z QS:=by
 obtain⟨f,e,q⟩:=h;cases f with
 | next Z1=>obtain⟨f,e2,q⟩:=q; exact⟨f,by simp only[Az,e,Option.bind_some,e2],q⟩
 | brk Z1=>exact⟨_,by simp only[Az,e,Option.bind_some],q⟩
 | cnt Z1=>exact⟨_,by simp only[Az,e,Option.bind_some],q⟩
 | ret x Z1=>exact⟨_,by simp only[Az,e,Option.bind_some],q⟩
theorem El(h:EV m Z fun r Z1=>∃x Z2,keep Z1 r=some (x,Z2)/\free Z2 i=true/\QS (.next (Z2.set i (some (.own,x))))):SV (AF i m) Z QS:=by
 obtain⟨r,Z1,e,x,Z2,e2,e3,q⟩:=h;exact⟨_,by simp only[AF,e,e2,e3,Option.bind_some,if_true],q⟩
theorem En(h:EV m Z fun _ Z1=>QS (.next Z1)):SV (J7 m) Z QS:=by
 obtain⟨r,Z1,e,q⟩:=h;exact⟨_,by simp only[J7,e,Option.map_some],q⟩
theorem DZ(h:EV m Z fun r Z1=>∃x Z2,move Z1 r=some (x,Z2)/\QS (.ret x Z2)):SV (retS m) Z QS:=by
 obtain⟨r,Z1,e,x,Z2,e2,q⟩:=h;exact⟨_,by simp only[retS,e,e2,Option.bind_some,Option.map_some],q⟩
theorem FN(h:TV c Z fun x Z1=>if x then SV a Z1 QS else SV b Z1 QS):SV (ifS c a b) Z QS:=by
 obtain⟨x,Z1,e,q⟩:=h;cases x with
 | true=>obtain⟨f,e2,q⟩:=q; exact⟨f,by simp only[ifS,e,Option.bind_some,if_true,e2],q⟩
 | false=>obtain⟨f,e2,q⟩:=q; exact⟨f,by simp only[ifS,e,Option.bind_some,Bool.false_eq_true,if_false,e2],q⟩
theorem Dg(q:QS (.next Z)):SV Bp Z QS:=⟨_,rfl,q⟩
theorem Ep{is:List Nat}(h:EV m Z fun r Z1=>∃x Z2,keep Z1 r=some (x,Z2)/\∃as,Km x=some as/\∃Z3,Cz is as Z2=some Z3/\QS (.next Z3)):SV (Vl is m) Z QS:=by
 obtain⟨r,Z1,e,x,Z2,e2,as,e3,Z3,e4,q⟩:=h;exact⟨_,by simp only[Vl,e,e2,e3,e4,Option.bind_some,Option.map_some],q⟩
theorem Eo(h:∃d Z2,share Z (.ref i)=some (d,Z2)/\QS (.next Z2)):SV (VA i) Z QS:=by
 obtain⟨d,Z2,e,q⟩:=h;exact⟨_,by simp only[VA,e,Option.map_some],q⟩
theorem Em(h:SV (AF i (opM QQ (m2L (Ag i) m))) Z QS):SV (NH i m) Z QS:=h
theorem Qr(h0:∃p,CV Z i=some p)(h:EV m Z fun r Z1=>∃x Z2,keep Z1 r=some (x,Z2)/\∃st as,CV Z2 i=some (st,as)/\as.length<LIM/\QS (.next (Z2.set i (some (st,.lst (as++[x])))))):SV (IX i m) Z QS:=by
 obtain⟨p,e0⟩:=h0;obtain⟨r,Z1,e,x,Z2,e2,st,as,e3,hl,q⟩:=h;exact⟨_,by simp only[IX,e0,e,e2,e3,Option.bind_some,if_pos hl],q⟩
theorem Hi{is:List Nat}{one:Bool}(h:IV it Z fun ds n Z1=>∃Inv:Nat->Ro->Prop,Inv 0 (lock Z1 n)/\(∀j d Z2,ds[j]? = some d->Inv j Z2->∃Z3,Ju is one d Z2=some Z3/\SV b Z3 (turn (Inv (j+1)) (fun Z4=>unlock Z1 Z4 n) QS))/\∀Z2,Inv ds.length Z2->QS (.next (unlock Z1 Z2 n))):SV (G1 is one it b) Z QS:=by
 obtain⟨ds,n,Z1,e,Inv,h0,hs,he⟩:=h;have key:∀(es:List D) (j:Nat) (Z2:Ro),j<=ds.length->ds.drop j=es->Inv j Z2->∃f,forL is one b es Z2=some f/\QS (Kz Z1 n f):=by
  intro es;induction es with
  | nil =>
   intro j Z2 hj hd hI;have hj2:ds.length<=j:=by
    have:=congrArg List.length hd;simp at this;lia
   have:j=ds.length:=by lia
   subst this;exact⟨_,rfl,he Z2 hI⟩
  | cons d es ih =>
   intro j Z2 hj hd hI;have hlt:j<ds.length:=by
    rcases Nat.lt_or_ge j ds.length with z|z
    .exact z
    .rw[List.drop_eq_nil_of_le z] at hd; cases hd
   rw[List.drop_eq_getElem_cons hlt] at hd;injection hd with e1 e2
   obtain⟨Z3,e3,f,e4,q⟩:=hs j d Z2 (by rw[<- e1]; simp) hI;cases f with
   | next Z4 =>
    obtain⟨f,e5,q⟩:=ih (j+1) Z4 hlt e2 q;exact⟨f,by simp only[forL,e3,e4,Option.bind_some,e5],q⟩
   | cnt Z4 =>
    obtain⟨f,e5,q⟩:=ih (j+1) Z4 hlt e2 q;exact⟨f,by simp only[forL,e3,e4,Option.bind_some,e5],q⟩
   | brk Z4=>exact⟨.next Z4,by simp only[forL,e3,e4,Option.bind_some],q⟩
   | ret x Z4=>exact⟨.ret x Z4,by simp only[forL,e3,e4,Option.bind_some],q⟩
 obtain⟨f,e2,q⟩:=key ds 0 (lock Z1 n) (Nat.zero_le _) (by simp) h0;exact⟨_,by simp only[G1,e,Option.bind_some,e2,Option.map_some],q⟩
theorem Qs{w:Nat}(I:Nat->Ro->Prop)(hw:∃n,n<w/\I n Z)(hs:∀n Z1,I n Z1->TV c Z1 fun x Z2=>if x then SV b Z2 (turn (fun Z3=>∃k,k<n/\I k Z3) (fun Z3=>Z3) QS) else QS (.next Z2)):SV (KD w c b) Z QS:=by
 have key:∀(w n:Nat) (Z:Ro),n<w->I n Z -> SV (Ds c b w) Z QS:=by
  intro w;induction w with
  | zero=>intro n Z h; exact absurd h (Nat.not_lt_zero _)
  | succ w ih =>
   intro n Z h hI;obtain⟨x,Z2,e,q⟩:=hs n Z hI;cases x with
   | false=>exact⟨_,by simp only[Ds,e,Option.bind_some,Bool.false_eq_true,if_false],q⟩
   | true =>
    obtain⟨f,e2,q⟩:=q;cases f with
    | next Z3 =>
     obtain⟨k,hk,hI2⟩:=q;obtain⟨f,e3,q⟩:=ih k Z3 (by lia) hI2;exact⟨f,by simp only[Ds,e,Option.bind_some,if_true,e2,e3],q⟩
    | cnt Z3 =>
     obtain⟨k,hk,hI2⟩:=q;obtain⟨f,e3,q⟩:=ih k Z3 (by lia) hI2;exact⟨f,by simp only[Ds,e,Option.bind_some,if_true,e2,e3],q⟩
    | brk Z3=>exact⟨.next Z3,by simp only[Ds,e,Option.bind_some,if_true,e2],q⟩
    | ret y Z3=>exact⟨.ret y Z3,by simp only[Ds,e,Option.bind_some,if_true,e2],q⟩
 obtain⟨n,hn,hI⟩:=hw;exact key w n Z hn hI
theorem Q4{pat:Nat}{e:ME}(f:D->Option D)(h:IV it Z fun ds n Z1=>decide (ds.length<=LIM)=true/\(∀d∈ds,∃bs,My pat d=some bs/\TV c (bs.map own++lock Z1 n) fun x Z2=>Z2=bs.map own++lock Z1 n/\if x then EV e (bs.map own++lock Z1 n) (fun r Z3=>Z3=bs.map own++lock Z1 n/\∃v,share (bs.map own++lock Z1 n) r=some (v,bs.map own++lock Z1 n)/\f d=some v) else f d=none)/\Q (.val (.lst ((ds.filterMap f).map A.fz))) (unlock Z1 (lock Z1 n) n)):EV (BL it pat c e) Z Q:=by
 obtain⟨ds,n,Z1,e0,hl,hs,q⟩:=h;have key:∀es:List D,(∀d∈es,d∈ds)->Fc pat c e es (lock Z1 n)=some (es.filterMap f,lock Z1 n):=by
  intro es;induction es with
  | nil=>intro _; rfl
  | cons d es ih =>
   intro hm;obtain⟨bs,e1,x,Z2,e2,rfl,q2⟩:=hs d (hm d List.mem_cons_self);have ih:=ih fun y hy=>hm y (List.mem_cons_of_mem _ hy);have hdr:(bs.map own++lock Z1 n).drop bs.length=lock Z1 n:=by
    rw[List.drop_append_of_le_length (by simp),List.drop_of_length_le (by simp),List.nil_append]
   cases x with
   | false =>
    have q2:f d=none:=q2;simp only[Fc,e1,Option.bind_some,e2,Bool.false_eq_true,if_false,hdr,ih,List.filterMap_cons,q2]
   | true =>
    obtain⟨r,Z3,e3,rfl,v,e4,e5⟩:=q2;simp only[Fc,e1,Option.bind_some,e2,if_true,e3,e4,hdr,ih,Option.map_some,List.filterMap_cons,e5]
 exact⟨_,_,by simp only[BL,e0,Option.bind_some,if_pos (of_decide_eq_true hl),key ds fun _ h=>h,Option.map_some],q⟩
theorem J4{pat:Nat}{e:ME}(f:D->Option D)(out:List D)(h:IV it Z fun ds n Z1=>ds.length<=100000/\ds.filterMap f=out/\(∀d∈ds,∃bs,My pat d=some bs/\TV c (bs.map own++lock Z1 n) fun x Z2=>Z2=bs.map own++lock Z1 n/\if x then EV e (bs.map own++lock Z1 n) (fun r Z3=>Z3=bs.map own++lock Z1 n/\∃v,share (bs.map own++lock Z1 n) r=some (v,bs.map own++lock Z1 n)/\f d=some v) else f d=none)/\Q (.val (.lst (out.map A.fz))) (unlock Z1 (lock Z1 n) n)):EV (BL it pat c e) Z Q:=by
 obtain⟨ds,n,Z1,e0,hl,rfl,hs,q⟩:=h;have hL:100000<=LIM:=by decide
 exact Q4 f ⟨ds,n,Z1,e0,decide_eq_true (by lia),hs,q⟩
theorem Et{QT:Bool->Ro->Prop}(q:QT true Z):TV Hj Z QT:=⟨_,_,rfl,q⟩
theorem O4{QI:List D->Option Nat->Ro->Prop}(h:EV m Z fun r Z1=>∃x,peek Z1 r=some x/\∃ds,A8 x=some ds/\QI ds (nameOf r) Z1):IV (Fs m) Z QI:=by
 obtain⟨r,Z1,e,x,e2,ds,e3,q⟩:=h;exact⟨_,_,_,by simp only[Fs,e,e2,e3,Option.bind_some,Option.map_some],q⟩
theorem G5{QI:List D->Option Nat->Ro->Prop}(h:EV m Z fun r Z1=>∃k:Int,r=.val (.fz (.int k))/\(-1000000<=k/\k<=1000000)/\QI (EJ 0 k.toNat) none Z1):IV (Cj m) Z QI:=by
 obtain⟨r,Z1,e,k,rfl,hk,q⟩:=h;have e0:(-(2 ^ 62)<=k/\k<2 ^ 62)=True:=by simp; lia
 exact⟨_,_,_,by simp only[Cj,e,Option.bind_some,e0,if_true],q⟩
theorem O5{QI:List D->Option Nat->Ro->Prop}(h:EV m Z fun r Z1=>∃z,r=.val (.fz (.str z))/\decide (z.length<=LIM)=true/\QI (BU z) none Z1):IV (Jn m) Z QI:=by
 obtain⟨r,Z1,e,z,rfl,hl,q⟩:=h;exact⟨_,_,_,by simp only[Jn,e,Option.bind_some,if_pos (of_decide_eq_true hl)],q⟩
theorem NA{I:Ro->Prop}{u:Ro->Ro}{Z:Ro}(h:I Z):turn I u QS (.next Z):=h
theorem QB{I:Ro->Prop}{u:Ro->Ro}{x:A}{Z:Ro}(h:QS (.ret x (u Z))):turn I u QS (.ret x Z):=h
theorem AL{Z:Ro}(h:K Z):nxt K QS (.next Z):=h
theorem Ej{x:A}{Z:Ro}(h:QS (.ret x Z)):nxt K QS (.ret x Z):=h
theorem C8{np:Nat}{QF:A->List A->Prop}{x:A}{Z:Ro}(h:QF x ((Z.take np).map GD)):fin np QF (.ret x Z):=h
theorem Ci{np:Nat}{QF:A->List A->Prop}{Z:Ro}(h:QF (.fz .non) ((Z.take np).map GD)):fin np QF (.next Z):=h
theorem D4{P1 P2:Prop}{x:Bool}(hx:x=true)(h:P1):if x then P1 else P2:=by rw[if_pos hx]; exact h
theorem DV{P1 P2:Prop}{x:Bool}(hx:x=false)(h:P2):if x then P1 else P2:=by rw[if_neg (by rw[hx]; exact Bool.false_ne_true)]; exact h
theorem O3{P1 P2:Prop}{x:Bool}(h1:x=true->P1)(h2:x=false->P2):if x then P1 else P2:=by
 cases x with
 | true=>exact h1 rfl
 | false=>exact h2 rfl
end
theorem BP{i j:Int}(h:decide (-1000000<=j/\j<=1000000)=true):Gv [.fz (.int i),.fz (.int j)]=some (.fz (.int (i*j))):=by
 have h:=of_decide_eq_true h;have e:((-(2 ^ 64)<i/\i<2 ^ 64)\/(-(2 ^ 64)<j/\j<2 ^ 64))=True:=by simp only[eq_iff_iff,iff_true]; exact .inr ⟨by lia,by lia⟩
 simp only[Gv,on2,BF,fzU,E6,Option.bind_some,e,if_true]
theorem ex1{α:Type}{f:Option α}{q:α -> Prop}{x:α}(h:f=some x)(k:q x):∃x,f=some x/\q x:=⟨x,h,k⟩
theorem ex2{α β:Type}{f:Option (α×β)}{q:α -> β -> Prop}{x:α}{y:β}(h:f=some (x,y))(k:q x y):∃x y,f=some (x,y)/\q x y:=⟨x,y,h,k⟩
theorem FI{i:Nat}{Z Z1:Ro}{Q:R->Ro->Prop}{r:R}(h:Ag i Z=some (r,Z1))(q:Q r Z1):EV (Ag i) Z Q:=⟨r,Z1,h,q⟩
theorem ex3{α β:Type}{f:Option (α×β)}{b:β}{q:α -> Prop}{x:α}(h:f=some (x,b))(k:q x):∃x,f=some (x,b)/\q x:=⟨x,h,k⟩
theorem ex0{α β:Type}{r:β}{g:α -> β}{q:α -> Prop}{x:α}(h:r=g x)(k:q x):∃x,r=g x/\q x:=⟨x,h,k⟩
theorem K1{np nn:Nat}{b:MS}{rr:MR}{as:List (Own×A)}{Z:Ro}{QF:A->List A->Prop}(hp:Bo as=true)(hl:as.length=np)(hZ:as.map some++List.replicate (nn-np) none=Z)(h:(∃z,rr Z=some z/\QF (.fz (.str z)) (as.map (·.2)))\/(rr Z=none/\SV b Z (fin np QF))):FV (E4 np nn b rr) as QF:=by
 subst hZ;rcases h with ⟨z,e,q⟩|⟨e,q⟩
 .refine⟨_,_,?_,q⟩
  unfold E4;rw[if_pos ⟨hp,hl⟩,e]
 .obtain⟨x,os,e2,q⟩:=Dv (nn:=nn) hl rfl q
  refine⟨x,os,?_,q⟩;unfold E4;rw[if_pos ⟨hp,hl⟩,e];exact e2
theorem Cc{Ψ:FnR}{ms:MA}{Z:Ro}{o:Option Str}(h:AV ms Z fun rs Z1=>∃as,CI Z1 rs=some as/\Bo as=true/\Ψ as=o):DM Ψ ms Z=o:=by
 obtain⟨rs,Z1,e,as,e2,hp,q⟩:=h;simp only[DM,e,e2,Option.bind_some,hp,if_true,q]
theorem Dd{c:MT}{r s:MR}{Z:Ro}{o:Option Str}(h:TV c Z fun x Z1=>if x then r Z1=o else s Z1=o):O2 c r s Z=o:=by
 obtain⟨x,Z1,e,q⟩:=h;cases x with
 | true=>simp only[O2,e,Option.bind_some,if_true]; exact q
 | false=>simp only[O2,e,Option.bind_some,Bool.false_eq_true,if_false]; exact q
theorem Eh{c:MT}{r:MR}{Z:Ro}{o:Option Str}(h:TV c Z fun x Z1=>if x then r Z1=o else none=o):ifR c r Z=o:=by
 obtain⟨x,Z1,e,q⟩:=h;cases x with
 | true=>simp only[ifR,e,Option.bind_some,if_true]; exact q
 | false=>simp only[ifR,e,Option.bind_some,Bool.false_eq_true,if_false]; exact q
theorem Df{a:MS}{r:MR}{Z:Ro}{o:Option Str}(h:SV a Z (nxt (fun Z1=>r Z1=o) fun _=>False)):Sa a r Z=o:=by
 obtain⟨f,e,q⟩:=h;cases f with
 | next Z1=>simp only[Sa,e,Option.bind_some]; exact q
 | brk Z1=>exact q.elim
 | cnt Z1=>exact q.elim
 | ret x Z1=>exact q.elim
theorem GZ{np nn:Nat}{r:MR}{as:List (Own×A)}{Z:Ro}{o:Option Str}(hl:as.length=np)(hZ:as.map some++List.replicate (nn-np) none=Z)(h:r Z=o):fnR np nn r as=o:=by
 subst hZ;simp only[fnR,if_pos hl,h]
theorem SW{r s:MR}{Z:Ro}{z:Str}(h:r Z=some z):JP r s Z=some z:=by simp only[JP,h,Option.some_or]
theorem SX{r s:MR}{Z:Ro}{o:Option Str}(h:r Z=none)(h2:s Z=o):JP r s Z=o:=by simp only[JP,h,h2,Option.none_or]
noncomputable def DJ(W:List Str)(r:MR):Prop:=∀Z z,r Z=some z->z∈W
noncomputable def Jo(W:List Str)(Ψ:FnR):Prop:=∀as z,Ψ as=some z->z∈W
section
variable{W:List Str}{r s:MR}{c:MT}
theorem EX{x:Str}(h:x∈W):DJ W (ID x):=fun Z z e=>by cases e; exact h
theorem Fy(h:DJ W r):DJ W (ifR c r):=fun Z z e=>by
 simp only[ifR,bind_eq_some_iff] at e;obtain⟨p,_,e⟩:=e;split at e
 .exact h _ _ e
 .cases e
theorem EG(h:DJ W r)(k:DJ W s):DJ W (O2 c r s):=fun Z z e=>by
 simp only[O2,bind_eq_some_iff] at e;obtain⟨p,_,e⟩:=e;split at e
 .exact h _ _ e
 .exact k _ _ e
theorem EE(h:DJ W r)(k:DJ W s):DJ W (JP r s):=fun Z z e=>by
 simp only[JP] at e;rcases Option.or_eq_some_iff.mp e with e|⟨_,e⟩
 .exact h _ _ e
 .exact k _ _ e
theorem EH{a:MS}(h:DJ W r):DJ W (Sa a r):=fun Z z e=>by
 simp only[Sa,bind_eq_some_iff] at e;obtain⟨f,_,e⟩:=e;split at e
 .exact h _ _ e
 .cases e
theorem EF{Ψ:FnR}{m:MA}(h:Jo W Ψ):DJ W (DM Ψ m):=fun Z z e=>by
 simp only[DM,bind_eq_some_iff] at e;obtain⟨p,_,as,_,e⟩:=e;split at e
 .exact h _ _ e
 .cases e
theorem HJ{np nn:Nat}(h:DJ W r):Jo W (fnR np nn r):=fun as z e=>by
 unfold fnR at e;split at e
 .exact h _ _ e
 .cases e
end
section
variable{i:Nat}{m:ME}{Z:Ro}{QS:Fl->Prop}{QI:List D->Option Nat->Ro->Prop}
theorem GQ{Z:Ro}{i:Nat}{d:D}(h:free Z i=true):Ju [i] true d Z=some (Z.set i (J.own d)):=if_pos h
end
end J
end
section
namespace St
noncomputable def hit(f:Nat->List Int)(bs:List Int)(c:Nat):Bool:=(f c).any fun x=>decide (x∈bs)
noncomputable def fs(f:Nat->List Int):List Int->List Nat->List Nat
 | _,[]=>[]
 | bs,c::w=>if hit f bs c then fs f (bs++f c) w else c::fs f (bs++f c) w
noncomputable def rs(f:Nat->List Int):List Int->List Nat->List Nat
 | _,[]=>[]
 | bs,c::w=>if hit f bs c then c::rs f (bs++f c) w else rs f (bs++f c) w
noncomputable def srt(cs:List Nat):List Nat:=cs.mergeSort fun a b=>decide (a<=b)
variable{f:Nat->List Int}
noncomputable def pl(f:Nat->List Int):List Int->Nat->List Nat->List Nat
 | _,_,[]=>[]
 | bs,k,c::w=>if hit f bs c then pl f (bs++f c) (k+1) w else k::pl f (bs++f c) (k+1) w
end St
end
section
namespace St
variable{f:Nat->List Int}
noncomputable def lst(cs:List Nat):Nat:=(srt cs).headD 0
end St
end
section
namespace St
variable{f:Nat->List Int}
noncomputable def dec(k:Nat->Nat)(c:Nat):Nat->Nat:=fun d=>if d=c then k d-1 else k d
noncomputable def wi:(Nat->Nat)->List Nat->List Nat
 | _,[]=>[]
 | k,c::w=>if 0<k c then c::wi (dec k c) w else wi k w
noncomputable def pt(o:List Nat):List Nat->List Nat->List Nat->List Nat×List Nat
 | ws,bs,[]=>(ws,bs)
 | ws,bs,c::w=>if ws.count c<o.count c then pt o (ws++[c]) bs w else pt o ws (bs++[c]) w
end St
end
section
namespace J
open PySem L2
theorem Cq(ds:List D):fzs (ds.map A.fz)=some ds:=by
 induction ds with
 | nil=>rfl
 | cons d ds ih=>simp[fzs,ih]
theorem HF(ds:List D):ers (ds.map A.fz)=some ds:=by
 induction ds with
 | nil=>simp[ers]
 | cons d ds ih=>simp[ers,er,ih]
theorem NX(Z:Ro):lock Z none=Z:=rfl
theorem LI(Z:Ro)(n:Option Nat):unlock Z (lock Z n) n=Z:=by
 cases n with
 | none=>rfl
 | some i =>
  simp only[unlock,lock];split
  .rename_i s e
   apply List.ext_getElem?;intro j;by_cases h:j=i
   .subst h
    have hj:j<Z.length:=AG e;split
    .rw[List.getElem?_set_self (by simpa using hj),e]
    .rw[List.getElem?_set_self hj,e]
   .split
    .rw[List.getElem?_set_ne (Ne.symm h),List.getElem?_set_ne (Ne.symm h)]
    .rw[List.getElem?_set_ne (Ne.symm h)]
  .rename_i e
   split
   .rename_i st a e'
    rw[e] at e'; cases e'
   .rfl
theorem OL{c:MT}{e:ME}{f:D->D}{g:D->Bool}{Z:Ro}:∀{ds:List D},(∀d∈ds,c (own d::Z)=some (g d,own d::Z))->(∀d∈ds,g d=true->∃r,e (own d::Z)=some (r,own d::Z)/\share (own d::Z) r=some (f d,own d::Z))->Fc 0 c e ds Z=some ((ds.filter g).map f,Z):=by
 intro _l;induction _l with
 | nil =>
  intro _ _;exact rfl
 | cons d ds ih =>
  intro hc he;have ih:=ih (fun x hx=>hc x (List.mem_cons_of_mem _ hx)) fun x hx=>he x (List.mem_cons_of_mem _ hx);simp only[Fc,My,Option.bind_some,List.map_cons,List.map_nil,List.cons_append,List.nil_append,hc d List.mem_cons_self];cases h:g d with
  | true =>
   obtain⟨r,h1,h2⟩:=he d List.mem_cons_self h;simp[h1,h2,ih,h]
  | false=>simp[ih,h]
theorem OM{it:MI}{c:MT}{e:ME}{f:D->D}{g:D->Bool}{Z Z1:Ro}{ds:List D}{n:Option Nat}(hi:it Z=some (ds,n,Z1))(hl:ds.length<=LIM)(hc:∀d∈ds,c (own d::lock Z1 n)=some (g d,own d::lock Z1 n))(he:∀d∈ds,g d=true->∃r,e (own d::lock Z1 n)=some (r,own d::lock Z1 n)/\share (own d::lock Z1 n) r=some (f d,own d::lock Z1 n)):BL it 0 c e Z=some (.val (.lst (((ds.filter g).map f).map A.fz)),Z1):=by
 simp only[BL,hi,Option.bind_some,hl,if_true,OL hc he,Option.map_some,LI]
theorem GS{it:MI}{e:ME}{f:D->D}{Z Z1:Ro}{ds:List D}{n:Option Nat}(hi:it Z=some (ds,n,Z1))(hl:ds.length<=LIM)(he:∀d∈ds,∃r,e (own d::lock Z1 n)=some (r,own d::lock Z1 n)/\share (own d::lock Z1 n) r=some (f d,own d::lock Z1 n)):BL it 0 Hj e Z=some (.val (.lst ((ds.map f).map A.fz)),Z1):=by
 have:=OM (g:=fun _=>true) (c:=Hj) hi hl (fun d _=>rfl) fun d hd _=>he d hd;rw[List.filter_eq_self.mpr (fun _ _=>rfl)] at this;exact this
theorem Ge(lo:Int)(n:Nat):(EJ lo n).length=n:=by simp[EJ]
theorem IU{lo:Int}{n j:Nat}{d:D}(h:(EJ lo n)[j]? = some d):d=.int (lo+j)/\j<n:=by
 have hj:j<n:=by have:=AG h; simpa[EJ] using this
 simp only[EJ,List.getElem?_map,List.getElem?_range hj,Option.map_some,Option.some.injEq] at h;exact⟨h.symm,hj⟩
noncomputable def iL(xs:List Int):List D:=xs.map D.int
theorem Nb(xs:List Int):(iL xs).all BX=true:=by simp[iL,BX,List.all_eq_true]
theorem OW(x:Int)(xs:List Int):inD (.int x) (iL xs)=decide (x∈xs):=by
 induction xs with
 | nil=>rfl
 | cons y ys ih =>
  have:inD (.int x) (iL (y::ys))=(eqD (.int y) (.int x) || inD (.int x) (iL ys)):=rfl;rw[this,ih];simp only[Gj,List.mem_cons];by_cases h:y=x
  .subst h; simp
  .have h':¬x=y:=fun z=>h z.symm
   simp[h,h']
theorem Fu{α:Type}(xs:List α)(f:α -> Bool):DL (xs.map fun x=>D.bl (f x))=some (xs.map f):=by
 induction xs with
 | nil=>rfl
 | cons x xs ih=>simp[DL,ih]
theorem K5(xs:List Int):OY (iL xs)=some xs:=by
 induction xs with
 | nil=>rfl
 | cons x xs ih =>
  simp only[iL,List.map_cons,OY] at ih |-;rw[ih]; rfl
end J
namespace J
open PySem L2
@[simp] theorem NP(xs:List Int):(iL xs).length=xs.length:=by simp[iL]
theorem TX{d:D}{xs:List Int}:d∈iL xs↔∃i∈xs,d=.int i:=by
 simp only[iL,List.mem_map];constructor
 .rintro ⟨i,h,rfl⟩; exact⟨i,h,rfl⟩
 .rintro ⟨i,h,rfl⟩; exact⟨i,h,rfl⟩
noncomputable def nD:D->Int
 | .int i=>i
 | _=>0
@[simp] theorem WJ(i:Int):nD (.int i)=i:=rfl
theorem TQ{β:Type}(f:Int -> β)(xs:List Int):(iL xs).map (fun d=>f (nD d))=xs.map f:=by simp[iL]
end J
namespace J
open PySem L2
theorem Bf{a b:MS}{Z Z1:Ro}(h:a Z=some (.next Z1)):Az a b Z=b Z1:=by simp[Az,h]
theorem VI{c:MT}{a b:MS}{Z Z1:Ro}(h:c Z=some (false,Z1)):ifS c a b Z=b Z1:=by simp[ifS,h]
theorem QD{m:ME}{Z Z1:Ro}{b:Bool}(h:m Z=some (.val (.fz (.bl b)),Z1)):AX m Z=some (b,Z1):=by simp[AX,h,peek,D2]
theorem not_of{m:MT}{Z Z1:Ro}{b:Bool}(h:m Z=some (b,Z1)):C5 m Z=some (!b,Z1):=by simp[C5,h]
theorem Hg{m:ME}{Z Z1:Ro}{a:A}(h:m Z=some (.val a,Z1)):retS m Z=some (.ret a Z1):=by simp[retS,h,move]
theorem JU{m:ME}{Z Z1:Ro}{a:A}{i:Nat}(h:m Z=some (.val a,Z1))(hf:free Z1 i=true):AF i m Z=some (.next (Z1.set i (some (.own,a)))):=by simp[AF,h,keep,hf]
theorem DR{np nn:Nat}{b:MS}{args:List (Own×A)}{a:A}{Z:Ro}(hl:args.length=np)(h:b (args.map some++List.replicate (nn-np) none)=some (.ret a Z)):fnM np nn b args=some (a,(Z.take np).map GD):=by simp[fnM,hl,h]
end J
end
section
namespace J
open PySem L2
section
variable{i:Nat}{m e:ME}{Z:Ro}{QS:Fl->Prop}{Q:R->Ro->Prop}
theorem Ov{Z:Ro}{i:Nat}{ds:List D}(h : Z[i]? = some (some (.own,.lst (ds.map A.fz)))):share Z (.ref i)=some (.lst ds,Z.set i (some (.own,.fz (.lst ds)))):=by
 simp only[share,h,J.er,HF,Option.map_some]
end
end J
end
section
namespace Gk59
open PySem PySem.Spec PyProof.Rows L2 J
noncomputable def top(i:Nat):Stmt:=PySem.Challenge.pw_handsapart_k59_sets_known.main.body.getD i (.Pass ⟨0,0,0,0⟩)
noncomputable def Hm:MS:=retS (andM (opM (E7 isTup) (m1L (Ag 0))) (opM eqA (m2L (opM BZ (Aa (Ag 0) Ah)) (Af (.int 2)))))
noncomputable def Cu:Fn:=fnM 1 1 Hm
noncomputable def Gi:MS:=retS (andM (opM (E7 isInt) (m1L (Ag 0))) (notM (opM (E7 isBool) (m1L (Ag 0)))))
noncomputable def BY:Fn:=fnM 1 1 Gi
noncomputable def CU:MS:=retS (andM (Au BY (Aa (Ag 0) Ah)) (IZ leA leA (Af (.int 2)) (Ag 0) (Af (.int 4))))
noncomputable def Ba:Fn:=fnM 1 1 CU
noncomputable def Dt:MS:=retS (andM (Au BY (Aa (Ag 0) Ah)) (IZ leA ltA (Af (.int 0)) (Ag 0) (Ag 1)))
noncomputable def A6:Fn:=fnM 2 2 Dt
noncomputable def BQ:MS:=retS (opM GP (Aa (BL (Fs (Ag 0)) 0 Hj (Au A6 (Aa (Ag 0) (Aa (Ag 2) Ah)))) Ah))
noncomputable def Bt:Fn:=fnM 2 2 BQ
noncomputable def BM:MS:=retS (andM (opM (E7 Hr) (m1L (Ag 0))) (Au Bt (Aa (Ag 0) (Aa (Ag 1) Ah))))
noncomputable def AQ:Fn:=fnM 2 2 BM
noncomputable def Cf:MS:=Az (ifS (C5 (AX (Au AQ (Aa (Ag 0) (Aa (Ag 1) Ah))))) (retS (Af (.bl false))) Bp) (retS (opM GP (Aa (BL (Cj (opM FD (m2L (opM BZ (Aa (Ag 0) Ah)) (Af (.int 1))))) 0 Hj (opM ltA (m2L (opM ixA (m2L (Ag 1) (Ag 0))) (opM ixA (m2L (Ag 1) (opM A3 (m2L (Ag 0) (Af (.int 1))))))))) Ah)))
noncomputable def A1:Fn:=fnM 2 2 Cf
noncomputable def Du:MS:=retS (andM (opM (E7 isStr) (m1L (Ag 0))) (andM (opM eqA (m2L (opM BZ (Aa (Ag 0) Ah)) (Af (.int 1)))) (IZ leA leA (Af (.str (Str.ofString "a"))) (Ag 0) (Af (.str (Str.ofString "z"))))))
noncomputable def Bl:Fn:=fnM 1 1 Du
noncomputable def Gg:MS:=Az (ifS (orT (C5 (AX (Au Cu (Aa (Ag 1) Ah)))) (C5 (AX (Au Bl (Aa (opM ixA (m2L (Ag 1) (Af (.int 0)))) Ah))))) (retS (Af (.bl false))) Bp) (retS (andM (Au A1 (Aa (opM ixA (m2L (Ag 1) (Af (.int 1)))) (Aa (Ag 0) Ah))) (opM gtA (m2L (opM BZ (Aa (opM ixA (m2L (Ag 1) (Af (.int 1)))) Ah)) (Af (.int 0))))))
noncomputable def CB:Fn:=fnM 2 2 Gg
noncomputable def Dp:MS:=Az (ifS (orT (C5 (AX (opM (E7 Hr) (m1L (Ag 1))))) (C5 (AX (IZ leA leA (Af (.int 1)) (opM BZ (Aa (Ag 1) Ah)) (Af (.int 6)))))) (retS (Af (.bl false))) Bp) (Az (ifS (C5 (AX (opM GP (Aa (BL (Fs (Ag 1)) 0 Hj (Au CB (Aa (Ag 1) (Aa (Ag 0) Ah)))) Ah)))) (retS (Af (.bl false))) Bp) (retS (opM GP (Aa (BL (Cj (opM FD (m2L (opM BZ (Aa (Ag 1) Ah)) (Af (.int 1))))) 0 Hj (opM ltA (m2L (opM ixA (m2L (opM ixA (m2L (Ag 2) (Ag 0))) (Af (.int 0)))) (opM ixA (m2L (opM ixA (m2L (Ag 2) (opM A3 (m2L (Ag 0) (Af (.int 1)))))) (Af (.int 0))))))) Ah))))
noncomputable def CM:Fn:=fnM 2 2 Dp
noncomputable def Gh:MS:=Az (ifS (C5 (AX (Au Cu (Aa (Ag 0) Ah)))) (retS (Af (.bl false))) Bp) (retS (andM (Au Ba (Aa (opM ixA (m2L (Ag 0) (Af (.int 0)))) Ah)) (Au CM (Aa (opM ixA (m2L (Ag 0) (Af (.int 0)))) (Aa (opM ixA (m2L (Ag 0) (Af (.int 1)))) Ah)))))
noncomputable def Bu:Fn:=fnM 1 1 Gh
noncomputable def Fd:MS:=ifS (C5 (AX (Au Bu (Aa (Ag 0) Ah)))) (E3) Bp
noncomputable def Bx:Fn:=fnM 1 1 Fd
noncomputable def Ct:MS:=retS (andM (opM (E7 isStr) (m1L (Ag 0))) (opM (Tf [(Str.ofString "row",1),(Str.ofString "again",1),(Str.ofString "not",1),(Str.ofString "either",2),(Str.ofString "both",2),(Str.ofString "then",2)] false) (m1L (Ag 0))))
noncomputable def BW:Fn:=fnM 1 1 Ct
noncomputable def C2:MS:=retS (opM (O6 [(Str.ofString "row",1),(Str.ofString "again",1),(Str.ofString "not",1),(Str.ofString "either",2),(Str.ofString "both",2),(Str.ofString "then",2)]) (m1L (Ag 0)))
noncomputable def Cp:Fn:=fnM 1 1 C2
noncomputable def Ca:MS:=Az (ifS (orT (C5 (AX (opM (E7 isTup) (m1L (Ag 0))))) (orT (AX (opM eqA (m2L (opM BZ (Aa (Ag 0) Ah)) (Af (.int 0))))) (C5 (AX (Au BW (Aa (opM ixA (m2L (Ag 0) (Af (.int 0)))) Ah)))))) (retS (Af (.bl false))) Bp) (retS (opM eqA (m2L (opM BZ (Aa (Ag 0) Ah)) (opM A3 (m2L (Af (.int 1)) (Au Cp (Aa (opM ixA (m2L (Ag 0) (Af (.int 0)))) Ah)))))))
noncomputable def Bm:Fn:=fnM 1 1 Ca
noncomputable def DP:MS:=retS (MP Jy (Af (.str (Str.ofString ""))) (m1L (BL (Fs (opM ixA (m2L (Ag 0) (Af (.int 1))))) 0 Hj (opM ixA (m2L (Ag 0) (Af (.int 0)))))))
noncomputable def C9:Fn:=fnM 1 1 DP
noncomputable def Cs:MS:=Az (J7 (Au Bx (Aa (Ag 0) Ah))) (Az (ifS (C5 (AX (opM (E7 isStr) (m1L (Ag 1))))) (retS (Af (.bl false))) Bp) (Az (AF 2 (Au C9 (Aa (Ag 0) Ah))) (retS (opM GP (Aa (BL (Jn (Ag 1)) 0 Hj (opM (inA false) (m2L (Ag 0) (Ag 3)))) Ah)))))
noncomputable def DE:Fn:=fnM 2 3 Cs
noncomputable def Br:MS:=retS (andM (Au DE (Aa (Ag 0) (Aa (Ag 1) Ah))) (opM leA (m2L (opM BZ (Aa (Ag 1) Ah)) (Af (.int 4)))))
noncomputable def A7:Fn:=fnM 2 2 Br
noncomputable def FT:MS:=Az (J7 (Au Bx (Aa (Ag 0) Ah))) (Az (AF 2 (lstM (Aa (Ab (Ag 1)) Ah))) (Az (AF 3 (Af (.int 0))) (Az (AF 4 (Af (.int 0))) (Az (KD 100 (JQ (Ky (Ag 2)) (AX (opM ltA (m2L (Ag 3) (Af (.int 12)))))) (Az (MC 2 5) (Az (NH 3 (Af (.int 1))) (Az (ifS (C5 (AX (Au Bm (Aa (Ag 5) Ah)))) (retS (Af (.bl false))) Bp) (ifS (AX (opM (inG [Str.ofString "row",Str.ofString "again"] true) (m1L (opM ixA (m2L (Ag 5) (Af (.int 0))))))) (LW 2 (opM NC (m2L (Ag 5) (Af (.int 1))))) (ifS (AX (Au A7 (Aa (Ag 0) (Aa (opM ixA (m2L (Ag 5) (Af (.int 1)))) Ah)))) (NH 4 (Af (.int 1))) (retS (Af (.bl false))))))))) (retS (andM (N0 (Ag 2)) (opM leA (m2L (Ag 4) (Af (.int 5))))))))))
noncomputable def A5:Fn:=fnM 2 6 FT
noncomputable def CJ:MS:=Az (ifS (AX (opM geA (m2L (opM OE (Aa (Ag 0) Ah)) (opM RO (m2L (Af (.int 10)) (Af (.int 18))))))) (retS (lstM (Aa (Ab (opM OE (Aa (Ag 0) Ah))) (Aa (Ab (Af (.int 0))) Ah)))) Bp) (retS (lstM (Aa (Ab (opM La (m2L (Ag 0) (Af (.int 2147483647))))) (Aa (Ab (Af (.int 1))) Ah))))
noncomputable def Dk:Fn:=fnM 1 1 CJ
noncomputable def Ce:MS:=Az (ifS (AX (opM eqA (m2L (opM ixA (m2L (Ag 0) (Af (.int 1)))) (Af (.int 0))))) (Az (AF 2 (opM La (m2L (opM ixA (m2L (Ag 0) (Af (.int 0)))) (Ag 1)))) (Az (Lq 0 (Af (.int 0)) (opM KY (m2L (opM ixA (m2L (Ag 0) (Af (.int 0)))) (Ag 1)))) (retS (Ag 2)))) Bp) (Az (Lq 0 (Af (.int 0)) (opM La (m2L (opM A3 (m2L (opM A3 (m2L (opM Gv (m2L (opM ixA (m2L (Ag 0) (Af (.int 0)))) (Af (.int 48271)))) (opM Gv (m2L (opM Gv (m2L (Af (.int 7919)) (opM ixA (m2L (Ag 0) (Af (.int 1)))))) (opM ixA (m2L (Ag 0) (Af (.int 1)))))))) (Af (.int 17)))) (Af (.int 2147483647))))) (Az (Lq 0 (Af (.int 1)) (opM A3 (m2L (opM ixA (m2L (Ag 0) (Af (.int 1)))) (Af (.int 1))))) (retS (opM La (m2L (opM KY (m2L (opM La (m2L (opM Gv (m2L (opM ixA (m2L (Ag 0) (Af (.int 0)))) (Af (.int 69621)))) (Af (.int 2147483629)))) (Af (.int 5)))) (Ag 1))))))
noncomputable def Am:Fn:=fnM 2 3 Ce
noncomputable def DO:MS:=Az (AF 1 (opM A3 (m2L (Af (.int 2)) (Au Am (Aa (Ag 0) (Aa (Af (.int 3)) Ah)))))) (Az (AF 2 (opM A3 (m2L (Af (.int 1)) (Au Am (Aa (Ag 0) (Aa (Af (.int 6)) Ah)))))) (Az (AF 3 (Au Am (Aa (Ag 0) (Aa (Af (.int 2)) Ah)))) (Az (AF 4 (lstM Ah)) (Az (AF 5 (Af (.int 0))) (Az (G1 [6] true (Cj (Ag 2)) (Az (AF 5 (opM A3 (m2L (Ag 5) (Au Am (Aa (Ag 0) (Aa (opM FD (m2L (opM A3 (m2L (opM FD (m2L (Af (.int 27)) (Ag 2))) (Ag 6))) (Ag 5))) Ah)))))) (Az (AF 7 (opM A3 (m2L (Af (.int 1)) (Au Am (Aa (Ag 0) (Aa (opM FD (m2L (opM Kt (m2L (Af (.int 1)) (Ag 1))) (Af (.int 1)))) Ah)))))) (Az (ifS (AX (opM eqA (m2L (Ag 3) (Af (.int 1))))) (AF 7 (opM Q1 (m2L (opM Kt (m2L (Af (.int 1)) (Au Am (Aa (Ag 0) (Aa (Ag 1) Ah))))) (opM Kt (m2L (Af (.int 1)) (Au Am (Aa (Ag 0) (Aa (Ag 1) Ah)))))))) Bp) (Az (IX 4 (An (Aa (Ab (opM ixA (m2L (Af (.str (Str.ofString "abcdefghijklmnopqrstuvwxyz"))) (Ag 5)))) (Aa (Ab (BL (Cj (Ag 1)) 0 (AX (opM eqA (m2L (opM KL (m2L (opM MO (m2L (Ag 8) (Ag 0))) (Af (.int 1)))) (Af (.int 1))))) (Ag 0))) Ah)))) (AF 5 (opM A3 (m2L (Ag 5) (Af (.int 1)))))))))) (retS (An (Aa (Ab (Ag 1)) (Aa (Ab (Ag 4)) Ah)))))))))
noncomputable def BN:Fn:=fnM 1 8 DO
noncomputable def CK:MS:=Az (AF 3 (Af (.str (Str.ofString "")))) (Az (G1 [4] true (Cj (Au Am (Aa (Ag 0) (Aa (opM A3 (m2L (Ag 2) (Af (.int 1)))) Ah)))) (AF 3 (opM A3 (m2L (Ag 3) (opM ixA (m2L (opM ixA (m2L (opM ixA (m2L (Ag 1) (Af (.int 1)))) (Au Am (Aa (Ag 0) (Aa (opM BZ (Aa (opM ixA (m2L (Ag 1) (Af (.int 1)))) Ah)) Ah))))) (Af (.int 0)))))))) (retS (Ag 3)))
noncomputable def BD:Fn:=fnM 3 5 CK
noncomputable def DN:MS:=Az (AF 5 (An (Aa (Ab (Af (.str (Str.ofString "row")))) (Aa (Ab (opM RW (m2L (opM ixA (m2L (opM ixA (m2L (opM ixA (m2L (Ag 1) (Af (.int 1)))) (Af (.int 0)))) (Af (.int 0)))) (Ag 4)))) Ah)))) (Az (G1 [6] true (Cj (opM FD (m2L (Ag 2) (Af (.int 1))))) (Az (AF 7 (An (Aa (Ab (opM ixA (m2L (lstM (Aa (Ab (Af (.str (Str.ofString "row")))) (Aa (Ab (Af (.str (Str.ofString "again")))) Ah))) (Au Am (Aa (Ag 0) (Aa (Af (.int 2)) Ah)))))) (Aa (Ab (Au BD (Aa (Ag 0) (Aa (Ag 1) (Aa (Af (.int 4)) Ah))))) Ah)))) (Az (AF 8 (opM ixA (m2L (lstM (Aa (Ab (Af (.str (Str.ofString "either")))) (Aa (Ab (Af (.str (Str.ofString "both")))) (Aa (Ab (Af (.str (Str.ofString "then")))) Ah)))) (Au Am (Aa (Ag 0) (Aa (Af (.int 3)) Ah)))))) (AF 5 (opM ixA (m2L (lstM (Aa (Ab (An (Aa (Ab (Ag 8)) (Aa (Ab (Ag 5)) (Aa (Ab (Ag 7)) Ah))))) (Aa (Ab (An (Aa (Ab (Ag 8)) (Aa (Ab (Ag 7)) (Aa (Ab (Ag 5)) Ah))))) Ah))) (Au Am (Aa (Ag 0) (Aa (Af (.int 2)) Ah))))))))) (Az (G1 [6] true (Cj (opM A3 (m2L (opM FD (m2L (Ag 3) (opM Gv (m2L (Af (.int 2)) (Ag 2))))) (Af (.int 1))))) (AF 5 (An (Aa (Ab (Af (.str (Str.ofString "not")))) (Aa (Ab (Ag 5)) Ah))))) (retS (Ag 5))))
noncomputable def Bh:Fn:=fnM 5 9 DN
noncomputable def C1:MS:=Az (AF 2 (BL (Fs (opM ixA (m2L (Ag 1) (Af (.int 1))))) 0 Hj (opM ixA (m2L (Ag 0) (Af (.int 0)))))) (Az (AF 3 (BL (Jn (Af (.str (Str.ofString "abcdefghijklmnopqrstuvwxyz")))) 0 (AX (opM (inA true) (m2L (Ag 0) (Ag 3)))) (Ag 0))) (Az (AF 4 (opM ixA (m2L (Ag 3) (Au Am (Aa (Ag 0) (Aa (opM BZ (Aa (Ag 3) Ah)) Ah)))))) (Az (AF 5 (opM ixA (m2L (Ag 2) (Af (.int 0))))) (Az (AF 6 (lstM (Aa (Ab (Af .non)) (Aa (Ab (Af (.int 0))) (Aa (Ab (Af (.bl true))) (Aa (Ab (lstM Ah)) (Aa (Ab (lstM (Aa (Ab (Ag 5)) Ah))) (Aa (Ab (An (Aa (Ab (Ag 5)) Ah))) (Aa (Ab (Ag 4)) (Aa (Ab (opM A3 (m2L (Ag 5) (Ag 4)))) (Aa (Ab (opM A3 (m2L (Ag 4) (Ag 5)))) (Aa (Ab (opM A3 (m2L (Ag 5) (Af (.str (Str.ofString " ")))))) (Aa (Ab (Af (.str (Str.ofString " ")))) (Aa (Ab (Af (.str (Str.ofString "A")))) Ah)))))))))))))) (Az (IX 6 (Ab (opM A3 (m2L (Ag 5) (Af (.str (Str.ofString "0"))))))) (retS (opM ixA (m2L (Ag 6) (Au Am (Aa (Ag 0) (Aa (opM BZ (Aa (Ag 6) Ah)) Ah)))))))))))
noncomputable def Co:Fn:=fnM 2 7 C1
noncomputable def EN:MS:=Az (AF 2 (Au Co (Aa (Ag 0) (Aa (Ag 1) Ah)))) (Az (AF 3 (An (Aa (Ab (Af (.str (Str.ofString "row")))) (Aa (Ab (Af (.str (Str.ofString "")))) Ah)))) (Az (AF 4 (lstM (Aa (Ab (Af .non)) (Aa (Ab (Af (.int 0))) (Aa (Ab (Af (.bl true))) (Aa (Ab (Af (.str (Str.ofString "")))) (Aa (Ab (Af (.str (Str.ofString "row")))) (Aa (Ab (An Ah)) (Aa (Ab (lstM Ah)) (Aa (Ab (An (Aa (Ab (Af (.str (Str.ofString "row")))) Ah))) (Aa (Ab (An (Aa (Ab (Af (.str (Str.ofString "row")))) (Aa (Ab (Ag 2)) Ah)))) (Aa (Ab (An (Aa (Ab (Af (.str (Str.ofString "again")))) (Aa (Ab (Ag 2)) Ah)))) (Aa (Ab (lstM (Aa (Ab (Af (.str (Str.ofString "row")))) (Aa (Ab (Af (.str (Str.ofString "")))) Ah)))) (Aa (Ab (An (Aa (Ab (Af (.str (Str.ofString "row")))) (Aa (Ab (Af (.str (Str.ofString "")))) (Aa (Ab (Af (.str (Str.ofString "")))) Ah))))) Ah)))))))))))))) (Az (AF 4 (opM A3 (m2L (Ag 4) (lstM (Aa (Ab (An (Aa (Ab (Af (.str (Str.ofString "not")))) Ah))) (Aa (Ab (An (Aa (Ab (Af (.str (Str.ofString "not")))) (Aa (Ab (Ag 3)) (Aa (Ab (Ag 3)) Ah))))) (Aa (Ab (An (Aa (Ab (Af (.str (Str.ofString "not")))) (Aa (Ab (Ag 2)) Ah)))) (Aa (Ab (An (Aa (Ab (Af (.str (Str.ofString "not")))) (Aa (Ab (lstM (Aa (Ab (Af (.str (Str.ofString "row")))) (Aa (Ab (Af (.str (Str.ofString "")))) Ah)))) Ah)))) (Aa (Ab (An (Aa (Ab (Af (.str (Str.ofString "either")))) (Aa (Ab (Ag 3)) Ah)))) Ah))))))))) (Az (AF 4 (opM A3 (m2L (Ag 4) (lstM (Aa (Ab (An (Aa (Ab (Af (.str (Str.ofString "either")))) (Aa (Ab (Ag 3)) (Aa (Ab (Ag 2)) Ah))))) (Aa (Ab (An (Aa (Ab (Af (.str (Str.ofString "both")))) (Aa (Ab (Ag 2)) (Aa (Ab (Ag 3)) Ah))))) (Aa (Ab (An (Aa (Ab (Af (.str (Str.ofString "both")))) (Aa (Ab (Ag 3)) Ah)))) (Aa (Ab (An (Aa (Ab (Af (.str (Str.ofString "then")))) (Aa (Ab (Ag 3)) Ah)))) (Aa (Ab (An (Aa (Ab (Af (.str (Str.ofString "and")))) (Aa (Ab (Ag 3)) (Aa (Ab (Ag 3)) Ah))))) Ah))))))))) (Az (AF 4 (opM A3 (m2L (Ag 4) (lstM (Aa (Ab (An (Aa (Ab (Af (.str (Str.ofString "then")))) (Aa (Ab (Ag 3)) (Aa (Ab (Ag 3)) (Aa (Ab (Ag 3)) Ah)))))) (Aa (Ab (An (Aa (Ab (Af (.str (Str.ofString "Row")))) (Aa (Ab (Af (.str (Str.ofString "")))) Ah)))) (Aa (Ab (An (Aa (Ab (Af (.int 0))) (Aa (Ab (Af (.str (Str.ofString "")))) Ah)))) (Aa (Ab (An (Aa (Ab (Af .non)) (Aa (Ab (Af (.str (Str.ofString "")))) Ah)))) (Aa (Ab (An (Aa (Ab (Af (.str (Str.ofString "")))) (Aa (Ab (Af (.str (Str.ofString "")))) Ah)))) (Aa (Ab (An (Aa (Ab (An (Aa (Ab (Af (.str (Str.ofString "row")))) (Aa (Ab (Af (.str (Str.ofString "")))) Ah)))) Ah))) Ah)))))))))) (Az (AF 4 (opM A3 (m2L (Ag 4) (lstM (Aa (Ab (An (Aa (Ab (Af (.str (Str.ofString "either")))) (Aa (Ab (Ag 3)) (Aa (Ab (Af .non)) Ah))))) (Aa (Ab (An (Aa (Ab (Af (.str (Str.ofString "then")))) (Aa (Ab (Af .non)) (Aa (Ab (Ag 3)) Ah))))) Ah)))))) (retS (opM ixA (m2L (Ag 4) (Au Am (Aa (Ag 0) (Aa (opM BZ (Aa (Ag 4) Ah)) Ah))))))))))))
noncomputable def Dl:Fn:=fnM 2 5 EN
noncomputable def Cr:MS:=Az (AF 1 (lstM (Aa (Ab (Af .non)) (Aa (Ab (Af (.int 0))) (Aa (Ab (Af (.bl true))) (Aa (Ab (Af (.str (Str.ofString "")))) (Aa (Ab (Af (.str (Str.ofString "house")))) (Aa (Ab (An Ah)) (Aa (Ab (lstM Ah)) (Aa (Ab (An (Aa (Ab (Af (.int 2))) Ah))) (Aa (Ab (An (Aa (Ab (Af (.int 2))) (Aa (Ab (lstM Ah)) Ah)))) (Aa (Ab (An (Aa (Ab (Af (.int 1))) (Aa (Ab (lstM (Aa (Ab (An (Aa (Ab (Af (.str (Str.ofString "a")))) (Aa (Ab (lstM (Aa (Ab (Af (.int 0))) Ah))) Ah)))) Ah))) Ah)))) (Aa (Ab (An (Aa (Ab (Af (.int 5))) (Aa (Ab (lstM (Aa (Ab (An (Aa (Ab (Af (.str (Str.ofString "a")))) (Aa (Ab (lstM (Aa (Ab (Af (.int 0))) Ah))) Ah)))) Ah))) Ah)))) (Aa (Ab (An (Aa (Ab (Af (.str (Str.ofString "2")))) (Aa (Ab (lstM Ah)) Ah)))) Ah)))))))))))))) (Az (AF 1 (opM A3 (m2L (Ag 1) (lstM (Aa (Ab (An (Aa (Ab (Af (.bl true))) (Aa (Ab (lstM (Aa (Ab (An (Aa (Ab (Af (.str (Str.ofString "a")))) (Aa (Ab (lstM (Aa (Ab (Af (.int 0))) Ah))) Ah)))) Ah))) Ah)))) (Aa (Ab (lstM (Aa (Ab (Af (.int 2))) (Aa (Ab (lstM (Aa (Ab (An (Aa (Ab (Af (.str (Str.ofString "a")))) (Aa (Ab (lstM (Aa (Ab (Af (.int 0))) Ah))) Ah)))) Ah))) Ah)))) (Aa (Ab (An (Aa (Ab (Af (.int 2))) (Aa (Ab (An (Aa (Ab (An (Aa (Ab (Af (.str (Str.ofString "a")))) (Aa (Ab (lstM (Aa (Ab (Af (.int 0))) Ah))) Ah)))) Ah))) Ah)))) (Aa (Ab (An (Aa (Ab (Af (.int 2))) (Aa (Ab (lstM (Aa (Ab (lstM (Aa (Ab (Af (.str (Str.ofString "a")))) (Aa (Ab (lstM (Aa (Ab (Af (.int 0))) Ah))) Ah)))) Ah))) Ah)))) (Aa (Ab (An (Aa (Ab (Af (.int 2))) (Aa (Ab (lstM (Aa (Ab (An (Aa (Ab (Af (.str (Str.ofString "a")))) (Aa (Ab (lstM Ah)) Ah)))) Ah))) Ah)))) Ah))))))))) (Az (AF 1 (opM A3 (m2L (Ag 1) (lstM (Aa (Ab (An (Aa (Ab (Af (.int 2))) (Aa (Ab (lstM (Aa (Ab (An (Aa (Ab (Af (.str (Str.ofString "a")))) (Aa (Ab (lstM (Aa (Ab (Af (.int 2))) Ah))) Ah)))) Ah))) Ah)))) (Aa (Ab (An (Aa (Ab (Af (.int 2))) (Aa (Ab (lstM (Aa (Ab (An (Aa (Ab (Af (.str (Str.ofString "a")))) (Aa (Ab (lstM (Aa (Ab (Af (.int 1))) (Aa (Ab (Af (.int 0))) Ah)))) Ah)))) Ah))) Ah)))) (Aa (Ab (An (Aa (Ab (Af (.int 2))) (Aa (Ab (lstM (Aa (Ab (An (Aa (Ab (Af (.str (Str.ofString "a")))) (Aa (Ab (lstM (Aa (Ab (Af (.int 0))) (Aa (Ab (Af (.int 0))) Ah)))) Ah)))) Ah))) Ah)))) (Aa (Ab (An (Aa (Ab (Af (.int 2))) (Aa (Ab (lstM (Aa (Ab (An (Aa (Ab (Af (.str (Str.ofString "a")))) (Aa (Ab (An (Aa (Ab (Af (.int 0))) Ah))) Ah)))) Ah))) Ah)))) Ah)))))))) (Az (AF 1 (opM A3 (m2L (Ag 1) (lstM (Aa (Ab (An (Aa (Ab (Af (.int 2))) (Aa (Ab (lstM (Aa (Ab (An (Aa (Ab (Af (.str (Str.ofString "a")))) (Aa (Ab (lstM (Aa (Ab (Af (.bl true))) Ah))) Ah)))) Ah))) Ah)))) (Aa (Ab (An (Aa (Ab (Af (.int 2))) (Aa (Ab (lstM (Aa (Ab (An (Aa (Ab (Af (.str (Str.ofString "A")))) (Aa (Ab (lstM (Aa (Ab (Af (.int 0))) Ah))) Ah)))) Ah))) Ah)))) (Aa (Ab (An (Aa (Ab (Af (.int 2))) (Aa (Ab (lstM (Aa (Ab (An (Aa (Ab (Af (.str (Str.ofString "ab")))) (Aa (Ab (lstM (Aa (Ab (Af (.int 0))) Ah))) Ah)))) Ah))) Ah)))) (Aa (Ab (An (Aa (Ab (Af (.int 2))) (Aa (Ab (lstM (Aa (Ab (An (Aa (Ab (Af (.str (Str.ofString "")))) (Aa (Ab (lstM (Aa (Ab (Af (.int 0))) Ah))) Ah)))) Ah))) Ah)))) (Aa (Ab (An (Aa (Ab (Af (.int 2))) (Aa (Ab (lstM (Aa (Ab (An (Aa (Ab (Af (.str (Str.ofString "a")))) (Aa (Ab (lstM (Aa (Ab (opM Rt (m1L (Af (.int 1))))) Ah))) Ah)))) Ah))) Ah)))) Ah))))))))) (Az (AF 1 (opM A3 (m2L (Ag 1) (lstM (Aa (Ab (An (Aa (Ab (Af (.int 2))) (Aa (Ab (lstM (Aa (Ab (An (Aa (Ab (Af (.str (Str.ofString "b")))) (Aa (Ab (lstM (Aa (Ab (Af (.int 0))) Ah))) Ah)))) (Aa (Ab (An (Aa (Ab (Af (.str (Str.ofString "a")))) (Aa (Ab (lstM (Aa (Ab (Af (.int 1))) Ah))) Ah)))) Ah)))) Ah)))) (Aa (Ab (An (Aa (Ab (Af (.int 2))) (Aa (Ab (lstM (Aa (Ab (An (Aa (Ab (Af (.str (Str.ofString "a")))) (Aa (Ab (lstM (Aa (Ab (Af (.int 0))) Ah))) Ah)))) (Aa (Ab (An (Aa (Ab (Af (.str (Str.ofString "a")))) (Aa (Ab (lstM (Aa (Ab (Af (.int 1))) Ah))) Ah)))) Ah)))) Ah)))) (Aa (Ab (An (Aa (Ab (Af (.int 2))) (Aa (Ab (lstM (Aa (Ab (An (Aa (Ab (Af (.str (Str.ofString "a")))) (Aa (Ab (lstM (Aa (Ab (Af (.int 0))) Ah))) Ah)))) Ah))) (Aa (Ab (Af (.int 0))) Ah))))) Ah))))))) (Az (AF 1 (opM A3 (m2L (Ag 1) (lstM (Aa (Ab (An (Aa (Ab (Af (.int 3))) (Aa (Ab (BL (Jn (Af (.str (Str.ofString "abcdefg")))) 0 Hj (An (Aa (Ab (Ag 0)) (Aa (Ab (lstM (Aa (Ab (Af (.int 0))) Ah))) Ah))))) Ah)))) Ah))))) (retS (opM ixA (m2L (Ag 1) (Au Am (Aa (Ag 0) (Aa (opM BZ (Aa (Ag 1) Ah)) Ah)))))))))))
noncomputable def Bs:Fn:=fnM 1 2 Cr
noncomputable def Cd:MS:=Az (ifS (AX (opM ltA (m2L (Ag 1) (opM BZ (Aa (Ag 0) Ah))))) (retS (opM ixA (m2L (Ag 0) (Ag 1)))) Bp) (retS (Af (.int 0)))
noncomputable def CL:Fn:=fnM 2 2 Cd
noncomputable def Bj:FnR:=fnR 1 1 (ifR (C5 (AX (Au Bu (Aa (Ag 0) Ah)))) (ID "NoHouse"))
noncomputable def B4:FnR:=fnR 2 6 (DM Bj (Aa (Ag 0) Ah))
noncomputable def BH:FnR:=fnR 2 2 (JP (DM B4 (Aa (Ag 0) (Aa (Ag 1) Ah))) (ifR (C5 (AX (Au A5 (Aa (Ag 0) (Aa (Ag 1) Ah))))) (ID "NoSet")))
noncomputable def BA:FnR:=fnR 2 3 (DM BH (Aa (Ag 0) (Aa (Ag 1) Ah)))
noncomputable def HU(C:Addr)(j:Nat):MS:=Az (AF 1 (lstM (Aa (Ab (opM (Bb C (0==j)) (m1L (Ag 0)))) (Aa (Ab (opM (Bb C (1==j)) (m1L (Ag 0)))) (Aa (Ab (opM (Bb C (2==j)) (m1L (Ag 0)))) (Aa (Ab (opM (Bb C (3==j)) (m1L (Ag 0)))) Ah)))))) (Az (AF 1 (opM A3 (m2L (Ag 1) (lstM (Aa (Ab (opM (Bb C (4==j)) (m1L (Ag 0)))) (Aa (Ab (opM (Bb C (5==j)) (m1L (Ag 0)))) (Aa (Ab (opM (Bb C (6==j)) (m1L (Ag 0)))) (Aa (Ab (opM (Bb C (7==j)) (m1L (Ag 0)))) Ah)))))))) (Az (AF 1 (opM A3 (m2L (Ag 1) (lstM (Aa (Ab (opM (Bb C (8==j)) (m1L (Ag 0)))) (Aa (Ab (opM (Bb C (9==j)) (m1L (Ag 0)))) (Aa (Ab (opM (Bb C (10==j)) (m1L (Ag 0)))) (Aa (Ab (opM (Bb C (11==j)) (m1L (Ag 0)))) Ah)))))))) (Az (AF 1 (opM A3 (m2L (Ag 1) (lstM (Aa (Ab (opM (Bb C (12==j)) (m1L (Ag 0)))) (Aa (Ab (opM (Bb C (13==j)) (m1L (Ag 0)))) (Aa (Ab (opM (Bb C (14==j)) (m1L (Ag 0)))) Ah))))))) (Az (AF 2 (lstM (Aa (Ab (Af (.str (Str.ofString "NoHouse")))) (Aa (Ab (Af (.str (Str.ofString "NoRow")))) (Aa (Ab (Af (.str (Str.ofString "NoMachine")))) (Aa (Ab (Af (.str (Str.ofString "NoRoom")))) (Aa (Ab (Af (.str (Str.ofString "NoHand")))) (Aa (Ab (Af (.str (Str.ofString "Unlike")))) (Aa (Ab (Af (.str (Str.ofString "NoPast")))) (Aa (Ab (Af (.str (Str.ofString "TooMany")))) (Aa (Ab (Af (.str (Str.ofString "Torn")))) (Aa (Ab (Af (.str (Str.ofString "NoTable")))) Ah)))))))))))) (Az (AF 2 (opM A3 (m2L (Ag 2) (lstM (Aa (Ab (Af (.str (Str.ofString "NoSet")))) (Aa (Ab (Af (.str (Str.ofString "Falls")))) (Aa (Ab (Af (.str (Str.ofString "Whole")))) (Aa (Ab (Af (.str (Str.ofString "NoText")))) (Aa (Ab (Af (.str (Str.ofString "NoWord")))) Ah))))))))) (Az (AF 3 (BL (Cj (Af (.int 15))) 0 (AX (opM ixA (m2L (Ag 2) (Ag 0)))) (opM ixA (m2L (Ag 3) (Ag 0))))) (Az (ifS (orT (AX (opM neA (m2L (opM BZ (Aa (Ag 3) Ah)) (Af (.int 1))))) (C5 (AX (opM (Bb C true) (m1L (Ag 0)))))) (retS (Af (.str (Str.ofString "else")))) Bp) (retS (opM ixA (m2L (Ag 3) (Af (.int 0))))))))))))
noncomputable def Dc(C:Addr)(j:Nat):Fn:=fnM 1 4 (HU C j)
noncomputable def GU:MS:=Az (E3) (retS (Af (.str (Str.ofString "none"))))
noncomputable def Be:MR:=DM BA (Aa (Ag 0) (Aa (Ag 1) Ah))
noncomputable def A0:Fn:=E4 2 3 GU Be
noncomputable def HS:MS:=Az (E3) Bp
noncomputable def BB:MR:=DM B4 (Aa (Ag 0) (Aa (Ag 1) Ah))
noncomputable def BO:Fn:=E4 2 3 HS BB
noncomputable def J2:MS:=Az (G1 [1] true (Cj (opM TR (Aa (Af (.int 1)) (Aa (opM TY (Aa (Af (.int 12)) (Aa (opM BZ (Aa (Ag 0) Ah)) Ah))) Ah)))) (Az (AF 2 (Au Dk (Aa (opM A3 (m2L (Au CL (Aa (Ag 0) (Aa (Ag 1) Ah))) (Ag 1))) Ah))) (Az (AF 3 (Au BN (Aa (Ag 2) Ah))) (Az (AF 4 (opM A3 (m2L (Af (.int 1)) (Au Am (Aa (Ag 2) (Aa (Af (.int 5)) Ah)))))) (Az (AF 5 (opM A3 (m2L (opM FD (m2L (opM Gv (m2L (Af (.int 2)) (Ag 4))) (Af (.int 1)))) (Au Am (Aa (Ag 2) (Aa (opM FD (m2L (Af (.int 14)) (opM Gv (m2L (Af (.int 2)) (Ag 4))))) Ah)))))) (Az (ifS (AX (opM Md (m2L (Au A5 (Aa (Ag 3) (Aa (Au Bh (Aa (Ag 2) (Aa (Ag 3) (Aa (Ag 4) (Aa (Ag 5) (Aa (Au Am (Aa (Ag 2) (Aa (Af (.int 5)) Ah))) Ah)))))) Ah))) (Af (.bl true))))) (retS (Af (.bl false))) Bp) (Az (AF 6 (lstM (Aa (Ab (An (Aa (Ab (Af (.int 6))) (Aa (Ab (Af (.int 11))) (Aa (Ab (Af (.int 1))) Ah))))) (Aa (Ab (An (Aa (Ab (Af (.int 6))) (Aa (Ab (Af (.int 12))) (Aa (Ab (Af (.int 4))) Ah))))) (Aa (Ab (An (Aa (Ab (Af (.int 1))) (Aa (Ab (Af (.int 13))) (Aa (Ab (Af (.int 0))) Ah))))) (Aa (Ab (An (Aa (Ab (Af (.int 5))) (Aa (Ab (Af (.int 13))) (Aa (Ab (Af (.int 2))) Ah))))) (Aa (Ab (An (Aa (Ab (Ag 4)) (Aa (Ab (Ag 5)) (Aa (Ab (Af (.int 5))) Ah))))) (Aa (Ab (An (Aa (Ab (Af (.int 1))) (Aa (Ab (Af (.int 1))) (Aa (Ab (Af (.int 5))) Ah))))) (Aa (Ab (An (Aa (Ab (Ag 4)) (Aa (Ab (Ag 5)) (Aa (Ab (Af (.int 40))) Ah))))) Ah))))))))) (Az (AF 7 (opM ixA (m2L (Ag 6) (Au Am (Aa (Ag 2) (Aa (opM BZ (Aa (Ag 6) Ah)) Ah)))))) (Az (AF 8 (Au Bh (Aa (Ag 2) (Aa (Ag 3) (Aa (opM ixA (m2L (Ag 7) (Af (.int 0)))) (Aa (opM ixA (m2L (Ag 7) (Af (.int 1)))) (Aa (opM ixA (m2L (Ag 7) (Af (.int 2)))) Ah))))))) (Az (AF 9 (Au Dl (Aa (Ag 2) (Aa (Ag 3) Ah)))) (Az (G1 [10] true (Fs (lstM (Aa (Ab (Ag 8)) (Aa (Ab (Ag 9)) (Aa (Ab (An (Aa (Ab (Af (.str (Str.ofString "not")))) (Aa (Ab (Ag 9)) Ah)))) (Aa (Ab (An (Aa (Ab (Af (.str (Str.ofString "then")))) (Aa (Ab (An (Aa (Ab (Af (.str (Str.ofString "row")))) (Aa (Ab (Af (.str (Str.ofString "")))) Ah)))) (Aa (Ab (Ag 9)) Ah))))) Ah)))))) (ifS (orT (AX (opM Md (m2L (Au A5 (Aa (Ag 3) (Aa (Ag 10) Ah))) (Af (.bl false))))) (AX (opM neA (m2L (Au A0 (Aa (Ag 3) (Aa (Ag 10) Ah))) (Af (.str (Str.ofString "NoSet"))))))) (retS (Af (.bl false))) Bp)) (Az (AF 11 (Au Bs (Aa (Ag 2) Ah))) (ifS (orT (AX (opM neA (m2L (Au A0 (Aa (Ag 11) (Aa (Ag 9) Ah))) (Af (.str (Str.ofString "NoHouse")))))) (AX (opM neA (m2L (Au BO (Aa (Ag 11) (Aa (An (Aa (Ab (Af (.str (Str.ofString "row")))) (Aa (Ab (Af (.str (Str.ofString "")))) Ah))) Ah))) (Af (.str (Str.ofString "NoHouse"))))))) (retS (Af (.bl false))) Bp))))))))))))) (retS (Af (.bl true)))
noncomputable def G0:Fn:=fnM 1 12 J2
local macro_rules | `(tactic| walk_at $s:str)=>do
 let n:=s.getString
 if n.startsWith "v" && n.length < 4 && n != "vis" then `(tactic| exact Pc $(Lean.quote (n.drop 1).toNat!) rfl (by walk_at "vis") dK dK) else Lean.Macro.throwUnsupported
local macro_rules | `(tactic| walk_at "vis")=>`(tactic| first | exact .inl rfl | exact .inr (.inl rfl) | exact .inr (.inr rfl))
local macro_rules | `(tactic| walk_at "loc")=>`(tactic| first | exact .inl rfl | exact .inr rfl)
structure Blt2 (mg:Str->Option Value):Prop where
 sorted:mg "sorted" = none
 set:mg "set" = none
 enumerate:mg "enumerate" = none
 zip:mg "zip" = none
 reversed:mg "reversed" = none
section
variable{P:Program}{w:World}{K:Frag}{mg:Str->Option Value}{base:Heap}{XC:Str->Addr}
theorem Mt{f:Addr}{fd:FuncData}(F:Fun K "is_pair" "is_pair" (top 20) f fd)(B:Blt mg K)(B2:Blt2 mg):
  FnOk P w K mg base CX0 1 f fd ["thing"] (spJ K Cu 1):=by
 refine Bv (N:=["thing"]) F ⟨rfl,rfl,rfl,dK,rfl,dK,dK⟩ fun cdv A outer s H E hr=>?_;refine As ?_;refine AH ?_;refine Dq ?_ ?_;refine O9 rfl rfl B rfl rfl ?_;walk_at "v0";refine DW ?_;refine ES Il (F9 hr) (Bz _) ?_ ?_;refine AK BS AY B.len Boot.«len» dK dK rfl rfl rfl ?_;refine Ac rfl ?_ ?_;walk_at "v0";exact Ae;exact Ai
theorem Li{f:Addr}{fd:FuncData}(F:Fun K "is_whole" "is_whole" (top 18) f fd)(B:Blt mg K)(B2:Blt2 mg):
  FnOk P w K mg base CX0 1 f fd ["thing"] (spJ K BY 1):=by
 refine Bv (N:=["thing"]) F ⟨rfl,rfl,rfl,dK,rfl,dK,dK⟩ fun cdv A outer s H E hr=>?_;refine As ?_;refine AH ?_;refine Dq ?_ ?_;refine Tu rfl rfl B rfl rfl ?_;walk_at "v0";refine DW ?_;refine Tw ?_;refine Tt rfl rfl B rfl rfl ?_;walk_at "v0"
theorem Fo{f:Addr}{fd:FuncData}(F:Fun K "is_count_of_hands" "is_count_of_hands" (top 29) f fd)(B:Blt mg K)(B2:Blt2 mg)(CZ:Def P w K mg base CX0 1 "is_whole" ["thing"] (spJ K BY 1))(DT:GInt mg "FEWEST_HANDS" 2)(EO:GInt mg "MOST_HANDS" 4):
  FnOk P w K mg base CX0 2 f fd ["thing"] (spJ K Ba 1):=by
 refine Bv (N:=["thing"]) F ⟨rfl,rfl,rfl,dK,rfl,dK,dK⟩ fun cdv A outer s H E hr=>?_;refine As ?_;refine AH ?_;refine Dq ?_ ?_;refine Av CZ Aw rfl rfl rfl rfl rfl hr (by decide) AJ dK rfl rfl rfl ?_;refine Ac rfl ?_ ?_;walk_at "v0";exact Ae;refine DW ?_;refine Me GA GA DA DA (by with_unfolding_all rfl) ?_ ?_ ?_;exact Fv DT rfl dK;walk_at "v0";exact Fv EO rfl dK
theorem F5{f:Addr}{fd:FuncData}(F:Fun K "is_number_below" "is_number_below" (top 19) f fd)(B:Blt mg K)(B2:Blt2 mg)(CZ:Def P w K mg base CX0 1 "is_whole" ["thing"] (spJ K BY 1)):
  FnOk P w K mg base CX0 2 f fd ["thing","bound"] (spJ K A6 2):=by
 refine Bv (N:=["thing","bound"]) F ⟨rfl,rfl,rfl,dK,rfl,dK,dK⟩ fun cdv A outer s H E hr=>?_;refine As ?_;refine AH ?_;refine Dq ?_ ?_;refine Av CZ Aw rfl rfl rfl rfl rfl hr (by decide) AJ dK rfl rfl rfl ?_;refine Ac rfl ?_ ?_;walk_at "v0";exact Ae;refine DW ?_;refine Me GA Lj DA GB (by with_unfolding_all rfl) ?_ ?_ ?_;exact Ai;walk_at "v0";walk_at "v1"
theorem Fm{f:Addr}{fd:FuncData}(F:Fun K "are_numbers_below" "are_numbers_below" (top 22) f fd)(B:Blt mg K)(B2:Blt2 mg)(CF:Def P w K mg base CX0 2 "is_number_below" ["thing","bound"] (spJ K A6 2)):
  FnOk P w K mg base CX0 3 f fd ["things","bound"] (spJ K Bt 2):=by
 refine Bv (N:=["things","bound"]) F ⟨rfl,rfl,rfl,dK,rfl,dK,dK⟩ fun cdv A outer s H E hr=>?_;have nd2:List.Nodup (["things","bound"]:List Str):=by decide +kernel
 refine As ?_;refine AH ?_;refine AK Ij (Fb rfl) B.all Boot.«all» dK dK rfl rfl rfl ?_;refine Ac rfl ?_ ?_;refine ET (by rfl) rfl nd2 (by rfl) (fun _=>rfl) ?_ ?_ ?_;refine Ic ?_;walk_at "v0";exact D6;intro _ _ _ _ _;refine Av CF Aw rfl rfl rfl rfl rfl hr (by decide) AJ dK rfl rfl rfl ?_;refine Ac rfl ?_ ?_;walk_at "v0";refine Ac rfl ?_ ?_;walk_at "v2";exact Ae;exact Ae
theorem Dz{f:Addr}{fd:FuncData}(F:Fun K "is_list_of_numbers_below" "is_list_of_numbers_below" (top 21) f fd)(B:Blt mg K)(B2:Blt2 mg)(B8:Def P w K mg base CX0 3 "are_numbers_below" ["things","bound"] (spJ K Bt 2)):
  FnOk P w K mg base CX0 4 f fd ["thing","bound"] (spJ K AQ 2):=by
 refine Bv (N:=["thing","bound"]) F ⟨rfl,rfl,rfl,dK,rfl,dK,dK⟩ fun cdv A outer s H E hr=>?_;refine As ?_;refine AH ?_;refine Dq ?_ ?_;refine O8 rfl rfl B rfl rfl ?_;walk_at "v0";refine DW ?_;refine Av B8 Aw rfl rfl rfl rfl rfl hr (by decide) AJ dK rfl rfl rfl ?_;refine Ac rfl ?_ ?_;walk_at "v0";refine Ac rfl ?_ ?_;walk_at "v1";exact Ae
theorem ED{f:Addr}{fd:FuncData}(F:Fun K "is_rising_list_below" "is_rising_list_below" (top 23) f fd)(B:Blt mg K)(B2:Blt2 mg)(Bk:Def P w K mg base CX0 4 "is_list_of_numbers_below" ["thing","bound"] (spJ K AQ 2)):
  FnOk P w K mg base CX0 5 f fd ["thing","bound"] (spJ K A1 2):=by
 refine Bv (N:=["thing","bound"]) F ⟨rfl,rfl,rfl,dK,rfl,dK,dK⟩ fun cdv A outer s H E hr=>?_;have nd2:List.Nodup (["thing","bound"]:List Str):=by decide +kernel
 refine Aj ?_ ?_;refine CO ?_ ?_ ?_;refine Cw ?_;refine Cb (fun _=>rfl) ?_;refine Av Bk Aw rfl rfl rfl rfl rfl hr (by decide) AJ dK rfl rfl rfl ?_;refine Ac rfl ?_ ?_;walk_at "v0";refine Ac rfl ?_ ?_;walk_at "v1";exact Ae;refine As ?_;refine AH ?_;exact CC;exact Bn;refine As ?_;refine AH ?_;refine AK Ij (Fb rfl) B.all Boot.«all» dK dK rfl rfl rfl ?_;refine Ac rfl ?_ ?_;refine ET (by rfl) rfl nd2 (by rfl) (fun _=>rfl) ?_ ?_ ?_;refine D5 rfl B.range rfl ?_;refine Ax EW EY ?_ ?_;refine AK BS AY B.len Boot.«len» dK dK rfl rfl rfl ?_;refine Ac rfl ?_ ?_;walk_at "v0";exact Ae;exact Ai;exact D6;intro _ _ _ _ _;refine ES Lj GB (Bz _) ?_ ?_;refine AM AN AD (fun _ _=>rfl) ?_ ?_;walk_at "v1";walk_at "v0";refine AM AN AD (fun _ _=>rfl) ?_ ?_;walk_at "v1";refine Ax AU AI ?_ ?_;walk_at "v0";exact Ai;exact Ae
theorem F6{f:Addr}{fd:FuncData}(F:Fun K "is_small_letter" "is_small_letter" (top 32) f fd)(B:Blt mg K)(B2:Blt2 mg):
  FnOk P w K mg base CX0 1 f fd ["thing"] (spJ K Bl 1):=by
 refine Bv (N:=["thing"]) F ⟨rfl,rfl,rfl,dK,rfl,dK,dK⟩ fun cdv A outer s H E hr=>?_;refine As ?_;refine AH ?_;refine Dq ?_ ?_;refine Mf rfl rfl B rfl rfl ?_;walk_at "v0";refine Dq ?_ ?_;refine ES Il (F9 hr) (Bz _) ?_ ?_;refine AK BS AY B.len Boot.«len» dK dK rfl rfl rfl ?_;refine Ac rfl ?_ ?_;walk_at "v0";exact Ae;exact Ai;refine DW ?_;refine Me GA GA DA DA (by with_unfolding_all rfl) ?_ ?_ ?_;exact Al dK;walk_at "v0";exact Al dK
theorem Lg{f:Addr}{fd:FuncData}(F:Fun K "is_entry" "is_entry" (top 31) f fd)(B:Blt mg K)(B2:Blt2 mg)(BI:Def P w K mg base CX0 5 "is_rising_list_below" ["thing","bound"] (spJ K A1 2))(DD:Def P w K mg base CX0 1 "is_pair" ["thing"] (spJ K Cu 1))(CG:Def P w K mg base CX0 1 "is_small_letter" ["thing"] (spJ K Bl 1)):
  FnOk P w K mg base CX0 6 f fd ["hands","thing"] (spJ K CB 2):=by
 refine Bv (N:=["hands","thing"]) F ⟨rfl,rfl,rfl,dK,rfl,dK,dK⟩ fun cdv A outer s H E hr=>?_;refine Aj ?_ ?_;refine CO ?_ ?_ ?_;refine EU ?_;refine Ie ?_ ?_;refine Cw ?_;refine Cb (fun _=>rfl) ?_;refine Av DD Aw rfl rfl rfl rfl rfl hr (by decide) AJ dK rfl rfl rfl ?_;refine Ac rfl ?_ ?_;walk_at "v1";exact Ae;refine G8 ?_;refine Cw ?_;refine Cb (fun _=>rfl) ?_;refine Av CG Aw rfl rfl rfl rfl rfl hr (by decide) AJ dK rfl rfl rfl ?_;refine Ac rfl ?_ ?_;refine AM AN AD (fun _ _=>rfl) ?_ ?_;walk_at "v1";exact Ai;exact Ae;refine As ?_;refine AH ?_;exact CC;exact Bn;refine As ?_;refine AH ?_;refine Dq ?_ ?_;refine Av BI Aw rfl rfl rfl rfl rfl hr (by decide) AJ dK rfl rfl rfl ?_;refine Ac rfl ?_ ?_;refine AM AN AD (fun _ _=>rfl) ?_ ?_;walk_at "v1";exact Ai;refine Ac rfl ?_ ?_;walk_at "v0";exact Ae;refine DW ?_;refine ES VO VQ (Bz _) ?_ ?_;refine AK BS AY B.len Boot.«len» dK dK rfl rfl rfl ?_;refine Ac rfl ?_ ?_;refine AM AN AD (fun _ _=>rfl) ?_ ?_;walk_at "v1";exact Ai;exact Ae;exact Ai
theorem Ik{f:Addr}{fd:FuncData}(F:Fun K "are_entries" "are_entries" (top 30) f fd)(B:Blt mg K)(B2:Blt2 mg)(FR:Def P w K mg base CX0 6 "is_entry" ["hands","thing"] (spJ K CB 2))(DU:GInt mg "MOST_LETTERS" 6):
  FnOk P w K mg base CX0 7 f fd ["hands","thing"] (spJ K CM 2):=by
 refine Bv (N:=["hands","thing"]) F ⟨rfl,rfl,rfl,dK,rfl,dK,dK⟩ fun cdv A outer s H E hr=>?_;have nd2:List.Nodup (["hands","thing"]:List Str):=by decide +kernel
 refine Aj ?_ ?_;refine CO ?_ ?_ ?_;refine EU ?_;refine Ie ?_ ?_;refine Cw ?_;refine Cb (fun _=>rfl) ?_;refine O8 rfl rfl B rfl rfl ?_;walk_at "v1";refine G8 ?_;refine Cw ?_;refine Tz GA GA DA DA (by with_unfolding_all rfl) ?_ ?_ ?_;exact Ai;refine AK BS AY B.len Boot.«len» dK dK rfl rfl rfl ?_;refine Ac rfl ?_ ?_;walk_at "v1";exact Ae;exact Fv DU rfl dK;refine As ?_;refine AH ?_;exact CC;exact Bn;refine Aj ?_ ?_;refine CO ?_ ?_ ?_;refine Cw ?_;refine Cb (fun _=>rfl) ?_;refine AK Ij (Fb rfl) B.all Boot.«all» dK dK rfl rfl rfl ?_;refine Ac rfl ?_ ?_;refine ET (by rfl) rfl nd2 (by rfl) (fun _=>rfl) ?_ ?_ ?_;refine Ic ?_;walk_at "v1";exact D6;intro _ _ _ _ _;refine Av FR Aw rfl rfl rfl rfl rfl hr (by decide) AJ dK rfl rfl rfl ?_;refine Ac rfl ?_ ?_;walk_at "v1";refine Ac rfl ?_ ?_;walk_at "v0";exact Ae;exact Ae;refine As ?_;refine AH ?_;exact CC;exact Bn;refine As ?_;refine AH ?_;refine AK Ij (Fb rfl) B.all Boot.«all» dK dK rfl rfl rfl ?_;refine Ac rfl ?_ ?_;refine ET (by rfl) rfl nd2 (by rfl) (fun _=>rfl) ?_ ?_ ?_;refine D5 rfl B.range rfl ?_;refine Ax EW EY ?_ ?_;refine AK BS AY B.len Boot.«len» dK dK rfl rfl rfl ?_;refine Ac rfl ?_ ?_;walk_at "v1";exact Ae;exact Ai;exact D6;intro _ _ _ _ _;refine ES Lj GB (Bz _) ?_ ?_;refine AM AN AD (fun _ _=>rfl) ?_ ?_;refine AM AN AD (fun _ _=>rfl) ?_ ?_;walk_at "v2";walk_at "v0";exact Ai;refine AM AN AD (fun _ _=>rfl) ?_ ?_;refine AM AN AD (fun _ _=>rfl) ?_ ?_;walk_at "v2";refine Ax AU AI ?_ ?_;walk_at "v0";exact Ai;exact Ai;exact Ae
theorem Lh{f:Addr}{fd:FuncData}(F:Fun K "is_house" "is_house" (top 28) f fd)(B:Blt mg K)(B2:Blt2 mg)(DD:Def P w K mg base CX0 1 "is_pair" ["thing"] (spJ K Cu 1))(B9:Def P w K mg base CX0 2 "is_count_of_hands" ["thing"] (spJ K Ba 1))(Ea:Def P w K mg base CX0 7 "are_entries" ["hands","thing"] (spJ K CM 2)):
  FnOk P w K mg base CX0 8 f fd ["thing"] (spJ K Bu 1):=by
 refine Bv (N:=["thing"]) F ⟨rfl,rfl,rfl,dK,rfl,dK,dK⟩ fun cdv A outer s H E hr=>?_;refine Aj ?_ ?_;refine CO ?_ ?_ ?_;refine Cw ?_;refine Cb (fun _=>rfl) ?_;refine Av DD Aw rfl rfl rfl rfl rfl hr (by decide) AJ dK rfl rfl rfl ?_;refine Ac rfl ?_ ?_;walk_at "v0";exact Ae;refine As ?_;refine AH ?_;exact CC;exact Bn;refine As ?_;refine AH ?_;refine Dq ?_ ?_;refine Av B9 Aw rfl rfl rfl rfl rfl hr (by decide) AJ dK rfl rfl rfl ?_;refine Ac rfl ?_ ?_;refine AM AN AD (fun _ _=>rfl) ?_ ?_;walk_at "v0";exact Ai;exact Ae;refine DW ?_;refine Av Ea Aw rfl rfl rfl rfl rfl hr (by decide) AJ dK rfl rfl rfl ?_;refine Ac rfl ?_ ?_;refine AM AN AD (fun _ _=>rfl) ?_ ?_;walk_at "v0";exact Ai;refine Ac rfl ?_ ?_;refine AM AN AD (fun _ _=>rfl) ?_ ?_;walk_at "v0";exact Ai;exact Ae
theorem Jh{f:Addr}{fd:FuncData}(F:Fun K "need_house" "need_house" (top 33) f fd)(B:Blt mg K)(B2:Blt2 mg)(CY:Def P w K mg base CX0 8 "is_house" ["thing"] (spJ K Bu 1)):
  FnOk P w K mg base CX0 9 f fd ["house"] (spJ K Bx 1):=by
 refine Bv (N:=["house"]) F ⟨rfl,rfl,rfl,dK,rfl,dK,dK⟩ fun cdv A outer s H E hr=>?_;refine As ?_;refine CO ?_ ?_ ?_;refine Cw ?_;refine Cb (fun _=>rfl) ?_;refine Av CY Aw rfl rfl rfl rfl rfl hr (by decide) AJ dK rfl rfl rfl ?_;refine Ac rfl ?_ ?_;walk_at "v0";exact Ae;refine As ?_;exact Pk;exact Bn
theorem Gz{f:Addr}{fd:FuncData}(F:Fun K "is_word_of_set" "is_word_of_set" (top 85) f fd)(B:Blt mg K)(B2:Blt2 mg)(BE:GDct K w mg "PARTS_BEHIND" [(Str.ofString "row",1),(Str.ofString "again",1),(Str.ofString "not",1),(Str.ofString "either",2),(Str.ofString "both",2),(Str.ofString "then",2)]):
  FnOk P w K mg base CX0 1 f fd ["thing"] (spJ K BW 1):=by
 refine Bv (N:=["thing"]) F ⟨rfl,rfl,rfl,dK,rfl,dK,dK⟩ fun cdv A outer s H E hr=>?_;refine As ?_;refine AH ?_;refine Dq ?_ ?_;refine Mf rfl rfl B rfl rfl ?_;walk_at "v0";refine DW ?_;refine Rc hr BE rfl dK (by with_unfolding_all rfl) ?_;walk_at "v0"
theorem HA{f:Addr}{fd:FuncData}(F:Fun K "parts_behind" "parts_behind" (top 86) f fd)(B:Blt mg K)(B2:Blt2 mg)(BE:GDct K w mg "PARTS_BEHIND" [(Str.ofString "row",1),(Str.ofString "again",1),(Str.ofString "not",1),(Str.ofString "either",2),(Str.ofString "both",2),(Str.ofString "then",2)]):
  FnOk P w K mg base CX0 1 f fd ["word"] (spJ K Cp 1):=by
 refine Bv (N:=["word"]) F ⟨rfl,rfl,rfl,dK,rfl,dK,dK⟩ fun cdv A outer s H E hr=>?_;refine As ?_;refine AH ?_;refine Rf hr BE rfl dK (fun _ _=>rfl) ?_;walk_at "v0"
theorem F7{f:Addr}{fd:FuncData}(F:Fun K "is_tuple_of_set" "is_tuple_of_set" (top 84) f fd)(B:Blt mg K)(B2:Blt2 mg)(C0:Def P w K mg base CX0 1 "is_word_of_set" ["thing"] (spJ K BW 1))(DI:Def P w K mg base CX0 1 "parts_behind" ["word"] (spJ K Cp 1)):
  FnOk P w K mg base CX0 2 f fd ["thing"] (spJ K Bm 1):=by
 refine Bv (N:=["thing"]) F ⟨rfl,rfl,rfl,dK,rfl,dK,dK⟩ fun cdv A outer s H E hr=>?_;refine Aj ?_ ?_;refine CO ?_ ?_ ?_;refine EU ?_;refine Ie ?_ ?_;refine Cw ?_;refine Cb (fun _=>rfl) ?_;refine O9 rfl rfl B rfl rfl ?_;walk_at "v0";refine Ie ?_ ?_;refine CP Il (F9 hr) (Bz _) ?_ ?_;refine AK BS AY B.len Boot.«len» dK dK rfl rfl rfl ?_;refine Ac rfl ?_ ?_;walk_at "v0";exact Ae;exact Ai;refine G8 ?_;refine Cw ?_;refine Cb (fun _=>rfl) ?_;refine Av C0 Aw rfl rfl rfl rfl rfl hr (by decide) AJ dK rfl rfl rfl ?_;refine Ac rfl ?_ ?_;refine AM AN AD (fun _ _=>rfl) ?_ ?_;walk_at "v0";exact Ai;exact Ae;refine As ?_;refine AH ?_;exact CC;exact Bn;refine As ?_;refine AH ?_;refine ES Il (F9 hr) (Bz _) ?_ ?_;refine AK BS AY B.len Boot.«len» dK dK rfl rfl rfl ?_;refine Ac rfl ?_ ?_;walk_at "v0";exact Ae;refine Ax AU AI ?_ ?_;exact Ai;refine Av DI Aw rfl rfl rfl rfl rfl hr (by decide) AJ dK rfl rfl rfl ?_;refine Ac rfl ?_ ?_;refine AM AN AD (fun _ _=>rfl) ?_ ?_;walk_at "v0";exact Ai;exact Ae
theorem Jg{f:Addr}{fd:FuncData}(F:Fun K "letters_of" "letters_of" (top 34) f fd)(B:Blt mg K)(B2:Blt2 mg):
  FnOk P w K mg base CX0 1 f fd ["house"] (spJ K C9 1):=by
 refine Bv (N:=["house"]) F ⟨rfl,rfl,rfl,dK,rfl,dK,dK⟩ fun cdv A outer s H E hr=>?_;have nd1:List.Nodup (["house"]:List Str):=by decide +kernel
 refine As ?_;refine AH ?_;refine Rg rfl rfl B rfl ?_ ?_;exact Al dK;refine ET (by rfl) rfl nd1 (by rfl) (fun _=>rfl) ?_ ?_ ?_;refine Ic ?_;refine AM AN AD (fun _ _=>rfl) ?_ ?_;walk_at "v0";exact Ai;exact D6;intro _ _ _ _ _;refine AM AN AD (fun _ _=>rfl) ?_ ?_;walk_at "v0";exact Ai
theorem N4{f:Addr}{fd:FuncData}(F:Fun K "is_row" "is_row" (top 37) f fd)(B:Blt mg K)(B2:Blt2 mg)(B1:Def P w K mg base CX0 9 "need_house" ["house"] (spJ K Bx 1))(EM:Def P w K mg base CX0 1 "letters_of" ["house"] (spJ K C9 1)):
  FnOk P w K mg base CX0 10 f fd ["house","thing"] (spJ K DE 2):=by
 refine Bv (N:=["house","thing","letters"]) F ⟨rfl,rfl,rfl,dK,rfl,dK,dK⟩ fun cdv A outer s H E hr=>?_;have nd3:List.Nodup (["house","thing","letters"]:List Str):=by decide +kernel
 refine Aj ?_ ?_;refine Pj rfl ?_;refine Av B1 Aw rfl rfl rfl rfl rfl hr (by decide) AJ dK rfl rfl rfl ?_;refine Ac rfl ?_ ?_;walk_at "v0";exact Ae;refine Aj ?_ ?_;refine CO ?_ ?_ ?_;refine Cw ?_;refine Cb (fun _=>rfl) ?_;refine Mf rfl rfl B rfl rfl ?_;walk_at "v1";refine As ?_;refine AH ?_;exact CC;exact Bn;refine Aj ?_ ?_;refine AB 2 nd3 rfl (by walk_at "loc") rfl rfl ?_;refine Av EM Aw rfl rfl rfl rfl rfl hr (by decide) AJ dK rfl rfl rfl ?_;refine Ac rfl ?_ ?_;walk_at "v0";exact Ae;refine As ?_;refine AH ?_;refine AK Ij (Fb rfl) B.all Boot.«all» dK dK rfl rfl rfl ?_;refine Ac rfl ?_ ?_;refine ET (by rfl) rfl nd3 (by rfl) (fun _=>rfl) ?_ ?_ ?_;refine Mg ?_;walk_at "v1";exact D6;intro _ _ _ _ _;refine ES (SF false) Ui (by with_unfolding_all rfl) ?_ ?_;walk_at "v0";walk_at "v3";exact Ae
theorem Hb{f:Addr}{fd:FuncData}(F:Fun K "is_row_of_set" "is_row_of_set" (top 87) f fd)(B:Blt mg K)(B2:Blt2 mg)(HN:Def P w K mg base CX0 10 "is_row" ["house","thing"] (spJ K DE 2))(BK:GInt mg "MOST_LETTERS_OF_ROWS" 4):
  FnOk P w K mg base CX0 11 f fd ["house","thing"] (spJ K A7 2):=by
 refine Bv (N:=["house","thing"]) F ⟨rfl,rfl,rfl,dK,rfl,dK,dK⟩ fun cdv A outer s H E hr=>?_;refine As ?_;refine AH ?_;refine Dq ?_ ?_;refine Av HN Aw rfl rfl rfl rfl rfl hr (by decide) AJ dK rfl rfl rfl ?_;refine Ac rfl ?_ ?_;walk_at "v0";refine Ac rfl ?_ ?_;walk_at "v1";exact Ae;refine DW ?_;refine ES GA DA (Bz _) ?_ ?_;refine AK BS AY B.len Boot.«len» dK dK rfl rfl rfl ?_;refine Ac rfl ?_ ?_;walk_at "v1";exact Ae;exact Fv BK rfl dK
theorem N5{f:Addr}{fd:FuncData}(F:Fun K "is_set" "is_set" (top 83) f fd)(B:Blt mg K)(B2:Blt2 mg)(B1:Def P w K mg base CX0 9 "need_house" ["house"] (spJ K Bx 1))(CH:Def P w K mg base CX0 2 "is_tuple_of_set" ["thing"] (spJ K Bm 1))(Dn:Def P w K mg base CX0 11 "is_row_of_set" ["house","thing"] (spJ K A7 2))(Fg:GInt mg "MOST_ROWS" 5)(Eg:GInt mg "MOST_TUPLES" 12)(Fh:GTup K mg "ROW_WORDS" [Str.ofString "row",Str.ofString "again"]):
  FnOk P w K mg base CX0 12 f fd ["house","thing"] (spJ K A5 2):=by
 refine Bv (N:=["house","thing","pending","tuples","rows","one"]) F ⟨rfl,rfl,rfl,dK,rfl,dK,dK⟩ fun cdv A outer s H E hr=>?_;have nd6:List.Nodup (["house","thing","pending","tuples","rows","one"]:List Str):=by decide +kernel
 refine Aj ?_ ?_;refine Pj rfl ?_;refine Av B1 Aw rfl rfl rfl rfl rfl hr (by decide) AJ dK rfl rfl rfl ?_;refine Ac rfl ?_ ?_;walk_at "v0";exact Ae;refine Aj ?_ ?_;refine AB 2 nd6 rfl (by walk_at "loc") rfl rfl ?_;refine Aq ?_;refine Ac rfl ?_ ?_;refine Ad ?_;walk_at "v1";exact Ae;refine Aj ?_ ?_;refine AB 3 nd6 rfl (by walk_at "loc") rfl rfl ?_;exact Ai;refine Aj ?_ ?_;refine AB 4 nd6 rfl (by walk_at "loc") rfl rfl ?_;exact Ai;refine Aj ?_ ?_;refine Pl 100 PassesOwn.never ?_ ?_;refine EU ?_;refine TB ?_ ?_;refine Rn (fun _=>rfl) ?_;walk_at "v2";refine Rp ?_;refine CP Lj GB (Bz _) ?_ ?_;walk_at "v3";exact Fv Eg rfl dK;refine Aj ?_ ?_;exact Tx 2 5 rfl (by walk_at "vis") dK dK rfl rfl nd6 rfl (by walk_at "loc") rfl rfl rfl (.inl rfl);refine Aj ?_ ?_;refine Ph 3 nd6 rfl (by walk_at "loc") rfl ?_;exact Ai;refine Aj ?_ ?_;refine CO ?_ ?_ ?_;refine Cw ?_;refine Cb (fun _=>rfl) ?_;refine Av CH Aw rfl rfl rfl rfl rfl hr (by decide) AJ dK rfl rfl rfl ?_;refine Ac rfl ?_ ?_;walk_at "v5";exact Ae;refine As ?_;refine AH ?_;exact CC;exact Bn;refine As ?_;refine CO ?_ ?_ ?_;refine Rm Fh rfl dK (by with_unfolding_all rfl) ?_;refine AM AN AD (fun _ _=>rfl) ?_ ?_;walk_at "v5";exact Ai;refine As ?_;refine Rl 2 rfl (by walk_at "vis") dK dK rfl rfl rfl rfl ?_;refine Pb ?_ ?_;walk_at "v5";exact Ai;refine As ?_;refine CO ?_ ?_ ?_;refine Cb (fun _=>rfl) ?_;refine Av Dn Aw rfl rfl rfl rfl rfl hr (by decide) AJ dK rfl rfl rfl ?_;refine Ac rfl ?_ ?_;walk_at "v0";refine Ac rfl ?_ ?_;refine AM AN AD (fun _ _=>rfl) ?_ ?_
 walk_at "v5";exact Ai;exact Ae;refine As ?_;refine Ph 4 nd6 rfl (by walk_at "loc") rfl ?_;exact Ai;refine As ?_;refine AH ?_;exact CC;refine As ?_;refine AH ?_;refine Dq ?_ ?_;refine Rh ?_;walk_at "v2";refine DW ?_;refine ES GA DA (Bz _) ?_ ?_;walk_at "v4";exact Fv Fg rfl dK
theorem Ld{f:Addr}{fd:FuncData}(F:Fun K "_law_bag" "_law_bag" (top 98) f fd)(B:Blt mg K)(B2:Blt2 mg):
  FnOk P w K mg base CX0 1 f fd ["_law_cell_here"] (spJ K Dk 1):=by
 refine Bv (N:=["_law_cell_here"]) F ⟨rfl,rfl,rfl,dK,rfl,dK,dK⟩ fun cdv A outer s H E hr=>?_;refine Aj ?_ ?_;refine CO ?_ ?_ ?_;refine CP VN VP (Bz _) ?_ ?_;refine AK Pz KO B.abs Boot.«abs» dK dK rfl rfl rfl ?_;refine Ac rfl ?_ ?_;walk_at "v0";exact Ae;refine Ax Ua Uj ?_ ?_;exact Ai;exact Ai;refine As ?_;refine AH ?_;refine Aq ?_;refine Ac rfl ?_ ?_;refine Ad ?_;refine AK Pz KO B.abs Boot.«abs» dK dK rfl rfl rfl ?_;refine Ac rfl ?_ ?_;walk_at "v0";exact Ae;refine Ac rfl ?_ ?_;refine Ad ?_;exact Ai;exact Ae;exact Bn;refine As ?_;refine AH ?_;refine Aq ?_;refine Ac rfl ?_ ?_;refine Ad ?_;refine Ax Im Io ?_ ?_;walk_at "v0";exact Ai;refine Ac rfl ?_ ?_;refine Ad ?_;exact Ai;exact Ae
theorem Kj{f:Addr}{fd:FuncData}(F:Fun K "_law_take" "_law_take" (top 94) f fd)(B:Blt mg K)(B2:Blt2 mg):
  FnOk P w K mg base CX0 1 f fd ["_law_bag_here","_law_many"] (spJ K Am 2):=by
 refine Bv (N:=["_law_bag_here","_law_many","_law_digit"]) F ⟨rfl,rfl,rfl,dK,rfl,dK,dK⟩ fun cdv A outer s H E hr=>?_;have nd3:List.Nodup (["_law_bag_here","_law_many","_law_digit"]:List Str):=by decide +kernel
 refine Aj ?_ ?_;refine CO ?_ ?_ ?_;refine CP Il (F9 hr) (Bz _) ?_ ?_;refine AM AN AD (fun _ _=>rfl) ?_ ?_;walk_at "v0";exact Ai;exact Ai;refine Aj ?_ ?_;refine AB 2 nd3 rfl (by walk_at "loc") rfl rfl ?_;refine Ax Im Io ?_ ?_;refine AM AN AD (fun _ _=>rfl) ?_ ?_;walk_at "v0";exact Ai;walk_at "v1";refine Aj ?_ ?_;refine Mi 0 rfl (by walk_at "vis") dK dK (fun _=>rfl) rfl rfl rfl ?_ ?_;exact Ai;refine Ax Ng Ni ?_ ?_;refine AM AN AD (fun _ _=>rfl) ?_ ?_;walk_at "v0";exact Ai;walk_at "v1";refine As ?_;refine AH ?_;walk_at "v2";exact Bn;refine Aj ?_ ?_;refine Mi 0 rfl (by walk_at "vis") dK dK (fun _=>rfl) rfl rfl rfl ?_ ?_;exact Ai;refine Ax Im Io ?_ ?_;refine Ax AU AI ?_ ?_;refine Ax AU AI ?_ ?_;refine Ax F8 Ga ?_ ?_;refine AM AN AD (fun _ _=>rfl) ?_ ?_;walk_at "v0";exact Ai;exact Ai;refine Ax F8 Ga ?_ ?_;refine Ax F8 Ga ?_ ?_;exact Ai;refine AM AN AD (fun _ _=>rfl) ?_ ?_;walk_at "v0";exact Ai;refine AM AN AD (fun _ _=>rfl) ?_ ?_;walk_at "v0";exact Ai;exact Ai;exact Ai;refine Aj ?_ ?_;refine Mi 0 rfl (by walk_at "vis") dK dK (fun _=>rfl) rfl rfl rfl ?_ ?_;exact Ai;refine Ax AU AI ?_ ?_;refine AM AN AD (fun _ _=>rfl) ?_ ?_;walk_at "v0";exact Ai;exact Ai;refine As ?_;refine AH ?_;refine Ax Im Io ?_ ?_;refine Ax Ng Ni ?_ ?_;refine Ax Im Io ?_ ?_;refine Ax F8 Ga ?_ ?_;refine AM AN AD (fun _ _=>rfl) ?_ ?_;walk_at "v0";exact Ai;exact Ai;exact Ai;exact Ai;walk_at "v1"
theorem Je{f:Addr}{fd:FuncData}(F:Fun K "_law_house" "_law_house" (top 100) f fd)(B:Blt mg K)(B2:Blt2 mg)(Ao:Def P w K mg base CX0 1 "_law_take" ["_law_bag_here","_law_many"] (spJ K Am 2)):
  FnOk P w K mg base CX0 2 f fd ["_law_bag_here"] (spJ K BN 1):=by
 refine Bv (N:=["_law_bag_here","_law_hands","_law_many","_law_few","_law_letters","_law_at","_law_k","_law_bits"]) F ⟨rfl,rfl,rfl,dK,rfl,dK,dK⟩ fun cdv A outer s H E hr=>?_;have nd8:List.Nodup (["_law_bag_here","_law_hands","_law_many","_law_few","_law_letters","_law_at","_law_k","_law_bits"]:List Str):=by decide +kernel
 refine Aj ?_ ?_;refine AB 1 nd8 rfl (by walk_at "loc") rfl rfl ?_;refine Ax AU AI ?_ ?_;exact Ai;refine Av Ao Aw rfl rfl rfl rfl rfl hr (by decide) AJ dK rfl rfl rfl ?_;refine Ac rfl ?_ ?_;walk_at "v0";refine Ac rfl ?_ ?_;exact Ai;exact Ae;refine Aj ?_ ?_;refine AB 2 nd8 rfl (by walk_at "loc") rfl rfl ?_;refine Ax AU AI ?_ ?_;exact Ai;refine Av Ao Aw rfl rfl rfl rfl rfl hr (by decide) AJ dK rfl rfl rfl ?_;refine Ac rfl ?_ ?_;walk_at "v0";refine Ac rfl ?_ ?_;exact Ai;exact Ae;refine Aj ?_ ?_;refine AB 3 nd8 rfl (by walk_at "loc") rfl rfl ?_;refine Av Ao Aw rfl rfl rfl rfl rfl hr (by decide) AJ dK rfl rfl rfl ?_;refine Ac rfl ?_ ?_;walk_at "v0";refine Ac rfl ?_ ?_;exact Ai;exact Ae;refine Aj ?_ ?_;refine AB 4 nd8 rfl (by walk_at "loc") rfl rfl ?_;refine Aq ?_;exact Ae;refine Aj ?_ ?_;refine AB 5 nd8 rfl (by walk_at "loc") rfl rfl ?_;exact Ai;refine Aj ?_ ?_;refine G7 PassesOwn.never rfl ?_ ?_ ?_ (fun _=>rfl);refine D5 rfl B.range rfl ?_;walk_at "v2";exact Hc 6 nd8 rfl (by walk_at "loc") rfl;refine Aj ?_ ?_;refine AB 5 nd8 rfl (by walk_at "loc") rfl rfl ?_;refine Ax AU AI ?_ ?_;walk_at "v5";refine Av Ao Aw rfl rfl rfl rfl rfl hr (by decide) AJ dK rfl rfl rfl ?_;refine Ac rfl ?_ ?_;walk_at "v0";refine Ac rfl ?_ ?_;refine Ax EW EY ?_ ?_;refine Ax AU AI ?_ ?_;refine Ax EW EY ?_ ?_;exact Ai;walk_at "v2";walk_at "v6";walk_at "v5";exact Ae;refine Aj ?_ ?_;refine AB 7 nd8 rfl (by walk_at "loc") rfl rfl ?_;refine Ax AU AI ?_ ?_;exact Ai;refine Av Ao Aw rfl rfl rfl rfl rfl hr (by decide) AJ dK rfl rfl rfl ?_
 refine Ac rfl ?_ ?_;walk_at "v0";refine Ac rfl ?_ ?_;refine Ax EW EY ?_ ?_;refine Ax Mu Mx ?_ ?_;exact Ai;walk_at "v1";exact Ai;exact Ae;refine Aj ?_ ?_;refine CO ?_ ?_ ?_;refine CP Il (F9 hr) (Bz _) ?_ ?_;walk_at "v3";exact Ai;refine As ?_;refine AB 7 nd8 rfl (by walk_at "loc") rfl rfl ?_;refine Ax T2 VT ?_ ?_;refine Ax Mu Mx ?_ ?_;exact Ai;refine Av Ao Aw rfl rfl rfl rfl rfl hr (by decide) AJ dK rfl rfl rfl ?_;refine Ac rfl ?_ ?_;walk_at "v0";refine Ac rfl ?_ ?_;walk_at "v1";exact Ae;refine Ax Mu Mx ?_ ?_;exact Ai;refine Av Ao Aw rfl rfl rfl rfl rfl hr (by decide) AJ dK rfl rfl rfl ?_;refine Ac rfl ?_ ?_;walk_at "v0";refine Ac rfl ?_ ?_;walk_at "v1";exact Ae;exact Bn;refine Aj ?_ ?_;refine Pf 4 rfl (by walk_at "vis") dK dK rfl rfl rfl rfl ?_;refine Ak ?_;refine Ac rfl ?_ ?_;refine Ad ?_;refine AM AN AD (fun _ _=>rfl) ?_ ?_;exact Al dK;walk_at "v5";refine Ac rfl ?_ ?_;refine Ad ?_;refine ET (by rfl) rfl nd8 (by rfl) (fun _=>rfl) ?_ ?_ ?_;refine D5 rfl B.range rfl ?_;walk_at "v1";refine Ka fun _ _ _ _ _=>?_;refine CP Il (F9 hr) (Bz _) ?_ ?_;refine Ax Ry Ue ?_ ?_;refine Ax Uc Ul ?_ ?_;walk_at "v8";walk_at "v0";exact Ai;exact Ai;intro _ _ _ _ _;walk_at "v0";exact Ae;refine As ?_;refine AB 5 nd8 rfl (by walk_at "loc") rfl rfl ?_;refine Ax AU AI ?_ ?_;walk_at "v5";exact Ai;refine As ?_;refine AH ?_;refine Ak ?_;refine Ac rfl ?_ ?_;refine Ad ?_;walk_at "v1";refine Ac rfl ?_ ?_;refine Ad ?_;walk_at "v4";exact Ae
theorem Ha{f:Addr}{fd:FuncData}(F:Fun K "_law_word_row" "_law_word_row" (top 95) f fd)(B:Blt mg K)(B2:Blt2 mg)(Ao:Def P w K mg base CX0 1 "_law_take" ["_law_bag_here","_law_many"] (spJ K Am 2)):
  FnOk P w K mg base CX0 2 f fd ["_law_bag_here","_law_house_here","_law_most"] (spJ K BD 3):=by
 refine Bv (N:=["_law_bag_here","_law_house_here","_law_most","_law_row","_law_k"]) F ⟨rfl,rfl,rfl,dK,rfl,dK,dK⟩ fun cdv A outer s H E hr=>?_;have nd5:List.Nodup (["_law_bag_here","_law_house_here","_law_most","_law_row","_law_k"]:List Str):=by decide +kernel
 refine Aj ?_ ?_;refine AB 3 nd5 rfl (by walk_at "loc") rfl rfl ?_;exact Al dK;refine Aj ?_ ?_;refine G7 PassesOwn.never rfl ?_ ?_ ?_ (fun _=>rfl);refine D5 rfl B.range rfl ?_;refine Av Ao Aw rfl rfl rfl rfl rfl hr (by decide) AJ dK rfl rfl rfl ?_;refine Ac rfl ?_ ?_;walk_at "v0";refine Ac rfl ?_ ?_;refine Ax AU AI ?_ ?_;walk_at "v2";exact Ai;exact Ae;exact Hc 4 nd5 rfl (by walk_at "loc") rfl;refine As ?_;refine AB 3 nd5 rfl (by walk_at "loc") rfl rfl ?_;refine Ax AU AI ?_ ?_;walk_at "v3";refine AM AN AD (fun _ _=>rfl) ?_ ?_;refine AM AN AD (fun _ _=>rfl) ?_ ?_;refine AM AN AD (fun _ _=>rfl) ?_ ?_;walk_at "v1";exact Ai;refine Av Ao Aw rfl rfl rfl rfl rfl hr (by decide) AJ dK rfl rfl rfl ?_;refine Ac rfl ?_ ?_;walk_at "v0";refine Ac rfl ?_ ?_;refine AK BS AY B.len Boot.«len» dK dK rfl rfl rfl ?_;refine Ac rfl ?_ ?_;refine AM AN AD (fun _ _=>rfl) ?_ ?_;walk_at "v1";exact Ai;exact Ae;exact Ae;exact Ai;refine As ?_;refine AH ?_;walk_at "v3"
theorem Jd{f:Addr}{fd:FuncData}(F:Fun K "_law_chain" "_law_chain" (top 102) f fd)(B:Blt mg K)(B2:Blt2 mg)(Dm:Def P w K mg base CX0 2 "_law_word_row" ["_law_bag_here","_law_house_here","_law_most"] (spJ K BD 3))(Ao:Def P w K mg base CX0 1 "_law_take" ["_law_bag_here","_law_many"] (spJ K Am 2)):
  FnOk P w K mg base CX0 3 f fd ["_law_bag_here","_law_house_here","_law_rows","_law_tuples","_law_long"] (spJ K Bh 5):=by
 refine Bv (N:=["_law_bag_here","_law_house_here","_law_rows","_law_tuples","_law_long","_law_one","_law_k","_law_other","_law_word_here"]) F ⟨rfl,rfl,rfl,dK,rfl,dK,dK⟩ fun cdv A outer s H E hr=>?_;have nd9:List.Nodup (["_law_bag_here","_law_house_here","_law_rows","_law_tuples","_law_long","_law_one","_law_k","_law_other","_law_word_here"]:List Str):=by decide +kernel
 refine Aj ?_ ?_;refine AB 5 nd9 rfl (by walk_at "loc") rfl rfl ?_;refine Ak ?_;refine Ac rfl ?_ ?_;refine Ad ?_;exact Al dK;refine Ac rfl ?_ ?_;refine Ad ?_;refine Ax Ub Uk ?_ ?_;refine AM AN AD (fun _ _=>rfl) ?_ ?_;refine AM AN AD (fun _ _=>rfl) ?_ ?_;refine AM AN AD (fun _ _=>rfl) ?_ ?_;walk_at "v1";exact Ai;exact Ai;exact Ai;walk_at "v4";exact Ae;refine Aj ?_ ?_;refine G7 PassesOwn.never rfl ?_ ?_ ?_ (fun _=>rfl);refine D5 rfl B.range rfl ?_;refine Ax EW EY ?_ ?_;walk_at "v2";exact Ai;exact Hc 6 nd9 rfl (by walk_at "loc") rfl;refine Aj ?_ ?_;refine AB 7 nd9 rfl (by walk_at "loc") rfl rfl ?_;refine Ak ?_;refine Ac rfl ?_ ?_;refine Ad ?_;refine AM AN AD (fun _ _=>rfl) ?_ ?_;refine Aq ?_;refine Ac rfl ?_ ?_;refine Ad ?_;exact Al dK;refine Ac rfl ?_ ?_;refine Ad ?_;exact Al dK;exact Ae;refine Av Ao Aw rfl rfl rfl rfl rfl hr (by decide) AJ dK rfl rfl rfl ?_;refine Ac rfl ?_ ?_;walk_at "v0";refine Ac rfl ?_ ?_;exact Ai;exact Ae;refine Ac rfl ?_ ?_;refine Ad ?_;refine Av Dm Aw rfl rfl rfl rfl rfl hr (by decide) AJ dK rfl rfl rfl ?_;refine Ac rfl ?_ ?_;walk_at "v0";refine Ac rfl ?_ ?_;walk_at "v1";refine Ac rfl ?_ ?_;exact Ai;exact Ae;exact Ae;refine Aj ?_ ?_;refine AB 8 nd9 rfl (by walk_at "loc") rfl rfl ?_;refine AM AN AD (fun _ _=>rfl) ?_ ?_;refine Aq ?_;refine Ac rfl ?_ ?_;refine Ad ?_;exact Al dK;refine Ac rfl ?_ ?_;refine Ad ?_;exact Al dK;refine Ac rfl ?_ ?_;refine Ad ?_;exact Al dK;exact Ae;refine Av Ao Aw rfl rfl rfl rfl rfl hr (by decide) AJ dK rfl rfl rfl ?_;refine Ac rfl ?_ ?_
 walk_at "v0";refine Ac rfl ?_ ?_;exact Ai;exact Ae;refine As ?_;refine AB 5 nd9 rfl (by walk_at "loc") rfl rfl ?_;refine AM AN AD (fun _ _=>rfl) ?_ ?_;refine Aq ?_;refine Ac rfl ?_ ?_;refine Ad ?_;refine Ak ?_;refine Ac rfl ?_ ?_;refine Ad ?_;walk_at "v8";refine Ac rfl ?_ ?_;refine Ad ?_;walk_at "v5";refine Ac rfl ?_ ?_;refine Ad ?_;walk_at "v7";exact Ae;refine Ac rfl ?_ ?_;refine Ad ?_;refine Ak ?_;refine Ac rfl ?_ ?_;refine Ad ?_;walk_at "v8";refine Ac rfl ?_ ?_;refine Ad ?_;walk_at "v7";refine Ac rfl ?_ ?_;refine Ad ?_;walk_at "v5";exact Ae;exact Ae;refine Av Ao Aw rfl rfl rfl rfl rfl hr (by decide) AJ dK rfl rfl rfl ?_;refine Ac rfl ?_ ?_;walk_at "v0";refine Ac rfl ?_ ?_;exact Ai;exact Ae;refine Aj ?_ ?_;refine G7 PassesOwn.never rfl ?_ ?_ ?_ (fun _=>rfl);refine D5 rfl B.range rfl ?_;refine Ax AU AI ?_ ?_;refine Ax EW EY ?_ ?_;walk_at "v3";refine Ax F8 Ga ?_ ?_;exact Ai;walk_at "v2";exact Ai;exact Hc 6 nd9 rfl (by walk_at "loc") rfl;refine As ?_;refine AB 5 nd9 rfl (by walk_at "loc") rfl rfl ?_;refine Ak ?_;refine Ac rfl ?_ ?_;refine Ad ?_;exact Al dK;refine Ac rfl ?_ ?_;refine Ad ?_;walk_at "v5";exact Ae;refine As ?_;refine AH ?_;walk_at "v5"
theorem Hy{f:Addr}{fd:FuncData}(F:Fun K "_law_odd_row" "_law_odd_row" (top 96) f fd)(B:Blt mg K)(B2:Blt2 mg)(Ao:Def P w K mg base CX0 1 "_law_take" ["_law_bag_here","_law_many"] (spJ K Am 2)):
  FnOk P w K mg base CX0 2 f fd ["_law_bag_here","_law_house_here"] (spJ K Co 2):=by
 refine Bv (N:=["_law_bag_here","_law_house_here","_law_every","_law_other","_law_spare","_law_first","_law_some"]) F ⟨rfl,rfl,rfl,dK,rfl,dK,dK⟩ fun cdv A outer s H E hr=>?_;have nd7:List.Nodup (["_law_bag_here","_law_house_here","_law_every","_law_other","_law_spare","_law_first","_law_some"]:List Str):=by decide +kernel
 refine(fun h1 h2=>Aj h1 h2:_->_->_) ?_ ?_;refine(fun h1=>AB 2 nd7 rfl (by walk_at "loc") rfl rfl h1:_->_) ?_;refine(fun h1 h2 h3=>ET (by rfl) rfl nd7 (by rfl) (fun _=>rfl) h1 h2 h3:_->_->_->_) ?_ ?_ ?_;refine(fun h1=>Ic h1:_->_) ?_;refine(fun h1 h2=>AM AN AD (fun _ _=>rfl) h1 h2:_->_->_) ?_ ?_;walk_at "v1";exact Ai;exact D6;intro _ _ _ _ _;refine(fun h1 h2=>AM AN AD (fun _ _=>rfl) h1 h2:_->_->_) ?_ ?_;walk_at "v0";exact Ai;refine(fun h1 h2=>Aj h1 h2:_->_->_) ?_ ?_;refine(fun h1 h2 h3=>Pg 3 nd7 rfl rfl (by rfl) rfl (by rfl) (fun _=>rfl) rfl h1 h2 h3:_->_->_->_) ?_ ?_ ?_;refine(fun h1=>Mg h1:_->_) ?_;exact Al dK;refine Ka fun _ _ _ _ _=>?_;refine(fun h1 h2=>CP (SF true) Oa (by with_unfolding_all rfl) h1 h2:_->_->_) ?_ ?_;walk_at "v0";walk_at "v3";intro _ _ _ _ _;walk_at "v0";refine(fun h1 h2=>Aj h1 h2:_->_->_) ?_ ?_;refine(fun h1=>AB 4 nd7 rfl (by walk_at "loc") rfl rfl h1:_->_) ?_;refine(fun h1 h2=>AM AN AD (fun _ _=>rfl) h1 h2:_->_->_) ?_ ?_;walk_at "v3";refine Av Ao Aw rfl rfl rfl rfl rfl hr (by decide) AJ dK rfl rfl rfl ?_;refine(fun h1 h2=>Ac rfl h1 h2:_->_->_) ?_ ?_;walk_at "v0";refine(fun h1 h2=>Ac rfl h1 h2:_->_->_) ?_ ?_;refine AK BS AY B.len Boot.«len» dK dK rfl rfl rfl ?_;refine(fun h1 h2=>Ac rfl h1 h2:_->_->_) ?_ ?_;walk_at "v3";exact Ae;exact Ae;refine(fun h1 h2=>Aj h1 h2:_->_->_) ?_ ?_;refine(fun h1=>AB 5 nd7 rfl (by walk_at "loc") rfl rfl h1:_->_) ?_;refine(fun h1 h2=>AM AN AD (fun _ _=>rfl) h1 h2:_->_->_) ?_ ?_;walk_at "v2";exact Ai;refine(fun h1 h2=>Aj h1 h2:_->_->_) ?_ ?_;refine(fun h1=>AB 6 nd7 rfl (by walk_at "loc") rfl rfl h1:_->_) ?_
 refine(fun h1=>Aq h1:_->_) ?_;refine(fun h1 h2=>Ac rfl h1 h2:_->_->_) ?_ ?_;refine(fun h1=>Ad h1:_->_) ?_;exact G6;refine(fun h1 h2=>Ac rfl h1 h2:_->_->_) ?_ ?_;refine(fun h1=>Ad h1:_->_) ?_;exact Ai;refine(fun h1 h2=>Ac rfl h1 h2:_->_->_) ?_ ?_;refine(fun h1=>Ad h1:_->_) ?_;exact CC;refine(fun h1 h2=>Ac rfl h1 h2:_->_->_) ?_ ?_;refine(fun h1=>Ad h1:_->_) ?_;refine(fun h1=>Aq h1:_->_) ?_;exact Ae;refine(fun h1 h2=>Ac rfl h1 h2:_->_->_) ?_ ?_;refine(fun h1=>Ad h1:_->_) ?_;refine(fun h1=>Aq h1:_->_) ?_;refine(fun h1 h2=>Ac rfl h1 h2:_->_->_) ?_ ?_;refine(fun h1=>Ad h1:_->_) ?_;walk_at "v5";exact Ae;refine(fun h1 h2=>Ac rfl h1 h2:_->_->_) ?_ ?_;refine(fun h1=>Ad h1:_->_) ?_;refine(fun h1=>Ak h1:_->_) ?_;refine(fun h1 h2=>Ac rfl h1 h2:_->_->_) ?_ ?_;refine(fun h1=>Ad h1:_->_) ?_;walk_at "v5";exact Ae;refine(fun h1 h2=>Ac rfl h1 h2:_->_->_) ?_ ?_;refine(fun h1=>Ad h1:_->_) ?_;walk_at "v4";refine(fun h1 h2=>Ac rfl h1 h2:_->_->_) ?_ ?_;refine(fun h1=>Ad h1:_->_) ?_;refine(fun h1 h2=>Ax AU AI h1 h2:_->_->_) ?_ ?_;walk_at "v5";walk_at "v4";refine(fun h1 h2=>Ac rfl h1 h2:_->_->_) ?_ ?_;refine(fun h1=>Ad h1:_->_) ?_;refine(fun h1 h2=>Ax AU AI h1 h2:_->_->_) ?_ ?_;walk_at "v4";walk_at "v5";refine(fun h1 h2=>Ac rfl h1 h2:_->_->_) ?_ ?_;refine(fun h1=>Ad h1:_->_) ?_;refine(fun h1 h2=>Ax AU AI h1 h2:_->_->_) ?_ ?_;walk_at "v5";exact Al dK;refine(fun h1 h2=>Ac rfl h1 h2:_->_->_) ?_ ?_;refine(fun h1=>Ad h1:_->_) ?_;exact Al dK;refine(fun h1 h2=>Ac rfl h1 h2:_->_->_) ?_ ?_;refine(fun h1=>Ad h1:_->_) ?_;exact Al dK
 exact Ae;refine(fun h1 h2=>Aj h1 h2:_->_->_) ?_ ?_;refine(fun h1=>Pf 6 rfl (by walk_at "vis") dK dK rfl rfl rfl rfl h1:_->_) ?_;refine(fun h1=>Ad h1:_->_) ?_;refine(fun h1 h2=>Ax AU AI h1 h2:_->_->_) ?_ ?_;walk_at "v5";exact Al dK;refine(fun h1=>As h1:_->_) ?_;refine(fun h1=>AH h1:_->_) ?_;refine(fun h1 h2=>AM AN AD (fun _ _=>rfl) h1 h2:_->_->_) ?_ ?_;walk_at "v6";refine Av Ao Aw rfl rfl rfl rfl rfl hr (by decide) AJ dK rfl rfl rfl ?_;refine(fun h1 h2=>Ac rfl h1 h2:_->_->_) ?_ ?_;walk_at "v0";refine(fun h1 h2=>Ac rfl h1 h2:_->_->_) ?_ ?_;refine AK BS AY B.len Boot.«len» dK dK rfl rfl rfl ?_;refine(fun h1 h2=>Ac rfl h1 h2:_->_->_) ?_ ?_;walk_at "v6";exact Ae;exact Ae
theorem Le{f:Addr}{fd:FuncData}(F:Fun K "_law_odd" "_law_odd" (top 103) f fd)(B:Blt mg K)(B2:Blt2 mg)(DG:Def P w K mg base CX0 2 "_law_odd_row" ["_law_bag_here","_law_house_here"] (spJ K Co 2))(Ao:Def P w K mg base CX0 1 "_law_take" ["_law_bag_here","_law_many"] (spJ K Am 2)):
  FnOk P w K mg base CX0 3 f fd ["_law_bag_here","_law_house_here"] (spJ K Dl 2):=by
 refine Bv (N:=["_law_bag_here","_law_house_here","_law_bad","_law_good","_law_some"]) F ⟨rfl,rfl,rfl,dK,rfl,dK,dK⟩ fun cdv A outer s H E hr=>?_;have nd5:List.Nodup (["_law_bag_here","_law_house_here","_law_bad","_law_good","_law_some"]:List Str):=by decide +kernel
 refine(fun h1 h2=>Aj h1 h2:_->_->_) ?_ ?_;refine(fun h1=>AB 2 nd5 rfl (by walk_at "loc") rfl rfl h1:_->_) ?_;refine Av DG Aw rfl rfl rfl rfl rfl hr (by decide) AJ dK rfl rfl rfl ?_;refine(fun h1 h2=>Ac rfl h1 h2:_->_->_) ?_ ?_;walk_at "v0";refine(fun h1 h2=>Ac rfl h1 h2:_->_->_) ?_ ?_;walk_at "v1";exact Ae;refine(fun h1 h2=>Aj h1 h2:_->_->_) ?_ ?_;refine(fun h1=>AB 3 nd5 rfl (by walk_at "loc") rfl rfl h1:_->_) ?_;refine(fun h1=>Ak h1:_->_) ?_;refine(fun h1 h2=>Ac rfl h1 h2:_->_->_) ?_ ?_;refine(fun h1=>Ad h1:_->_) ?_;exact Al dK;refine(fun h1 h2=>Ac rfl h1 h2:_->_->_) ?_ ?_;refine(fun h1=>Ad h1:_->_) ?_;exact Al dK;exact Ae;refine(fun h1 h2=>Aj h1 h2:_->_->_) ?_ ?_;refine(fun h1=>AB 4 nd5 rfl (by walk_at "loc") rfl rfl h1:_->_) ?_;refine(fun h1=>Aq h1:_->_) ?_;refine(fun h1 h2=>Ac rfl h1 h2:_->_->_) ?_ ?_;refine(fun h1=>Ad h1:_->_) ?_;exact G6;refine(fun h1 h2=>Ac rfl h1 h2:_->_->_) ?_ ?_;refine(fun h1=>Ad h1:_->_) ?_;exact Ai;refine(fun h1 h2=>Ac rfl h1 h2:_->_->_) ?_ ?_;refine(fun h1=>Ad h1:_->_) ?_;exact CC;refine(fun h1 h2=>Ac rfl h1 h2:_->_->_) ?_ ?_;refine(fun h1=>Ad h1:_->_) ?_;exact Al dK;refine(fun h1 h2=>Ac rfl h1 h2:_->_->_) ?_ ?_;refine(fun h1=>Ad h1:_->_) ?_;exact Al dK;refine(fun h1 h2=>Ac rfl h1 h2:_->_->_) ?_ ?_;refine(fun h1=>Ad h1:_->_) ?_;refine(fun h1=>Ak h1:_->_) ?_;exact Ae;refine(fun h1 h2=>Ac rfl h1 h2:_->_->_) ?_ ?_;refine(fun h1=>Ad h1:_->_) ?_;refine(fun h1=>Aq h1:_->_) ?_;exact Ae;refine(fun h1 h2=>Ac rfl h1 h2:_->_->_) ?_ ?_;refine(fun h1=>Ad h1:_->_) ?_;refine(fun h1=>Ak h1:_->_) ?_
 refine(fun h1 h2=>Ac rfl h1 h2:_->_->_) ?_ ?_;refine(fun h1=>Ad h1:_->_) ?_;exact Al dK;exact Ae;refine(fun h1 h2=>Ac rfl h1 h2:_->_->_) ?_ ?_;refine(fun h1=>Ad h1:_->_) ?_;refine(fun h1=>Ak h1:_->_) ?_;refine(fun h1 h2=>Ac rfl h1 h2:_->_->_) ?_ ?_;refine(fun h1=>Ad h1:_->_) ?_;exact Al dK;refine(fun h1 h2=>Ac rfl h1 h2:_->_->_) ?_ ?_;refine(fun h1=>Ad h1:_->_) ?_;walk_at "v2";exact Ae;refine(fun h1 h2=>Ac rfl h1 h2:_->_->_) ?_ ?_;refine(fun h1=>Ad h1:_->_) ?_;refine(fun h1=>Ak h1:_->_) ?_;refine(fun h1 h2=>Ac rfl h1 h2:_->_->_) ?_ ?_;refine(fun h1=>Ad h1:_->_) ?_;exact Al dK;refine(fun h1 h2=>Ac rfl h1 h2:_->_->_) ?_ ?_;refine(fun h1=>Ad h1:_->_) ?_;walk_at "v2";exact Ae;refine(fun h1 h2=>Ac rfl h1 h2:_->_->_) ?_ ?_;refine(fun h1=>Ad h1:_->_) ?_;refine(fun h1=>Aq h1:_->_) ?_;refine(fun h1 h2=>Ac rfl h1 h2:_->_->_) ?_ ?_;refine(fun h1=>Ad h1:_->_) ?_;exact Al dK;refine(fun h1 h2=>Ac rfl h1 h2:_->_->_) ?_ ?_;refine(fun h1=>Ad h1:_->_) ?_;exact Al dK;exact Ae;refine(fun h1 h2=>Ac rfl h1 h2:_->_->_) ?_ ?_;refine(fun h1=>Ad h1:_->_) ?_;refine(fun h1=>Ak h1:_->_) ?_;refine(fun h1 h2=>Ac rfl h1 h2:_->_->_) ?_ ?_;refine(fun h1=>Ad h1:_->_) ?_;exact Al dK;refine(fun h1 h2=>Ac rfl h1 h2:_->_->_) ?_ ?_;refine(fun h1=>Ad h1:_->_) ?_;exact Al dK;refine(fun h1 h2=>Ac rfl h1 h2:_->_->_) ?_ ?_;refine(fun h1=>Ad h1:_->_) ?_;exact Al dK;exact Ae;exact Ae;refine(fun h1 h2=>Aj h1 h2:_->_->_) ?_ ?_;refine(fun h1=>AB 4 nd5 rfl (by walk_at "loc") rfl rfl h1:_->_) ?_;refine(fun h1 h2=>Ax AU AI h1 h2:_->_->_) ?_ ?_
 walk_at "v4";refine(fun h1=>Aq h1:_->_) ?_;refine(fun h1 h2=>Ac rfl h1 h2:_->_->_) ?_ ?_;refine(fun h1=>Ad h1:_->_) ?_;refine(fun h1=>Ak h1:_->_) ?_;refine(fun h1 h2=>Ac rfl h1 h2:_->_->_) ?_ ?_;refine(fun h1=>Ad h1:_->_) ?_;exact Al dK;exact Ae;refine(fun h1 h2=>Ac rfl h1 h2:_->_->_) ?_ ?_;refine(fun h1=>Ad h1:_->_) ?_;refine(fun h1=>Ak h1:_->_) ?_;refine(fun h1 h2=>Ac rfl h1 h2:_->_->_) ?_ ?_;refine(fun h1=>Ad h1:_->_) ?_;exact Al dK;refine(fun h1 h2=>Ac rfl h1 h2:_->_->_) ?_ ?_;refine(fun h1=>Ad h1:_->_) ?_;walk_at "v3";refine(fun h1 h2=>Ac rfl h1 h2:_->_->_) ?_ ?_;refine(fun h1=>Ad h1:_->_) ?_;walk_at "v3";exact Ae;refine(fun h1 h2=>Ac rfl h1 h2:_->_->_) ?_ ?_;refine(fun h1=>Ad h1:_->_) ?_;refine(fun h1=>Ak h1:_->_) ?_;refine(fun h1 h2=>Ac rfl h1 h2:_->_->_) ?_ ?_;refine(fun h1=>Ad h1:_->_) ?_;exact Al dK;refine(fun h1 h2=>Ac rfl h1 h2:_->_->_) ?_ ?_;refine(fun h1=>Ad h1:_->_) ?_;walk_at "v2";exact Ae;refine(fun h1 h2=>Ac rfl h1 h2:_->_->_) ?_ ?_;refine(fun h1=>Ad h1:_->_) ?_;refine(fun h1=>Ak h1:_->_) ?_;refine(fun h1 h2=>Ac rfl h1 h2:_->_->_) ?_ ?_;refine(fun h1=>Ad h1:_->_) ?_;exact Al dK;refine(fun h1 h2=>Ac rfl h1 h2:_->_->_) ?_ ?_;refine(fun h1=>Ad h1:_->_) ?_;refine(fun h1=>Aq h1:_->_) ?_;refine(fun h1 h2=>Ac rfl h1 h2:_->_->_) ?_ ?_;refine(fun h1=>Ad h1:_->_) ?_;exact Al dK;refine(fun h1 h2=>Ac rfl h1 h2:_->_->_) ?_ ?_;refine(fun h1=>Ad h1:_->_) ?_;exact Al dK;exact Ae;exact Ae;refine(fun h1 h2=>Ac rfl h1 h2:_->_->_) ?_ ?_;refine(fun h1=>Ad h1:_->_) ?_;refine(fun h1=>Ak h1:_->_) ?_
 refine(fun h1 h2=>Ac rfl h1 h2:_->_->_) ?_ ?_;refine(fun h1=>Ad h1:_->_) ?_;exact Al dK;refine(fun h1 h2=>Ac rfl h1 h2:_->_->_) ?_ ?_;refine(fun h1=>Ad h1:_->_) ?_;walk_at "v3";exact Ae;exact Ae;refine(fun h1 h2=>Aj h1 h2:_->_->_) ?_ ?_;refine(fun h1=>AB 4 nd5 rfl (by walk_at "loc") rfl rfl h1:_->_) ?_;refine(fun h1 h2=>Ax AU AI h1 h2:_->_->_) ?_ ?_;walk_at "v4";refine(fun h1=>Aq h1:_->_) ?_;refine(fun h1 h2=>Ac rfl h1 h2:_->_->_) ?_ ?_;refine(fun h1=>Ad h1:_->_) ?_;refine(fun h1=>Ak h1:_->_) ?_;refine(fun h1 h2=>Ac rfl h1 h2:_->_->_) ?_ ?_;refine(fun h1=>Ad h1:_->_) ?_;exact Al dK;refine(fun h1 h2=>Ac rfl h1 h2:_->_->_) ?_ ?_;refine(fun h1=>Ad h1:_->_) ?_;walk_at "v3";refine(fun h1 h2=>Ac rfl h1 h2:_->_->_) ?_ ?_;refine(fun h1=>Ad h1:_->_) ?_;walk_at "v2";exact Ae;refine(fun h1 h2=>Ac rfl h1 h2:_->_->_) ?_ ?_;refine(fun h1=>Ad h1:_->_) ?_;refine(fun h1=>Ak h1:_->_) ?_;refine(fun h1 h2=>Ac rfl h1 h2:_->_->_) ?_ ?_;refine(fun h1=>Ad h1:_->_) ?_;exact Al dK;refine(fun h1 h2=>Ac rfl h1 h2:_->_->_) ?_ ?_;refine(fun h1=>Ad h1:_->_) ?_;walk_at "v2";refine(fun h1 h2=>Ac rfl h1 h2:_->_->_) ?_ ?_;refine(fun h1=>Ad h1:_->_) ?_;walk_at "v3";exact Ae;refine(fun h1 h2=>Ac rfl h1 h2:_->_->_) ?_ ?_;refine(fun h1=>Ad h1:_->_) ?_;refine(fun h1=>Ak h1:_->_) ?_;refine(fun h1 h2=>Ac rfl h1 h2:_->_->_) ?_ ?_;refine(fun h1=>Ad h1:_->_) ?_;exact Al dK;refine(fun h1 h2=>Ac rfl h1 h2:_->_->_) ?_ ?_;refine(fun h1=>Ad h1:_->_) ?_;walk_at "v3";exact Ae;refine(fun h1 h2=>Ac rfl h1 h2:_->_->_) ?_ ?_;refine(fun h1=>Ad h1:_->_) ?_
 refine(fun h1=>Ak h1:_->_) ?_;refine(fun h1 h2=>Ac rfl h1 h2:_->_->_) ?_ ?_;refine(fun h1=>Ad h1:_->_) ?_;exact Al dK;refine(fun h1 h2=>Ac rfl h1 h2:_->_->_) ?_ ?_;refine(fun h1=>Ad h1:_->_) ?_;walk_at "v3";exact Ae;refine(fun h1 h2=>Ac rfl h1 h2:_->_->_) ?_ ?_;refine(fun h1=>Ad h1:_->_) ?_;refine(fun h1=>Ak h1:_->_) ?_;refine(fun h1 h2=>Ac rfl h1 h2:_->_->_) ?_ ?_;refine(fun h1=>Ad h1:_->_) ?_;exact Al dK;refine(fun h1 h2=>Ac rfl h1 h2:_->_->_) ?_ ?_;refine(fun h1=>Ad h1:_->_) ?_;walk_at "v3";refine(fun h1 h2=>Ac rfl h1 h2:_->_->_) ?_ ?_;refine(fun h1=>Ad h1:_->_) ?_;walk_at "v3";exact Ae;exact Ae;refine(fun h1 h2=>Aj h1 h2:_->_->_) ?_ ?_;refine(fun h1=>AB 4 nd5 rfl (by walk_at "loc") rfl rfl h1:_->_) ?_;refine(fun h1 h2=>Ax AU AI h1 h2:_->_->_) ?_ ?_;walk_at "v4";refine(fun h1=>Aq h1:_->_) ?_;refine(fun h1 h2=>Ac rfl h1 h2:_->_->_) ?_ ?_;refine(fun h1=>Ad h1:_->_) ?_;refine(fun h1=>Ak h1:_->_) ?_;refine(fun h1 h2=>Ac rfl h1 h2:_->_->_) ?_ ?_;refine(fun h1=>Ad h1:_->_) ?_;exact Al dK;refine(fun h1 h2=>Ac rfl h1 h2:_->_->_) ?_ ?_;refine(fun h1=>Ad h1:_->_) ?_;walk_at "v3";refine(fun h1 h2=>Ac rfl h1 h2:_->_->_) ?_ ?_;refine(fun h1=>Ad h1:_->_) ?_;walk_at "v3";refine(fun h1 h2=>Ac rfl h1 h2:_->_->_) ?_ ?_;refine(fun h1=>Ad h1:_->_) ?_;walk_at "v3";exact Ae;refine(fun h1 h2=>Ac rfl h1 h2:_->_->_) ?_ ?_;refine(fun h1=>Ad h1:_->_) ?_;refine(fun h1=>Ak h1:_->_) ?_;refine(fun h1 h2=>Ac rfl h1 h2:_->_->_) ?_ ?_;refine(fun h1=>Ad h1:_->_) ?_;exact Al dK;refine(fun h1 h2=>Ac rfl h1 h2:_->_->_) ?_ ?_
 refine(fun h1=>Ad h1:_->_) ?_;exact Al dK;exact Ae;refine(fun h1 h2=>Ac rfl h1 h2:_->_->_) ?_ ?_;refine(fun h1=>Ad h1:_->_) ?_;refine(fun h1=>Ak h1:_->_) ?_;refine(fun h1 h2=>Ac rfl h1 h2:_->_->_) ?_ ?_;refine(fun h1=>Ad h1:_->_) ?_;exact Ai;refine(fun h1 h2=>Ac rfl h1 h2:_->_->_) ?_ ?_;refine(fun h1=>Ad h1:_->_) ?_;exact Al dK;exact Ae;refine(fun h1 h2=>Ac rfl h1 h2:_->_->_) ?_ ?_;refine(fun h1=>Ad h1:_->_) ?_;refine(fun h1=>Ak h1:_->_) ?_;refine(fun h1 h2=>Ac rfl h1 h2:_->_->_) ?_ ?_;refine(fun h1=>Ad h1:_->_) ?_;exact G6;refine(fun h1 h2=>Ac rfl h1 h2:_->_->_) ?_ ?_;refine(fun h1=>Ad h1:_->_) ?_;exact Al dK;exact Ae;refine(fun h1 h2=>Ac rfl h1 h2:_->_->_) ?_ ?_;refine(fun h1=>Ad h1:_->_) ?_;refine(fun h1=>Ak h1:_->_) ?_;refine(fun h1 h2=>Ac rfl h1 h2:_->_->_) ?_ ?_;refine(fun h1=>Ad h1:_->_) ?_;exact Al dK;refine(fun h1 h2=>Ac rfl h1 h2:_->_->_) ?_ ?_;refine(fun h1=>Ad h1:_->_) ?_;exact Al dK;exact Ae;refine(fun h1 h2=>Ac rfl h1 h2:_->_->_) ?_ ?_;refine(fun h1=>Ad h1:_->_) ?_;refine(fun h1=>Ak h1:_->_) ?_;refine(fun h1 h2=>Ac rfl h1 h2:_->_->_) ?_ ?_;refine(fun h1=>Ad h1:_->_) ?_;refine(fun h1=>Ak h1:_->_) ?_;refine(fun h1 h2=>Ac rfl h1 h2:_->_->_) ?_ ?_;refine(fun h1=>Ad h1:_->_) ?_;exact Al dK;refine(fun h1 h2=>Ac rfl h1 h2:_->_->_) ?_ ?_;refine(fun h1=>Ad h1:_->_) ?_;exact Al dK;exact Ae;exact Ae;exact Ae;refine(fun h1 h2=>Aj h1 h2:_->_->_) ?_ ?_;refine(fun h1=>AB 4 nd5 rfl (by walk_at "loc") rfl rfl h1:_->_) ?_;refine(fun h1 h2=>Ax AU AI h1 h2:_->_->_) ?_ ?_;walk_at "v4";refine(fun h1=>Aq h1:_->_) ?_
 refine(fun h1 h2=>Ac rfl h1 h2:_->_->_) ?_ ?_;refine(fun h1=>Ad h1:_->_) ?_;refine(fun h1=>Ak h1:_->_) ?_;refine(fun h1 h2=>Ac rfl h1 h2:_->_->_) ?_ ?_;refine(fun h1=>Ad h1:_->_) ?_;exact Al dK;refine(fun h1 h2=>Ac rfl h1 h2:_->_->_) ?_ ?_;refine(fun h1=>Ad h1:_->_) ?_;walk_at "v3";refine(fun h1 h2=>Ac rfl h1 h2:_->_->_) ?_ ?_;refine(fun h1=>Ad h1:_->_) ?_;exact G6;exact Ae;refine(fun h1 h2=>Ac rfl h1 h2:_->_->_) ?_ ?_;refine(fun h1=>Ad h1:_->_) ?_;refine(fun h1=>Ak h1:_->_) ?_;refine(fun h1 h2=>Ac rfl h1 h2:_->_->_) ?_ ?_;refine(fun h1=>Ad h1:_->_) ?_;exact Al dK;refine(fun h1 h2=>Ac rfl h1 h2:_->_->_) ?_ ?_;refine(fun h1=>Ad h1:_->_) ?_;exact G6;refine(fun h1 h2=>Ac rfl h1 h2:_->_->_) ?_ ?_;refine(fun h1=>Ad h1:_->_) ?_;walk_at "v3";exact Ae;exact Ae;refine(fun h1=>As h1:_->_) ?_;refine(fun h1=>AH h1:_->_) ?_;refine(fun h1 h2=>AM AN AD (fun _ _=>rfl) h1 h2:_->_->_) ?_ ?_;walk_at "v4";refine Av Ao Aw rfl rfl rfl rfl rfl hr (by decide) AJ dK rfl rfl rfl ?_;refine(fun h1 h2=>Ac rfl h1 h2:_->_->_) ?_ ?_;walk_at "v0";refine(fun h1 h2=>Ac rfl h1 h2:_->_->_) ?_ ?_;refine AK BS AY B.len Boot.«len» dK dK rfl rfl rfl ?_;refine(fun h1 h2=>Ac rfl h1 h2:_->_->_) ?_ ?_;walk_at "v4";exact Ae;exact Ae
theorem Gw{f:Addr}{fd:FuncData}(F:Fun K "_law_odd_house" "_law_odd_house" (top 101) f fd)(B:Blt mg K)(B2:Blt2 mg)(Ao:Def P w K mg base CX0 1 "_law_take" ["_law_bag_here","_law_many"] (spJ K Am 2)):
  FnOk P w K mg base CX0 2 f fd ["_law_bag_here"] (spJ K Bs 1):=by
 refine Bv (N:=["_law_bag_here","_law_some"]) F ⟨rfl,rfl,rfl,dK,rfl,dK,dK⟩ fun cdv A outer s H E hr=>?_;have nd2:List.Nodup (["_law_bag_here","_law_some"]:List Str):=by decide +kernel
 refine(fun h1 h2=>Aj h1 h2:_->_->_) ?_ ?_;refine(fun h1=>AB 1 nd2 rfl (by walk_at "loc") rfl rfl h1:_->_) ?_;refine(fun h1=>Aq h1:_->_) ?_;refine(fun h1 h2=>Ac rfl h1 h2:_->_->_) ?_ ?_;refine(fun h1=>Ad h1:_->_) ?_;exact G6;refine(fun h1 h2=>Ac rfl h1 h2:_->_->_) ?_ ?_;refine(fun h1=>Ad h1:_->_) ?_;exact Ai;refine(fun h1 h2=>Ac rfl h1 h2:_->_->_) ?_ ?_;refine(fun h1=>Ad h1:_->_) ?_;exact CC;refine(fun h1 h2=>Ac rfl h1 h2:_->_->_) ?_ ?_;refine(fun h1=>Ad h1:_->_) ?_;exact Al dK;refine(fun h1 h2=>Ac rfl h1 h2:_->_->_) ?_ ?_;refine(fun h1=>Ad h1:_->_) ?_;exact Al dK;refine(fun h1 h2=>Ac rfl h1 h2:_->_->_) ?_ ?_;refine(fun h1=>Ad h1:_->_) ?_;refine(fun h1=>Ak h1:_->_) ?_;exact Ae;refine(fun h1 h2=>Ac rfl h1 h2:_->_->_) ?_ ?_;refine(fun h1=>Ad h1:_->_) ?_;refine(fun h1=>Aq h1:_->_) ?_;exact Ae;refine(fun h1 h2=>Ac rfl h1 h2:_->_->_) ?_ ?_;refine(fun h1=>Ad h1:_->_) ?_;refine(fun h1=>Ak h1:_->_) ?_;refine(fun h1 h2=>Ac rfl h1 h2:_->_->_) ?_ ?_;refine(fun h1=>Ad h1:_->_) ?_;exact Ai;exact Ae;refine(fun h1 h2=>Ac rfl h1 h2:_->_->_) ?_ ?_;refine(fun h1=>Ad h1:_->_) ?_;refine(fun h1=>Ak h1:_->_) ?_;refine(fun h1 h2=>Ac rfl h1 h2:_->_->_) ?_ ?_;refine(fun h1=>Ad h1:_->_) ?_;exact Ai;refine(fun h1 h2=>Ac rfl h1 h2:_->_->_) ?_ ?_;refine(fun h1=>Ad h1:_->_) ?_;refine(fun h1=>Aq h1:_->_) ?_;exact Ae;exact Ae;refine(fun h1 h2=>Ac rfl h1 h2:_->_->_) ?_ ?_;refine(fun h1=>Ad h1:_->_) ?_;refine(fun h1=>Ak h1:_->_) ?_;refine(fun h1 h2=>Ac rfl h1 h2:_->_->_) ?_ ?_;refine(fun h1=>Ad h1:_->_) ?_;exact Ai;refine(fun h1 h2=>Ac rfl h1 h2:_->_->_) ?_ ?_
 refine(fun h1=>Ad h1:_->_) ?_;refine(fun h1=>Aq h1:_->_) ?_;refine(fun h1 h2=>Ac rfl h1 h2:_->_->_) ?_ ?_;refine(fun h1=>Ad h1:_->_) ?_;refine(fun h1=>Ak h1:_->_) ?_;refine(fun h1 h2=>Ac rfl h1 h2:_->_->_) ?_ ?_;refine(fun h1=>Ad h1:_->_) ?_;exact Al dK;refine(fun h1 h2=>Ac rfl h1 h2:_->_->_) ?_ ?_;refine(fun h1=>Ad h1:_->_) ?_;refine(fun h1=>Aq h1:_->_) ?_;refine(fun h1 h2=>Ac rfl h1 h2:_->_->_) ?_ ?_;refine(fun h1=>Ad h1:_->_) ?_;exact Ai;exact Ae;exact Ae;exact Ae;exact Ae;refine(fun h1 h2=>Ac rfl h1 h2:_->_->_) ?_ ?_;refine(fun h1=>Ad h1:_->_) ?_;refine(fun h1=>Ak h1:_->_) ?_;refine(fun h1 h2=>Ac rfl h1 h2:_->_->_) ?_ ?_;refine(fun h1=>Ad h1:_->_) ?_;exact Ai;refine(fun h1 h2=>Ac rfl h1 h2:_->_->_) ?_ ?_;refine(fun h1=>Ad h1:_->_) ?_;refine(fun h1=>Aq h1:_->_) ?_;refine(fun h1 h2=>Ac rfl h1 h2:_->_->_) ?_ ?_;refine(fun h1=>Ad h1:_->_) ?_;refine(fun h1=>Ak h1:_->_) ?_;refine(fun h1 h2=>Ac rfl h1 h2:_->_->_) ?_ ?_;refine(fun h1=>Ad h1:_->_) ?_;exact Al dK;refine(fun h1 h2=>Ac rfl h1 h2:_->_->_) ?_ ?_;refine(fun h1=>Ad h1:_->_) ?_;refine(fun h1=>Aq h1:_->_) ?_;refine(fun h1 h2=>Ac rfl h1 h2:_->_->_) ?_ ?_;refine(fun h1=>Ad h1:_->_) ?_;exact Ai;exact Ae;exact Ae;exact Ae;exact Ae;refine(fun h1 h2=>Ac rfl h1 h2:_->_->_) ?_ ?_;refine(fun h1=>Ad h1:_->_) ?_;refine(fun h1=>Ak h1:_->_) ?_;refine(fun h1 h2=>Ac rfl h1 h2:_->_->_) ?_ ?_;refine(fun h1=>Ad h1:_->_) ?_;exact Al dK;refine(fun h1 h2=>Ac rfl h1 h2:_->_->_) ?_ ?_;refine(fun h1=>Ad h1:_->_) ?_;refine(fun h1=>Aq h1:_->_) ?_;exact Ae;exact Ae
 exact Ae;refine(fun h1 h2=>Aj h1 h2:_->_->_) ?_ ?_;refine(fun h1=>AB 1 nd2 rfl (by walk_at "loc") rfl rfl h1:_->_) ?_;refine(fun h1 h2=>Ax AU AI h1 h2:_->_->_) ?_ ?_;walk_at "v1";refine(fun h1=>Aq h1:_->_) ?_;refine(fun h1 h2=>Ac rfl h1 h2:_->_->_) ?_ ?_;refine(fun h1=>Ad h1:_->_) ?_;refine(fun h1=>Ak h1:_->_) ?_;refine(fun h1 h2=>Ac rfl h1 h2:_->_->_) ?_ ?_;refine(fun h1=>Ad h1:_->_) ?_;exact CC;refine(fun h1 h2=>Ac rfl h1 h2:_->_->_) ?_ ?_;refine(fun h1=>Ad h1:_->_) ?_;refine(fun h1=>Aq h1:_->_) ?_;refine(fun h1 h2=>Ac rfl h1 h2:_->_->_) ?_ ?_;refine(fun h1=>Ad h1:_->_) ?_;refine(fun h1=>Ak h1:_->_) ?_;refine(fun h1 h2=>Ac rfl h1 h2:_->_->_) ?_ ?_;refine(fun h1=>Ad h1:_->_) ?_;exact Al dK;refine(fun h1 h2=>Ac rfl h1 h2:_->_->_) ?_ ?_;refine(fun h1=>Ad h1:_->_) ?_;refine(fun h1=>Aq h1:_->_) ?_;refine(fun h1 h2=>Ac rfl h1 h2:_->_->_) ?_ ?_;refine(fun h1=>Ad h1:_->_) ?_;exact Ai;exact Ae;exact Ae;exact Ae;exact Ae;refine(fun h1 h2=>Ac rfl h1 h2:_->_->_) ?_ ?_;refine(fun h1=>Ad h1:_->_) ?_;refine(fun h1=>Aq h1:_->_) ?_;refine(fun h1 h2=>Ac rfl h1 h2:_->_->_) ?_ ?_;refine(fun h1=>Ad h1:_->_) ?_;exact Ai;refine(fun h1 h2=>Ac rfl h1 h2:_->_->_) ?_ ?_;refine(fun h1=>Ad h1:_->_) ?_;refine(fun h1=>Aq h1:_->_) ?_;refine(fun h1 h2=>Ac rfl h1 h2:_->_->_) ?_ ?_;refine(fun h1=>Ad h1:_->_) ?_;refine(fun h1=>Ak h1:_->_) ?_;refine(fun h1 h2=>Ac rfl h1 h2:_->_->_) ?_ ?_;refine(fun h1=>Ad h1:_->_) ?_;exact Al dK;refine(fun h1 h2=>Ac rfl h1 h2:_->_->_) ?_ ?_;refine(fun h1=>Ad h1:_->_) ?_;refine(fun h1=>Aq h1:_->_) ?_
 refine(fun h1 h2=>Ac rfl h1 h2:_->_->_) ?_ ?_;refine(fun h1=>Ad h1:_->_) ?_;exact Ai;exact Ae;exact Ae;exact Ae;exact Ae;refine(fun h1 h2=>Ac rfl h1 h2:_->_->_) ?_ ?_;refine(fun h1=>Ad h1:_->_) ?_;refine(fun h1=>Ak h1:_->_) ?_;refine(fun h1 h2=>Ac rfl h1 h2:_->_->_) ?_ ?_;refine(fun h1=>Ad h1:_->_) ?_;exact Ai;refine(fun h1 h2=>Ac rfl h1 h2:_->_->_) ?_ ?_;refine(fun h1=>Ad h1:_->_) ?_;refine(fun h1=>Ak h1:_->_) ?_;refine(fun h1 h2=>Ac rfl h1 h2:_->_->_) ?_ ?_;refine(fun h1=>Ad h1:_->_) ?_;refine(fun h1=>Ak h1:_->_) ?_;refine(fun h1 h2=>Ac rfl h1 h2:_->_->_) ?_ ?_;refine(fun h1=>Ad h1:_->_) ?_;exact Al dK;refine(fun h1 h2=>Ac rfl h1 h2:_->_->_) ?_ ?_;refine(fun h1=>Ad h1:_->_) ?_;refine(fun h1=>Aq h1:_->_) ?_;refine(fun h1 h2=>Ac rfl h1 h2:_->_->_) ?_ ?_;refine(fun h1=>Ad h1:_->_) ?_;exact Ai;exact Ae;exact Ae;exact Ae;exact Ae;refine(fun h1 h2=>Ac rfl h1 h2:_->_->_) ?_ ?_;refine(fun h1=>Ad h1:_->_) ?_;refine(fun h1=>Ak h1:_->_) ?_;refine(fun h1 h2=>Ac rfl h1 h2:_->_->_) ?_ ?_;refine(fun h1=>Ad h1:_->_) ?_;exact Ai;refine(fun h1 h2=>Ac rfl h1 h2:_->_->_) ?_ ?_;refine(fun h1=>Ad h1:_->_) ?_;refine(fun h1=>Aq h1:_->_) ?_;refine(fun h1 h2=>Ac rfl h1 h2:_->_->_) ?_ ?_;refine(fun h1=>Ad h1:_->_) ?_;refine(fun h1=>Aq h1:_->_) ?_;refine(fun h1 h2=>Ac rfl h1 h2:_->_->_) ?_ ?_;refine(fun h1=>Ad h1:_->_) ?_;exact Al dK;refine(fun h1 h2=>Ac rfl h1 h2:_->_->_) ?_ ?_;refine(fun h1=>Ad h1:_->_) ?_;refine(fun h1=>Aq h1:_->_) ?_;refine(fun h1 h2=>Ac rfl h1 h2:_->_->_) ?_ ?_;refine(fun h1=>Ad h1:_->_) ?_;exact Ai
 exact Ae;exact Ae;exact Ae;exact Ae;refine(fun h1 h2=>Ac rfl h1 h2:_->_->_) ?_ ?_;refine(fun h1=>Ad h1:_->_) ?_;refine(fun h1=>Ak h1:_->_) ?_;refine(fun h1 h2=>Ac rfl h1 h2:_->_->_) ?_ ?_;refine(fun h1=>Ad h1:_->_) ?_;exact Ai;refine(fun h1 h2=>Ac rfl h1 h2:_->_->_) ?_ ?_;refine(fun h1=>Ad h1:_->_) ?_;refine(fun h1=>Aq h1:_->_) ?_;refine(fun h1 h2=>Ac rfl h1 h2:_->_->_) ?_ ?_;refine(fun h1=>Ad h1:_->_) ?_;refine(fun h1=>Ak h1:_->_) ?_;refine(fun h1 h2=>Ac rfl h1 h2:_->_->_) ?_ ?_;refine(fun h1=>Ad h1:_->_) ?_;exact Al dK;refine(fun h1 h2=>Ac rfl h1 h2:_->_->_) ?_ ?_;refine(fun h1=>Ad h1:_->_) ?_;refine(fun h1=>Aq h1:_->_) ?_;exact Ae;exact Ae;exact Ae;exact Ae;exact Ae;refine(fun h1 h2=>Aj h1 h2:_->_->_) ?_ ?_;refine(fun h1=>AB 1 nd2 rfl (by walk_at "loc") rfl rfl h1:_->_) ?_;refine(fun h1 h2=>Ax AU AI h1 h2:_->_->_) ?_ ?_;walk_at "v1";refine(fun h1=>Aq h1:_->_) ?_;refine(fun h1 h2=>Ac rfl h1 h2:_->_->_) ?_ ?_;refine(fun h1=>Ad h1:_->_) ?_;refine(fun h1=>Ak h1:_->_) ?_;refine(fun h1 h2=>Ac rfl h1 h2:_->_->_) ?_ ?_;refine(fun h1=>Ad h1:_->_) ?_;exact Ai;refine(fun h1 h2=>Ac rfl h1 h2:_->_->_) ?_ ?_;refine(fun h1=>Ad h1:_->_) ?_;refine(fun h1=>Aq h1:_->_) ?_;refine(fun h1 h2=>Ac rfl h1 h2:_->_->_) ?_ ?_;refine(fun h1=>Ad h1:_->_) ?_;refine(fun h1=>Ak h1:_->_) ?_;refine(fun h1 h2=>Ac rfl h1 h2:_->_->_) ?_ ?_;refine(fun h1=>Ad h1:_->_) ?_;exact Al dK;refine(fun h1 h2=>Ac rfl h1 h2:_->_->_) ?_ ?_;refine(fun h1=>Ad h1:_->_) ?_;refine(fun h1=>Aq h1:_->_) ?_;refine(fun h1 h2=>Ac rfl h1 h2:_->_->_) ?_ ?_
 refine(fun h1=>Ad h1:_->_) ?_;exact Ai;exact Ae;exact Ae;exact Ae;exact Ae;refine(fun h1 h2=>Ac rfl h1 h2:_->_->_) ?_ ?_;refine(fun h1=>Ad h1:_->_) ?_;refine(fun h1=>Ak h1:_->_) ?_;refine(fun h1 h2=>Ac rfl h1 h2:_->_->_) ?_ ?_;refine(fun h1=>Ad h1:_->_) ?_;exact Ai;refine(fun h1 h2=>Ac rfl h1 h2:_->_->_) ?_ ?_;refine(fun h1=>Ad h1:_->_) ?_;refine(fun h1=>Aq h1:_->_) ?_;refine(fun h1 h2=>Ac rfl h1 h2:_->_->_) ?_ ?_;refine(fun h1=>Ad h1:_->_) ?_;refine(fun h1=>Ak h1:_->_) ?_;refine(fun h1 h2=>Ac rfl h1 h2:_->_->_) ?_ ?_;refine(fun h1=>Ad h1:_->_) ?_;exact Al dK;refine(fun h1 h2=>Ac rfl h1 h2:_->_->_) ?_ ?_;refine(fun h1=>Ad h1:_->_) ?_;refine(fun h1=>Aq h1:_->_) ?_;refine(fun h1 h2=>Ac rfl h1 h2:_->_->_) ?_ ?_;refine(fun h1=>Ad h1:_->_) ?_;exact Ai;refine(fun h1 h2=>Ac rfl h1 h2:_->_->_) ?_ ?_;refine(fun h1=>Ad h1:_->_) ?_;exact Ai;exact Ae;exact Ae;exact Ae;exact Ae;refine(fun h1 h2=>Ac rfl h1 h2:_->_->_) ?_ ?_;refine(fun h1=>Ad h1:_->_) ?_;refine(fun h1=>Ak h1:_->_) ?_;refine(fun h1 h2=>Ac rfl h1 h2:_->_->_) ?_ ?_;refine(fun h1=>Ad h1:_->_) ?_;exact Ai;refine(fun h1 h2=>Ac rfl h1 h2:_->_->_) ?_ ?_;refine(fun h1=>Ad h1:_->_) ?_;refine(fun h1=>Aq h1:_->_) ?_;refine(fun h1 h2=>Ac rfl h1 h2:_->_->_) ?_ ?_;refine(fun h1=>Ad h1:_->_) ?_;refine(fun h1=>Ak h1:_->_) ?_;refine(fun h1 h2=>Ac rfl h1 h2:_->_->_) ?_ ?_;refine(fun h1=>Ad h1:_->_) ?_;exact Al dK;refine(fun h1 h2=>Ac rfl h1 h2:_->_->_) ?_ ?_;refine(fun h1=>Ad h1:_->_) ?_;refine(fun h1=>Aq h1:_->_) ?_;refine(fun h1 h2=>Ac rfl h1 h2:_->_->_) ?_ ?_
 refine(fun h1=>Ad h1:_->_) ?_;exact Ai;refine(fun h1 h2=>Ac rfl h1 h2:_->_->_) ?_ ?_;refine(fun h1=>Ad h1:_->_) ?_;exact Ai;exact Ae;exact Ae;exact Ae;exact Ae;refine(fun h1 h2=>Ac rfl h1 h2:_->_->_) ?_ ?_;refine(fun h1=>Ad h1:_->_) ?_;refine(fun h1=>Ak h1:_->_) ?_;refine(fun h1 h2=>Ac rfl h1 h2:_->_->_) ?_ ?_;refine(fun h1=>Ad h1:_->_) ?_;exact Ai;refine(fun h1 h2=>Ac rfl h1 h2:_->_->_) ?_ ?_;refine(fun h1=>Ad h1:_->_) ?_;refine(fun h1=>Aq h1:_->_) ?_;refine(fun h1 h2=>Ac rfl h1 h2:_->_->_) ?_ ?_;refine(fun h1=>Ad h1:_->_) ?_;refine(fun h1=>Ak h1:_->_) ?_;refine(fun h1 h2=>Ac rfl h1 h2:_->_->_) ?_ ?_;refine(fun h1=>Ad h1:_->_) ?_;exact Al dK;refine(fun h1 h2=>Ac rfl h1 h2:_->_->_) ?_ ?_;refine(fun h1=>Ad h1:_->_) ?_;refine(fun h1=>Ak h1:_->_) ?_;refine(fun h1 h2=>Ac rfl h1 h2:_->_->_) ?_ ?_;refine(fun h1=>Ad h1:_->_) ?_;exact Ai;exact Ae;exact Ae;exact Ae;exact Ae;exact Ae;refine(fun h1 h2=>Aj h1 h2:_->_->_) ?_ ?_;refine(fun h1=>AB 1 nd2 rfl (by walk_at "loc") rfl rfl h1:_->_) ?_;refine(fun h1 h2=>Ax AU AI h1 h2:_->_->_) ?_ ?_;walk_at "v1";refine(fun h1=>Aq h1:_->_) ?_;refine(fun h1 h2=>Ac rfl h1 h2:_->_->_) ?_ ?_;refine(fun h1=>Ad h1:_->_) ?_;refine(fun h1=>Ak h1:_->_) ?_;refine(fun h1 h2=>Ac rfl h1 h2:_->_->_) ?_ ?_;refine(fun h1=>Ad h1:_->_) ?_;exact Ai;refine(fun h1 h2=>Ac rfl h1 h2:_->_->_) ?_ ?_;refine(fun h1=>Ad h1:_->_) ?_;refine(fun h1=>Aq h1:_->_) ?_;refine(fun h1 h2=>Ac rfl h1 h2:_->_->_) ?_ ?_;refine(fun h1=>Ad h1:_->_) ?_;refine(fun h1=>Ak h1:_->_) ?_;refine(fun h1 h2=>Ac rfl h1 h2:_->_->_) ?_ ?_
 refine(fun h1=>Ad h1:_->_) ?_;exact Al dK;refine(fun h1 h2=>Ac rfl h1 h2:_->_->_) ?_ ?_;refine(fun h1=>Ad h1:_->_) ?_;refine(fun h1=>Aq h1:_->_) ?_;refine(fun h1 h2=>Ac rfl h1 h2:_->_->_) ?_ ?_;refine(fun h1=>Ad h1:_->_) ?_;exact CC;exact Ae;exact Ae;exact Ae;exact Ae;refine(fun h1 h2=>Ac rfl h1 h2:_->_->_) ?_ ?_;refine(fun h1=>Ad h1:_->_) ?_;refine(fun h1=>Ak h1:_->_) ?_;refine(fun h1 h2=>Ac rfl h1 h2:_->_->_) ?_ ?_;refine(fun h1=>Ad h1:_->_) ?_;exact Ai;refine(fun h1 h2=>Ac rfl h1 h2:_->_->_) ?_ ?_;refine(fun h1=>Ad h1:_->_) ?_;refine(fun h1=>Aq h1:_->_) ?_;refine(fun h1 h2=>Ac rfl h1 h2:_->_->_) ?_ ?_;refine(fun h1=>Ad h1:_->_) ?_;refine(fun h1=>Ak h1:_->_) ?_;refine(fun h1 h2=>Ac rfl h1 h2:_->_->_) ?_ ?_;refine(fun h1=>Ad h1:_->_) ?_;exact Al dK;refine(fun h1 h2=>Ac rfl h1 h2:_->_->_) ?_ ?_;refine(fun h1=>Ad h1:_->_) ?_;refine(fun h1=>Aq h1:_->_) ?_;refine(fun h1 h2=>Ac rfl h1 h2:_->_->_) ?_ ?_;refine(fun h1=>Ad h1:_->_) ?_;exact Ai;exact Ae;exact Ae;exact Ae;exact Ae;refine(fun h1 h2=>Ac rfl h1 h2:_->_->_) ?_ ?_;refine(fun h1=>Ad h1:_->_) ?_;refine(fun h1=>Ak h1:_->_) ?_;refine(fun h1 h2=>Ac rfl h1 h2:_->_->_) ?_ ?_;refine(fun h1=>Ad h1:_->_) ?_;exact Ai;refine(fun h1 h2=>Ac rfl h1 h2:_->_->_) ?_ ?_;refine(fun h1=>Ad h1:_->_) ?_;refine(fun h1=>Aq h1:_->_) ?_;refine(fun h1 h2=>Ac rfl h1 h2:_->_->_) ?_ ?_;refine(fun h1=>Ad h1:_->_) ?_;refine(fun h1=>Ak h1:_->_) ?_;refine(fun h1 h2=>Ac rfl h1 h2:_->_->_) ?_ ?_;refine(fun h1=>Ad h1:_->_) ?_;exact Al dK;refine(fun h1 h2=>Ac rfl h1 h2:_->_->_) ?_ ?_
 refine(fun h1=>Ad h1:_->_) ?_;refine(fun h1=>Aq h1:_->_) ?_;refine(fun h1 h2=>Ac rfl h1 h2:_->_->_) ?_ ?_;refine(fun h1=>Ad h1:_->_) ?_;exact Ai;exact Ae;exact Ae;exact Ae;exact Ae;refine(fun h1 h2=>Ac rfl h1 h2:_->_->_) ?_ ?_;refine(fun h1=>Ad h1:_->_) ?_;refine(fun h1=>Ak h1:_->_) ?_;refine(fun h1 h2=>Ac rfl h1 h2:_->_->_) ?_ ?_;refine(fun h1=>Ad h1:_->_) ?_;exact Ai;refine(fun h1 h2=>Ac rfl h1 h2:_->_->_) ?_ ?_;refine(fun h1=>Ad h1:_->_) ?_;refine(fun h1=>Aq h1:_->_) ?_;refine(fun h1 h2=>Ac rfl h1 h2:_->_->_) ?_ ?_;refine(fun h1=>Ad h1:_->_) ?_;refine(fun h1=>Ak h1:_->_) ?_;refine(fun h1 h2=>Ac rfl h1 h2:_->_->_) ?_ ?_;refine(fun h1=>Ad h1:_->_) ?_;exact Al dK;refine(fun h1 h2=>Ac rfl h1 h2:_->_->_) ?_ ?_;refine(fun h1=>Ad h1:_->_) ?_;refine(fun h1=>Aq h1:_->_) ?_;refine(fun h1 h2=>Ac rfl h1 h2:_->_->_) ?_ ?_;refine(fun h1=>Ad h1:_->_) ?_;exact Ai;exact Ae;exact Ae;exact Ae;exact Ae;refine(fun h1 h2=>Ac rfl h1 h2:_->_->_) ?_ ?_;refine(fun h1=>Ad h1:_->_) ?_;refine(fun h1=>Ak h1:_->_) ?_;refine(fun h1 h2=>Ac rfl h1 h2:_->_->_) ?_ ?_;refine(fun h1=>Ad h1:_->_) ?_;exact Ai;refine(fun h1 h2=>Ac rfl h1 h2:_->_->_) ?_ ?_;refine(fun h1=>Ad h1:_->_) ?_;refine(fun h1=>Aq h1:_->_) ?_;refine(fun h1 h2=>Ac rfl h1 h2:_->_->_) ?_ ?_;refine(fun h1=>Ad h1:_->_) ?_;refine(fun h1=>Ak h1:_->_) ?_;refine(fun h1 h2=>Ac rfl h1 h2:_->_->_) ?_ ?_;refine(fun h1=>Ad h1:_->_) ?_;exact Al dK;refine(fun h1 h2=>Ac rfl h1 h2:_->_->_) ?_ ?_;refine(fun h1=>Ad h1:_->_) ?_;refine(fun h1=>Aq h1:_->_) ?_;refine(fun h1 h2=>Ac rfl h1 h2:_->_->_) ?_ ?_
 refine(fun h1=>Ad h1:_->_) ?_;refine(fun h1=>VJ T9 Vj h1:_->_) ?_;exact Ai;exact Ae;exact Ae;exact Ae;exact Ae;exact Ae;refine(fun h1 h2=>Aj h1 h2:_->_->_) ?_ ?_;refine(fun h1=>AB 1 nd2 rfl (by walk_at "loc") rfl rfl h1:_->_) ?_;refine(fun h1 h2=>Ax AU AI h1 h2:_->_->_) ?_ ?_;walk_at "v1";refine(fun h1=>Aq h1:_->_) ?_;refine(fun h1 h2=>Ac rfl h1 h2:_->_->_) ?_ ?_;refine(fun h1=>Ad h1:_->_) ?_;refine(fun h1=>Ak h1:_->_) ?_;refine(fun h1 h2=>Ac rfl h1 h2:_->_->_) ?_ ?_;refine(fun h1=>Ad h1:_->_) ?_;exact Ai;refine(fun h1 h2=>Ac rfl h1 h2:_->_->_) ?_ ?_;refine(fun h1=>Ad h1:_->_) ?_;refine(fun h1=>Aq h1:_->_) ?_;refine(fun h1 h2=>Ac rfl h1 h2:_->_->_) ?_ ?_;refine(fun h1=>Ad h1:_->_) ?_;refine(fun h1=>Ak h1:_->_) ?_;refine(fun h1 h2=>Ac rfl h1 h2:_->_->_) ?_ ?_;refine(fun h1=>Ad h1:_->_) ?_;exact Al dK;refine(fun h1 h2=>Ac rfl h1 h2:_->_->_) ?_ ?_;refine(fun h1=>Ad h1:_->_) ?_;refine(fun h1=>Aq h1:_->_) ?_;refine(fun h1 h2=>Ac rfl h1 h2:_->_->_) ?_ ?_;refine(fun h1=>Ad h1:_->_) ?_;exact Ai;exact Ae;exact Ae;refine(fun h1 h2=>Ac rfl h1 h2:_->_->_) ?_ ?_;refine(fun h1=>Ad h1:_->_) ?_;refine(fun h1=>Ak h1:_->_) ?_;refine(fun h1 h2=>Ac rfl h1 h2:_->_->_) ?_ ?_;refine(fun h1=>Ad h1:_->_) ?_;exact Al dK;refine(fun h1 h2=>Ac rfl h1 h2:_->_->_) ?_ ?_;refine(fun h1=>Ad h1:_->_) ?_;refine(fun h1=>Aq h1:_->_) ?_;refine(fun h1 h2=>Ac rfl h1 h2:_->_->_) ?_ ?_;refine(fun h1=>Ad h1:_->_) ?_;exact Ai;exact Ae;exact Ae;exact Ae;exact Ae;refine(fun h1 h2=>Ac rfl h1 h2:_->_->_) ?_ ?_;refine(fun h1=>Ad h1:_->_) ?_
 refine(fun h1=>Ak h1:_->_) ?_;refine(fun h1 h2=>Ac rfl h1 h2:_->_->_) ?_ ?_;refine(fun h1=>Ad h1:_->_) ?_;exact Ai;refine(fun h1 h2=>Ac rfl h1 h2:_->_->_) ?_ ?_;refine(fun h1=>Ad h1:_->_) ?_;refine(fun h1=>Aq h1:_->_) ?_;refine(fun h1 h2=>Ac rfl h1 h2:_->_->_) ?_ ?_;refine(fun h1=>Ad h1:_->_) ?_;refine(fun h1=>Ak h1:_->_) ?_;refine(fun h1 h2=>Ac rfl h1 h2:_->_->_) ?_ ?_;refine(fun h1=>Ad h1:_->_) ?_;exact Al dK;refine(fun h1 h2=>Ac rfl h1 h2:_->_->_) ?_ ?_;refine(fun h1=>Ad h1:_->_) ?_;refine(fun h1=>Aq h1:_->_) ?_;refine(fun h1 h2=>Ac rfl h1 h2:_->_->_) ?_ ?_;refine(fun h1=>Ad h1:_->_) ?_;exact Ai;exact Ae;exact Ae;refine(fun h1 h2=>Ac rfl h1 h2:_->_->_) ?_ ?_;refine(fun h1=>Ad h1:_->_) ?_;refine(fun h1=>Ak h1:_->_) ?_;refine(fun h1 h2=>Ac rfl h1 h2:_->_->_) ?_ ?_;refine(fun h1=>Ad h1:_->_) ?_;exact Al dK;refine(fun h1 h2=>Ac rfl h1 h2:_->_->_) ?_ ?_;refine(fun h1=>Ad h1:_->_) ?_;refine(fun h1=>Aq h1:_->_) ?_;refine(fun h1 h2=>Ac rfl h1 h2:_->_->_) ?_ ?_;refine(fun h1=>Ad h1:_->_) ?_;exact Ai;exact Ae;exact Ae;exact Ae;exact Ae;refine(fun h1 h2=>Ac rfl h1 h2:_->_->_) ?_ ?_;refine(fun h1=>Ad h1:_->_) ?_;refine(fun h1=>Ak h1:_->_) ?_;refine(fun h1 h2=>Ac rfl h1 h2:_->_->_) ?_ ?_;refine(fun h1=>Ad h1:_->_) ?_;exact Ai;refine(fun h1 h2=>Ac rfl h1 h2:_->_->_) ?_ ?_;refine(fun h1=>Ad h1:_->_) ?_;refine(fun h1=>Aq h1:_->_) ?_;refine(fun h1 h2=>Ac rfl h1 h2:_->_->_) ?_ ?_;refine(fun h1=>Ad h1:_->_) ?_;refine(fun h1=>Ak h1:_->_) ?_;refine(fun h1 h2=>Ac rfl h1 h2:_->_->_) ?_ ?_;refine(fun h1=>Ad h1:_->_) ?_
 exact Al dK;refine(fun h1 h2=>Ac rfl h1 h2:_->_->_) ?_ ?_;refine(fun h1=>Ad h1:_->_) ?_;refine(fun h1=>Aq h1:_->_) ?_;refine(fun h1 h2=>Ac rfl h1 h2:_->_->_) ?_ ?_;refine(fun h1=>Ad h1:_->_) ?_;exact Ai;exact Ae;exact Ae;exact Ae;refine(fun h1 h2=>Ac rfl h1 h2:_->_->_) ?_ ?_;refine(fun h1=>Ad h1:_->_) ?_;exact Ai;exact Ae;exact Ae;refine(fun h1 h2=>Aj h1 h2:_->_->_) ?_ ?_;refine(fun h1=>AB 1 nd2 rfl (by walk_at "loc") rfl rfl h1:_->_) ?_;refine(fun h1 h2=>Ax AU AI h1 h2:_->_->_) ?_ ?_;walk_at "v1";refine(fun h1=>Aq h1:_->_) ?_;refine(fun h1 h2=>Ac rfl h1 h2:_->_->_) ?_ ?_;refine(fun h1=>Ad h1:_->_) ?_;refine(fun h1=>Ak h1:_->_) ?_;refine(fun h1 h2=>Ac rfl h1 h2:_->_->_) ?_ ?_;refine(fun h1=>Ad h1:_->_) ?_;exact Ai;refine(fun h1 h2=>Ac rfl h1 h2:_->_->_) ?_ ?_;refine(fun h1=>Ad h1:_->_) ?_;refine(fun h1 h2 h3=>ET (by rfl) rfl nd2 (by rfl) (fun _=>rfl) h1 h2 h3:_->_->_->_) ?_ ?_ ?_;refine(fun h1=>Mg h1:_->_) ?_;exact Al dK;exact D6;intro _ _ _ _ _;refine(fun h1=>Ak h1:_->_) ?_;refine(fun h1 h2=>Ac rfl h1 h2:_->_->_) ?_ ?_;refine(fun h1=>Ad h1:_->_) ?_;walk_at "v0";refine(fun h1 h2=>Ac rfl h1 h2:_->_->_) ?_ ?_;refine(fun h1=>Ad h1:_->_) ?_;refine(fun h1=>Aq h1:_->_) ?_;refine(fun h1 h2=>Ac rfl h1 h2:_->_->_) ?_ ?_;refine(fun h1=>Ad h1:_->_) ?_;exact Ai;exact Ae;exact Ae;exact Ae;exact Ae;refine(fun h1=>As h1:_->_) ?_;refine(fun h1=>AH h1:_->_) ?_;refine(fun h1 h2=>AM AN AD (fun _ _=>rfl) h1 h2:_->_->_) ?_ ?_;walk_at "v1";refine Av Ao Aw rfl rfl rfl rfl rfl hr (by decide) AJ dK rfl rfl rfl ?_
 refine(fun h1 h2=>Ac rfl h1 h2:_->_->_) ?_ ?_;walk_at "v0";refine(fun h1 h2=>Ac rfl h1 h2:_->_->_) ?_ ?_;refine AK BS AY B.len Boot.«len» dK dK rfl rfl rfl ?_;refine(fun h1 h2=>Ac rfl h1 h2:_->_->_) ?_ ?_;walk_at "v1";exact Ae;exact Ae
theorem Ki{f:Addr}{fd:FuncData}(F:Fun K "_law_cell" "_law_cell" (top 99) f fd)(B:Blt mg K)(B2:Blt2 mg):
  FnOk P w K mg base CX0 1 f fd ["_law_script","_law_k"] (spJ K CL 2):=by
 refine Bv (N:=["_law_script","_law_k"]) F ⟨rfl,rfl,rfl,dK,rfl,dK,dK⟩ fun cdv A outer s H E hr=>?_;refine Aj ?_ ?_;refine CO ?_ ?_ ?_;refine CP Lj GB (Bz _) ?_ ?_;walk_at "v1";refine AK BS AY B.len Boot.«len» dK dK rfl rfl rfl ?_;refine Ac rfl ?_ ?_;walk_at "v0";exact Ae;refine As ?_;refine AH ?_;refine AM AN AD (fun _ _=>rfl) ?_ ?_;walk_at "v0";walk_at "v1";exact Bn;refine As ?_;refine AH ?_;exact Ai
theorem Ii{f:Addr}{fd:FuncData}(F:Fun K "need_house" "need_house" (top 33) f fd)(B:Blt mg K)(B2:Blt2 mg)(CY:Def P w K mg base CX0 8 "is_house" ["thing"] (spJ K Bu 1))(X_NoHouse:Exc K mg "NoHouse" (XC "NoHouse")):
  FnOk P w K mg base (Fly P w) 9 f fd ["house"] (spR K XC Bj 1):=by
 refine J9 (N:=["house"]) F ⟨rfl,rfl,rfl,dK,rfl,dK,dK⟩ fun cdv A outer s H E hr=>?_;refine CN ?_;refine Sz ?_ ?_;refine Cw ?_;refine Cb (fun _=>rfl) ?_;refine Av CY Aw rfl rfl rfl rfl rfl hr (by decide) AJ dK rfl rfl rfl ?_;refine Ac rfl ?_ ?_;walk_at "v0";exact Ae;refine CN ?_;exact K6 X_NoHouse rfl hr rfl dK rfl rfl (Al dK)
theorem Ms{f:Addr}{fd:FuncData}(F:Fun K "is_set" "is_set" (top 83) f fd)(B:Blt mg K)(B2:Blt2 mg)(DR_need_house:Def P w K mg base (Fly P w) 9 "need_house" ["house"] (spR K XC Bj 1)):
  FnOk P w K mg base (Fly P w) 10 f fd ["house","thing"] (spR K XC B4 2):=by
 refine J9 (N:=["house","thing","pending","tuples","rows","one"]) F ⟨rfl,rfl,rfl,dK,rfl,dK,dK⟩ fun cdv A outer s H E hr=>?_;refine CN ?_;refine Nd DR_need_house Gm hr (by decide) rfl dK rfl rfl rfl ?_;refine Ac rfl ?_ ?_;walk_at "v0";exact Ae
theorem Kh{f:Addr}{fd:FuncData}(F:Fun K "need_set" "need_set" (top 88) f fd)(B:Blt mg K)(B2:Blt2 mg)(DH:Def P w K mg base CX0 12 "is_set" ["house","thing"] (spJ K A5 2))(DR_is_set:Def P w K mg base (Fly P w) 10 "is_set" ["house","thing"] (spR K XC B4 2))(X_NoSet:Exc K mg "NoSet" (XC "NoSet")):
  FnOk P w K mg base (Fly P w) 13 f fd ["house","one"] (spR K XC BH 2):=by
 refine J9 (N:=["house","one"]) F ⟨rfl,rfl,rfl,dK,rfl,dK,dK⟩ fun cdv A outer s H E hr=>?_;refine Rk ?_ ?_;refine CN ?_;refine Rj DR_is_set Gm hr (by decide) dK rfl rfl rfl ?_;refine Ac rfl ?_ ?_;walk_at "v0";refine Ac rfl ?_ ?_;walk_at "v1";exact Ae;refine CN ?_;refine Sz ?_ ?_;refine Cw ?_;refine Cb (fun _=>rfl) ?_;refine Av DH Aw rfl rfl rfl rfl rfl hr (by decide) AJ dK rfl rfl rfl ?_;refine Ac rfl ?_ ?_;walk_at "v0";refine Ac rfl ?_ ?_;walk_at "v1";exact Ae;refine CN ?_;exact K6 X_NoSet rfl hr rfl dK rfl rfl (Al dK)
theorem Ih{f:Addr}{fd:FuncData}(F:Fun K "machine_of" "machine_of" (top 89) f fd)(B:Blt mg K)(B2:Blt2 mg)(DR_need_set:Def P w K mg base (Fly P w) 13 "need_set" ["house","one"] (spR K XC BH 2)):
  FnOk P w K mg base (Fly P w) 14 f fd ["house","one"] (spR K XC BA 2):=by
 refine J9 (N:=["house","one","row"]) F ⟨rfl,rfl,rfl,dK,rfl,dK,dK⟩ fun cdv A outer s H E hr=>?_;refine CN ?_;refine Nd DR_need_set Gm hr (by decide) rfl dK rfl rfl rfl ?_;refine Ac rfl ?_ ?_;walk_at "v0";refine Ac rfl ?_ ?_;walk_at "v1";exact Ae
theorem HH{f C:Addr}{fd:FuncData}{wd:Str}{j:Nat}(F:Fun K "_law_word" "_law_word" (top 97) f fd)(B:Blt mg K)(W:XW K mg C wd)(hj:∀i,i<15->(KH.getD i "" == wd)=(i==j)):
  FnOkM P w K mg base CX0 1 f fd ["_law_e"] (spJ K (Dc C j) 1):=by
 refine Tb (N:=["_law_e","_law_named","_law_words","_law_some"]) F ⟨rfl,rfl,rfl,dK,rfl,dK,dK⟩ fun cdv A outer s H E hr hmk=>?_;have nd4:List.Nodup (["_law_e","_law_named","_law_words","_law_some"]:List Str):=by decide +kernel
 refine Aj ?_ ?_;refine AB 1 nd4 rfl (by walk_at "loc") rfl rfl ?_;refine Aq ?_;refine Ac rfl ?_ ?_;refine Ad ?_;refine Cv _ W dK (hj 0 (by decide)) dK rfl rfl B rfl rfl ?_;walk_at "v0";refine Ac rfl ?_ ?_;refine Ad ?_;refine Cv _ W dK (hj 1 (by decide)) dK rfl rfl B rfl rfl ?_;walk_at "v0";refine Ac rfl ?_ ?_;refine Ad ?_;refine Cv _ W dK (hj 2 (by decide)) dK rfl rfl B rfl rfl ?_;walk_at "v0";refine Ac rfl ?_ ?_;refine Ad ?_;refine Cv _ W dK (hj 3 (by decide)) dK rfl rfl B rfl rfl ?_;walk_at "v0";exact Ae;refine Aj ?_ ?_;refine AB 1 nd4 rfl (by walk_at "loc") rfl rfl ?_;refine Ax AU AI ?_ ?_;walk_at "v1";refine Aq ?_;refine Ac rfl ?_ ?_;refine Ad ?_;refine Cv _ W dK (hj 4 (by decide)) dK rfl rfl B rfl rfl ?_;walk_at "v0";refine Ac rfl ?_ ?_;refine Ad ?_;refine Cv _ W dK (hj 5 (by decide)) dK rfl rfl B rfl rfl ?_;walk_at "v0";refine Ac rfl ?_ ?_;refine Ad ?_;refine Cv _ W dK (hj 6 (by decide)) dK rfl rfl B rfl rfl ?_;walk_at "v0";refine Ac rfl ?_ ?_;refine Ad ?_;refine Cv _ W dK (hj 7 (by decide)) dK rfl rfl B rfl rfl ?_;walk_at "v0";exact Ae;refine Aj ?_ ?_;refine AB 1 nd4 rfl (by walk_at "loc") rfl rfl ?_;refine Ax AU AI ?_ ?_;walk_at "v1";refine Aq ?_;refine Ac rfl ?_ ?_;refine Ad ?_;refine Cv _ W dK (hj 8 (by decide)) dK rfl rfl B rfl rfl ?_;walk_at "v0";refine Ac rfl ?_ ?_;refine Ad ?_;refine Cv _ W dK (hj 9 (by decide)) dK rfl rfl B rfl rfl ?_;walk_at "v0";refine Ac rfl ?_ ?_;refine Ad ?_;refine Cv _ W dK (hj 10 (by decide)) dK rfl rfl B rfl rfl ?_;walk_at "v0";refine Ac rfl ?_ ?_
 refine Ad ?_;refine Cv _ W dK (hj 11 (by decide)) dK rfl rfl B rfl rfl ?_;walk_at "v0";exact Ae;refine Aj ?_ ?_;refine AB 1 nd4 rfl (by walk_at "loc") rfl rfl ?_;refine Ax AU AI ?_ ?_;walk_at "v1";refine Aq ?_;refine Ac rfl ?_ ?_;refine Ad ?_;refine Cv _ W dK (hj 12 (by decide)) dK rfl rfl B rfl rfl ?_;walk_at "v0";refine Ac rfl ?_ ?_;refine Ad ?_;refine Cv _ W dK (hj 13 (by decide)) dK rfl rfl B rfl rfl ?_;walk_at "v0";refine Ac rfl ?_ ?_;refine Ad ?_;refine Cv _ W dK (hj 14 (by decide)) dK rfl rfl B rfl rfl ?_;walk_at "v0";exact Ae;refine Aj ?_ ?_;refine AB 2 nd4 rfl (by walk_at "loc") rfl rfl ?_;refine Aq ?_;refine Ac rfl ?_ ?_;refine Ad ?_;exact Al dK;refine Ac rfl ?_ ?_;refine Ad ?_;exact Al dK;refine Ac rfl ?_ ?_;refine Ad ?_;exact Al dK;refine Ac rfl ?_ ?_;refine Ad ?_;exact Al dK;refine Ac rfl ?_ ?_;refine Ad ?_;exact Al dK;refine Ac rfl ?_ ?_;refine Ad ?_;exact Al dK;refine Ac rfl ?_ ?_;refine Ad ?_;exact Al dK;refine Ac rfl ?_ ?_;refine Ad ?_;exact Al dK;refine Ac rfl ?_ ?_;refine Ad ?_;exact Al dK;refine Ac rfl ?_ ?_;refine Ad ?_;exact Al dK;exact Ae;refine Aj ?_ ?_;refine AB 2 nd4 rfl (by walk_at "loc") rfl rfl ?_;refine Ax AU AI ?_ ?_;walk_at "v2";refine Aq ?_;refine Ac rfl ?_ ?_;refine Ad ?_;exact Al dK;refine Ac rfl ?_ ?_;refine Ad ?_;exact Al dK;refine Ac rfl ?_ ?_;refine Ad ?_;exact Al dK;refine Ac rfl ?_ ?_;refine Ad ?_;exact Al dK;refine Ac rfl ?_ ?_;refine Ad ?_;exact Al dK;exact Ae;refine Aj ?_ ?_;refine NU 3 nd4 rfl rfl (by rfl) hmk (by rfl) (fun _=>rfl) rfl ?_ ?_ ?_
 refine Pd rfl B.range rfl ?_;exact Ai;refine Ka fun _ _ _ _ _=>?_;refine Cb (fun _=>rfl) ?_;refine AM AN AD (fun _ _=>rfl) ?_ ?_;walk_at "v2";walk_at "v0";intro _ _ _ _ _;refine AM AN AD (fun _ _=>rfl) ?_ ?_;walk_at "v3";walk_at "v0";refine Aj ?_ ?_;refine CO ?_ ?_ ?_;refine EU ?_;refine Ie ?_ ?_;refine CP Nh (RC hr) (Bz _) ?_ ?_;refine AK BS AY B.len Boot.«len» dK dK rfl rfl rfl ?_;refine Ac rfl ?_ ?_;walk_at "v3";exact Ae;exact Ai;refine G8 ?_;refine Cw ?_;refine Cb (fun _=>rfl) ?_;refine Tv W rfl rfl B rfl rfl ?_;walk_at "v0";refine As ?_;refine AH ?_;exact Al dK;exact Bn;refine As ?_;refine AH ?_;refine AM AN AD (fun _ _=>rfl) ?_ ?_;walk_at "v3";exact Ai
theorem Hz{f HE:Addr}{fd:FuncData}{words:List Str}{jw:Str->Nat}(F:Fun K "_law_refused" "_law_refused" (top 104) f fd)(B:Blt mg K)(B2:Blt2 mg)(DR_machine_of:Def P w K mg base (Fly P w) 14 "machine_of" ["house","one"] (spR K XC BA 2))(hHE:mg "HandError" = some (.ref HE))(W:∀z∈words,DefM P w K mg base CX0 1 "_law_word" ["_law_e"] (spJ K (Dc (XC z) (jw z)) 1))(hΨ:∀Z z,Be Z=some z->z∈words)(hz:∀z∈words,Above base (XC z) HE/\z.length<=sizeLine/\∀a o,o.cls=.ref (XC z)->Dc (XC z) (jw z) [(.lent,.opq a o)]=some (.fz (.str z),[.opq a o])):
  FnOk P w K mg base CX0 15 f fd ["_law_house_here","_law_one"] (spJ K A0 2):=by
 refine Lk (N:=["_law_house_here","_law_one","_law_e"]) (i:=2) (kw:=1) (Φw:=fun z=>Dc (XC z) (jw z)) (b:=E3) (r:=retS (Af (.str (Str.ofString "none")))) (rr:=Be) words F ⟨rfl,rfl,rfl,dK,rfl,dK,dK⟩ rfl rfl rfl rfl rfl dK dK hHE (fun cdv A outer s H E hr=>?_) (fun cdv A outer s H E hr=>?_) (fun cdv A outer s H E E2 xe hr hx=>?_) W (fun z=>Aw) hΨ hz (by decide)
 case refine_1 =>
  exact Jz
 case refine_2 =>
  refine As ?_;refine AH ?_;exact Al dK
 case refine_3 =>
  refine CN ?_;refine Pe DR_machine_of Gm hr (by decide) hx rfl dK rfl rfl rfl ?_;refine Ac rfl ?_ ?_;walk_at "v0";refine Ac rfl ?_ ?_;walk_at "v1";exact Ae
theorem Jf{f HE:Addr}{fd:FuncData}{words:List Str}{jw:Str->Nat}(F:Fun K "_law_known" "_law_known" (top 105) f fd)(B:Blt mg K)(B2:Blt2 mg)(DR_is_set:Def P w K mg base (Fly P w) 10 "is_set" ["house","thing"] (spR K XC B4 2))(hHE:mg "HandError" = some (.ref HE))(W:∀z∈words,DefM P w K mg base CX0 1 "_law_word" ["_law_e"] (spJ K (Dc (XC z) (jw z)) 1))(hΨ:∀Z z,BB Z=some z->z∈words)(hz:∀z∈words,Above base (XC z) HE/\z.length<=sizeLine/\∀a o,o.cls=.ref (XC z)->Dc (XC z) (jw z) [(.lent,.opq a o)]=some (.fz (.str z),[.opq a o])):
  FnOk P w K mg base CX0 11 f fd ["_law_house_here","_law_one"] (spJ K BO 2):=by
 refine Lk (N:=["_law_house_here","_law_one","_law_e"]) (i:=2) (kw:=1) (Φw:=fun z=>Dc (XC z) (jw z)) (b:=E3) (r:=Bp) (rr:=BB) words F ⟨rfl,rfl,rfl,dK,rfl,dK,dK⟩ rfl rfl rfl rfl rfl dK dK hHE (fun cdv A outer s H E hr=>?_) (fun cdv A outer s H E hr=>?_) (fun cdv A outer s H E E2 xe hr hx=>?_) W (fun z=>Aw) hΨ hz (by decide)
 case refine_1 =>
  exact Jz
 case refine_2 =>
  exact Bn
 case refine_3 =>
  refine CN ?_;refine Ri DR_is_set Gm hr (by decide) hx dK rfl rfl rfl ?_;refine Ac rfl ?_ ?_;walk_at "v0";refine Ac rfl ?_ ?_;walk_at "v1";exact Ae
theorem T6{f c b:Addr}{fd:FuncData}(F:Fun K "law" "law" (top 106) f fd)(hn:PySem.W.nsIn K mainGlobals "law" = some (some (.ref f)))(ht:PySem.W.tabIn K "law" = some (c,b))(hh:PySem.W.codeHdIn K c b=true)(B:Blt mg K)(B2:Blt2 mg)(FP:Def P w K mg base CX0 1 "_law_bag" ["_law_cell_here"] (spJ K Dk 1))(EK:Def P w K mg base CX0 2 "_law_house" ["_law_bag_here"] (spJ K BN 1))(Dy:Def P w K mg base CX0 3 "_law_chain" ["_law_bag_here","_law_house_here","_law_rows","_law_tuples","_law_long"] (spJ K Bh 5))(FQ:Def P w K mg base CX0 3 "_law_odd" ["_law_bag_here","_law_house_here"] (spJ K Dl 2))(CW:Def P w K mg base CX0 2 "_law_odd_house" ["_law_bag_here"] (spJ K Bs 1))(Ao:Def P w K mg base CX0 1 "_law_take" ["_law_bag_here","_law_many"] (spJ K Am 2))(DH:Def P w K mg base CX0 12 "is_set" ["house","thing"] (spJ K A5 2))(E8:Def P w K mg base CX0 1 "_law_cell" ["_law_script","_law_k"] (spJ K CL 2))(CD:Def P w K mg base CX0 15 "_law_refused" ["_law_house_here","_law_one"] (spJ K A0 2))(EL:Def P w K mg base CX0 11 "_law_known" ["_law_house_here","_law_one"] (spJ K BO 2)):
  FnOk P w K mg base CX0 16 f fd ["_law_script"] (spJ K G0 1):=by
 refine Ta (N:=["_law_script","_law_k","_law_bag_here","_law_house_here","_law_rows","_law_tuples","_law_many","_law_spoiled","_law_bad","_law_odd_here","_law_thing","_law_other"]) F hn ht ⟨rfl,rfl,rfl,dK,rfl,dK,dK⟩ fun A outer s H E hr=>?_;have nd12:List.Nodup (["_law_script","_law_k","_law_bag_here","_law_house_here","_law_rows","_law_tuples","_law_many","_law_spoiled","_law_bad","_law_odd_here","_law_thing","_law_other"]:List Str):=by decide +kernel
 refine(fun h1 h2=>Aj h1 h2:_->_->_) ?_ ?_;refine(fun h1 h2 h3=>G7 PassesOwn.never rfl h1 h2 h3 (fun _=>rfl):_->_->_->_) ?_ ?_ ?_;refine D5 rfl B.range rfl ?_;refine AK T7 (NJ rfl) B.max Boot.«max» dK dK rfl rfl rfl ?_;refine(fun h1 h2=>Ac rfl h1 h2:_->_->_) ?_ ?_;exact Ai;refine(fun h1 h2=>Ac rfl h1 h2:_->_->_) ?_ ?_;refine AK T8 (NK rfl) B.min Boot.«min» dK dK rfl rfl rfl ?_;refine(fun h1 h2=>Ac rfl h1 h2:_->_->_) ?_ ?_;exact Ai;refine(fun h1 h2=>Ac rfl h1 h2:_->_->_) ?_ ?_;refine AK BS AY B.len Boot.«len» dK dK rfl rfl rfl ?_;refine(fun h1 h2=>Ac rfl h1 h2:_->_->_) ?_ ?_;walk_at "v0";exact Ae;exact Ae;exact Ae;exact Hc 1 nd12 rfl (by walk_at "loc") rfl;refine(fun h1 h2=>Aj h1 h2:_->_->_) ?_ ?_;refine(fun h1=>AB 2 nd12 rfl (by walk_at "loc") rfl rfl h1:_->_) ?_;refine Av FP Aw rfl rfl rfl rfl rfl hr (by decide) AJ dK rfl rfl rfl ?_;refine(fun h1 h2=>Ac rfl h1 h2:_->_->_) ?_ ?_;refine(fun h1 h2=>Ax AU AI h1 h2:_->_->_) ?_ ?_;refine Av E8 Aw rfl rfl rfl rfl rfl hr (by decide) AJ dK rfl rfl rfl ?_;refine(fun h1 h2=>Ac rfl h1 h2:_->_->_) ?_ ?_;walk_at "v0";refine(fun h1 h2=>Ac rfl h1 h2:_->_->_) ?_ ?_;walk_at "v1";exact Ae;walk_at "v1";exact Ae;refine(fun h1 h2=>Aj h1 h2:_->_->_) ?_ ?_;refine(fun h1=>AB 3 nd12 rfl (by walk_at "loc") rfl rfl h1:_->_) ?_;refine Av EK Aw rfl rfl rfl rfl rfl hr (by decide) AJ dK rfl rfl rfl ?_;refine(fun h1 h2=>Ac rfl h1 h2:_->_->_) ?_ ?_;walk_at "v2";exact Ae;refine(fun h1 h2=>Aj h1 h2:_->_->_) ?_ ?_;refine(fun h1=>AB 4 nd12 rfl (by walk_at "loc") rfl rfl h1:_->_) ?_
 refine(fun h1 h2=>Ax AU AI h1 h2:_->_->_) ?_ ?_;exact Ai;refine Av Ao Aw rfl rfl rfl rfl rfl hr (by decide) AJ dK rfl rfl rfl ?_;refine(fun h1 h2=>Ac rfl h1 h2:_->_->_) ?_ ?_;walk_at "v2";refine(fun h1 h2=>Ac rfl h1 h2:_->_->_) ?_ ?_;exact Ai;exact Ae;refine(fun h1 h2=>Aj h1 h2:_->_->_) ?_ ?_;refine(fun h1=>AB 5 nd12 rfl (by walk_at "loc") rfl rfl h1:_->_) ?_;refine(fun h1 h2=>Ax AU AI h1 h2:_->_->_) ?_ ?_;refine(fun h1 h2=>Ax EW EY h1 h2:_->_->_) ?_ ?_;refine(fun h1 h2=>Ax F8 Ga h1 h2:_->_->_) ?_ ?_;exact Ai;walk_at "v4";exact Ai;refine Av Ao Aw rfl rfl rfl rfl rfl hr (by decide) AJ dK rfl rfl rfl ?_;refine(fun h1 h2=>Ac rfl h1 h2:_->_->_) ?_ ?_;walk_at "v2";refine(fun h1 h2=>Ac rfl h1 h2:_->_->_) ?_ ?_;refine(fun h1 h2=>Ax EW EY h1 h2:_->_->_) ?_ ?_;exact Ai;refine(fun h1 h2=>Ax F8 Ga h1 h2:_->_->_) ?_ ?_;exact Ai;walk_at "v4";exact Ae;refine(fun h1 h2=>Aj h1 h2:_->_->_) ?_ ?_;refine(fun h1 h2 h3=>CO h1 h2 h3:_->_->_->_) ?_ ?_ ?_;refine(fun h1 h2=>CP PD PF (Bz _) h1 h2:_->_->_) ?_ ?_;refine Av DH Aw rfl rfl rfl rfl rfl hr (by decide) AJ dK rfl rfl rfl ?_;refine(fun h1 h2=>Ac rfl h1 h2:_->_->_) ?_ ?_;walk_at "v3";refine(fun h1 h2=>Ac rfl h1 h2:_->_->_) ?_ ?_;refine Av Dy Aw rfl rfl rfl rfl rfl hr (by decide) AJ dK rfl rfl rfl ?_;refine(fun h1 h2=>Ac rfl h1 h2:_->_->_) ?_ ?_;walk_at "v2";refine(fun h1 h2=>Ac rfl h1 h2:_->_->_) ?_ ?_;walk_at "v3";refine(fun h1 h2=>Ac rfl h1 h2:_->_->_) ?_ ?_;walk_at "v4";refine(fun h1 h2=>Ac rfl h1 h2:_->_->_) ?_ ?_;walk_at "v5";refine(fun h1 h2=>Ac rfl h1 h2:_->_->_) ?_ ?_
 refine Av Ao Aw rfl rfl rfl rfl rfl hr (by decide) AJ dK rfl rfl rfl ?_;refine(fun h1 h2=>Ac rfl h1 h2:_->_->_) ?_ ?_;walk_at "v2";refine(fun h1 h2=>Ac rfl h1 h2:_->_->_) ?_ ?_;exact Ai;exact Ae;exact Ae;exact Ae;exact CC;refine(fun h1=>As h1:_->_) ?_;refine(fun h1=>AH h1:_->_) ?_;exact CC;exact Bn;refine(fun h1 h2=>Aj h1 h2:_->_->_) ?_ ?_;refine(fun h1=>AB 6 nd12 rfl (by walk_at "loc") rfl rfl h1:_->_) ?_;refine(fun h1=>Aq h1:_->_) ?_;refine(fun h1 h2=>Ac rfl h1 h2:_->_->_) ?_ ?_;refine(fun h1=>Ad h1:_->_) ?_;refine(fun h1=>Ak h1:_->_) ?_;refine(fun h1 h2=>Ac rfl h1 h2:_->_->_) ?_ ?_;refine(fun h1=>Ad h1:_->_) ?_;exact Ai;refine(fun h1 h2=>Ac rfl h1 h2:_->_->_) ?_ ?_;refine(fun h1=>Ad h1:_->_) ?_;exact Ai;refine(fun h1 h2=>Ac rfl h1 h2:_->_->_) ?_ ?_;refine(fun h1=>Ad h1:_->_) ?_;exact Ai;exact Ae;refine(fun h1 h2=>Ac rfl h1 h2:_->_->_) ?_ ?_;refine(fun h1=>Ad h1:_->_) ?_;refine(fun h1=>Ak h1:_->_) ?_;refine(fun h1 h2=>Ac rfl h1 h2:_->_->_) ?_ ?_;refine(fun h1=>Ad h1:_->_) ?_;exact Ai;refine(fun h1 h2=>Ac rfl h1 h2:_->_->_) ?_ ?_;refine(fun h1=>Ad h1:_->_) ?_;exact Ai;refine(fun h1 h2=>Ac rfl h1 h2:_->_->_) ?_ ?_;refine(fun h1=>Ad h1:_->_) ?_;exact Ai;exact Ae;refine(fun h1 h2=>Ac rfl h1 h2:_->_->_) ?_ ?_;refine(fun h1=>Ad h1:_->_) ?_;refine(fun h1=>Ak h1:_->_) ?_;refine(fun h1 h2=>Ac rfl h1 h2:_->_->_) ?_ ?_;refine(fun h1=>Ad h1:_->_) ?_;exact Ai;refine(fun h1 h2=>Ac rfl h1 h2:_->_->_) ?_ ?_;refine(fun h1=>Ad h1:_->_) ?_;exact Ai;refine(fun h1 h2=>Ac rfl h1 h2:_->_->_) ?_ ?_;refine(fun h1=>Ad h1:_->_) ?_
 exact Ai;exact Ae;refine(fun h1 h2=>Ac rfl h1 h2:_->_->_) ?_ ?_;refine(fun h1=>Ad h1:_->_) ?_;refine(fun h1=>Ak h1:_->_) ?_;refine(fun h1 h2=>Ac rfl h1 h2:_->_->_) ?_ ?_;refine(fun h1=>Ad h1:_->_) ?_;exact Ai;refine(fun h1 h2=>Ac rfl h1 h2:_->_->_) ?_ ?_;refine(fun h1=>Ad h1:_->_) ?_;exact Ai;refine(fun h1 h2=>Ac rfl h1 h2:_->_->_) ?_ ?_;refine(fun h1=>Ad h1:_->_) ?_;exact Ai;exact Ae;refine(fun h1 h2=>Ac rfl h1 h2:_->_->_) ?_ ?_;refine(fun h1=>Ad h1:_->_) ?_;refine(fun h1=>Ak h1:_->_) ?_;refine(fun h1 h2=>Ac rfl h1 h2:_->_->_) ?_ ?_;refine(fun h1=>Ad h1:_->_) ?_;walk_at "v4";refine(fun h1 h2=>Ac rfl h1 h2:_->_->_) ?_ ?_;refine(fun h1=>Ad h1:_->_) ?_;walk_at "v5";refine(fun h1 h2=>Ac rfl h1 h2:_->_->_) ?_ ?_;refine(fun h1=>Ad h1:_->_) ?_;exact Ai;exact Ae;refine(fun h1 h2=>Ac rfl h1 h2:_->_->_) ?_ ?_;refine(fun h1=>Ad h1:_->_) ?_;refine(fun h1=>Ak h1:_->_) ?_;refine(fun h1 h2=>Ac rfl h1 h2:_->_->_) ?_ ?_;refine(fun h1=>Ad h1:_->_) ?_;exact Ai;refine(fun h1 h2=>Ac rfl h1 h2:_->_->_) ?_ ?_;refine(fun h1=>Ad h1:_->_) ?_;exact Ai;refine(fun h1 h2=>Ac rfl h1 h2:_->_->_) ?_ ?_;refine(fun h1=>Ad h1:_->_) ?_;exact Ai;exact Ae;refine(fun h1 h2=>Ac rfl h1 h2:_->_->_) ?_ ?_;refine(fun h1=>Ad h1:_->_) ?_;refine(fun h1=>Ak h1:_->_) ?_;refine(fun h1 h2=>Ac rfl h1 h2:_->_->_) ?_ ?_;refine(fun h1=>Ad h1:_->_) ?_;walk_at "v4";refine(fun h1 h2=>Ac rfl h1 h2:_->_->_) ?_ ?_;refine(fun h1=>Ad h1:_->_) ?_;walk_at "v5";refine(fun h1 h2=>Ac rfl h1 h2:_->_->_) ?_ ?_;refine(fun h1=>Ad h1:_->_) ?_;exact Ai;exact Ae;exact Ae
 refine(fun h1 h2=>Aj h1 h2:_->_->_) ?_ ?_;refine(fun h1=>AB 7 nd12 rfl (by walk_at "loc") rfl rfl h1:_->_) ?_;refine(fun h1 h2=>AM AN AD (fun _ _=>rfl) h1 h2:_->_->_) ?_ ?_;walk_at "v6";refine Av Ao Aw rfl rfl rfl rfl rfl hr (by decide) AJ dK rfl rfl rfl ?_;refine(fun h1 h2=>Ac rfl h1 h2:_->_->_) ?_ ?_;walk_at "v2";refine(fun h1 h2=>Ac rfl h1 h2:_->_->_) ?_ ?_;refine AK BS AY B.len Boot.«len» dK dK rfl rfl rfl ?_;refine(fun h1 h2=>Ac rfl h1 h2:_->_->_) ?_ ?_;walk_at "v6";exact Ae;exact Ae;refine(fun h1 h2=>Aj h1 h2:_->_->_) ?_ ?_;refine(fun h1=>AB 8 nd12 rfl (by walk_at "loc") rfl rfl h1:_->_) ?_;refine Av Dy Aw rfl rfl rfl rfl rfl hr (by decide) AJ dK rfl rfl rfl ?_;refine(fun h1 h2=>Ac rfl h1 h2:_->_->_) ?_ ?_;walk_at "v2";refine(fun h1 h2=>Ac rfl h1 h2:_->_->_) ?_ ?_;walk_at "v3";refine(fun h1 h2=>Ac rfl h1 h2:_->_->_) ?_ ?_;refine(fun h1 h2=>AM AN AD (fun _ _=>rfl) h1 h2:_->_->_) ?_ ?_;walk_at "v7";exact Ai;refine(fun h1 h2=>Ac rfl h1 h2:_->_->_) ?_ ?_;refine(fun h1 h2=>AM AN AD (fun _ _=>rfl) h1 h2:_->_->_) ?_ ?_;walk_at "v7";exact Ai;refine(fun h1 h2=>Ac rfl h1 h2:_->_->_) ?_ ?_;refine(fun h1 h2=>AM AN AD (fun _ _=>rfl) h1 h2:_->_->_) ?_ ?_;walk_at "v7";exact Ai;exact Ae;refine(fun h1 h2=>Aj h1 h2:_->_->_) ?_ ?_;refine(fun h1=>AB 9 nd12 rfl (by walk_at "loc") rfl rfl h1:_->_) ?_;refine Av FQ Aw rfl rfl rfl rfl rfl hr (by decide) AJ dK rfl rfl rfl ?_;refine(fun h1 h2=>Ac rfl h1 h2:_->_->_) ?_ ?_;walk_at "v2";refine(fun h1 h2=>Ac rfl h1 h2:_->_->_) ?_ ?_;walk_at "v3";exact Ae;refine(fun h1 h2=>Aj h1 h2:_->_->_) ?_ ?_
 refine(fun h1 h2 h3=>G7 PassesOwn.never rfl h1 h2 h3 (fun _=>rfl):_->_->_->_) ?_ ?_ ?_;refine(fun h1=>Ic h1:_->_) ?_;refine(fun h1=>Aq h1:_->_) ?_;refine(fun h1 h2=>Ac rfl h1 h2:_->_->_) ?_ ?_;refine(fun h1=>Ad h1:_->_) ?_;walk_at "v8";refine(fun h1 h2=>Ac rfl h1 h2:_->_->_) ?_ ?_;refine(fun h1=>Ad h1:_->_) ?_;walk_at "v9";refine(fun h1 h2=>Ac rfl h1 h2:_->_->_) ?_ ?_;refine(fun h1=>Ad h1:_->_) ?_;refine(fun h1=>Ak h1:_->_) ?_;refine(fun h1 h2=>Ac rfl h1 h2:_->_->_) ?_ ?_;refine(fun h1=>Ad h1:_->_) ?_;exact Al dK;refine(fun h1 h2=>Ac rfl h1 h2:_->_->_) ?_ ?_;refine(fun h1=>Ad h1:_->_) ?_;walk_at "v9";exact Ae;refine(fun h1 h2=>Ac rfl h1 h2:_->_->_) ?_ ?_;refine(fun h1=>Ad h1:_->_) ?_;refine(fun h1=>Ak h1:_->_) ?_;refine(fun h1 h2=>Ac rfl h1 h2:_->_->_) ?_ ?_;refine(fun h1=>Ad h1:_->_) ?_;exact Al dK;refine(fun h1 h2=>Ac rfl h1 h2:_->_->_) ?_ ?_;refine(fun h1=>Ad h1:_->_) ?_;refine(fun h1=>Ak h1:_->_) ?_;refine(fun h1 h2=>Ac rfl h1 h2:_->_->_) ?_ ?_;refine(fun h1=>Ad h1:_->_) ?_;exact Al dK;refine(fun h1 h2=>Ac rfl h1 h2:_->_->_) ?_ ?_;refine(fun h1=>Ad h1:_->_) ?_;exact Al dK;exact Ae;refine(fun h1 h2=>Ac rfl h1 h2:_->_->_) ?_ ?_;refine(fun h1=>Ad h1:_->_) ?_;walk_at "v9";exact Ae;exact Ae;exact Hc 10 nd12 rfl (by walk_at "loc") rfl;refine(fun h1=>As h1:_->_) ?_;refine(fun h1 h2 h3=>CO h1 h2 h3:_->_->_->_) ?_ ?_ ?_;refine(fun h1=>EU h1:_->_) ?_;refine(fun h1 h2=>Ie h1 h2:_->_->_) ?_ ?_;refine(fun h1 h2=>CP PD PF (Bz _) h1 h2:_->_->_) ?_ ?_;refine Av DH Aw rfl rfl rfl rfl rfl hr (by decide) AJ dK rfl rfl rfl ?_
 refine(fun h1 h2=>Ac rfl h1 h2:_->_->_) ?_ ?_;walk_at "v3";refine(fun h1 h2=>Ac rfl h1 h2:_->_->_) ?_ ?_;walk_at "v10";exact Ae;exact CC;refine(fun h1=>G8 h1:_->_) ?_;refine(fun h1 h2=>CP Nh (Mw hr) (Bz _) h1 h2:_->_->_) ?_ ?_;refine Av CD Gd rfl rfl rfl rfl rfl hr (by decide) AJ dK rfl rfl rfl ?_;refine(fun h1 h2=>Ac rfl h1 h2:_->_->_) ?_ ?_;walk_at "v3";refine(fun h1 h2=>Ac rfl h1 h2:_->_->_) ?_ ?_;walk_at "v10";exact Ae;exact Al dK;refine(fun h1=>As h1:_->_) ?_;refine(fun h1=>AH h1:_->_) ?_;exact CC;exact Bn;refine(fun h1 h2=>Aj h1 h2:_->_->_) ?_ ?_;refine(fun h1=>AB 11 nd12 rfl (by walk_at "loc") rfl rfl h1:_->_) ?_;refine Av CW Aw rfl rfl rfl rfl rfl hr (by decide) AJ dK rfl rfl rfl ?_;refine(fun h1 h2=>Ac rfl h1 h2:_->_->_) ?_ ?_;walk_at "v2";exact Ae;refine(fun h1=>As h1:_->_) ?_;refine(fun h1 h2 h3=>CO h1 h2 h3:_->_->_->_) ?_ ?_ ?_;refine(fun h1=>EU h1:_->_) ?_;refine(fun h1 h2=>Ie h1 h2:_->_->_) ?_ ?_;refine(fun h1 h2=>CP Nh (Mw hr) (Bz _) h1 h2:_->_->_) ?_ ?_;refine Av CD Gd rfl rfl rfl rfl rfl hr (by decide) AJ dK rfl rfl rfl ?_;refine(fun h1 h2=>Ac rfl h1 h2:_->_->_) ?_ ?_;walk_at "v11";refine(fun h1 h2=>Ac rfl h1 h2:_->_->_) ?_ ?_;walk_at "v9";exact Ae;exact Al dK;refine(fun h1=>G8 h1:_->_) ?_;refine(fun h1 h2=>CP Nh (Mw hr) (Bz _) h1 h2:_->_->_) ?_ ?_;refine Av EL Gd rfl rfl rfl rfl rfl hr (by decide) AJ dK rfl rfl rfl ?_;refine(fun h1 h2=>Ac rfl h1 h2:_->_->_) ?_ ?_;walk_at "v11";refine(fun h1 h2=>Ac rfl h1 h2:_->_->_) ?_ ?_;refine(fun h1=>Ak h1:_->_) ?_;refine(fun h1 h2=>Ac rfl h1 h2:_->_->_) ?_ ?_
 refine(fun h1=>Ad h1:_->_) ?_;exact Al dK;refine(fun h1 h2=>Ac rfl h1 h2:_->_->_) ?_ ?_;refine(fun h1=>Ad h1:_->_) ?_;exact Al dK;exact Ae;exact Ae;exact Al dK;refine(fun h1=>As h1:_->_) ?_;refine(fun h1=>AH h1:_->_) ?_;exact CC;exact Bn;refine(fun h1=>As h1:_->_) ?_;refine(fun h1=>AH h1:_->_) ?_;exact CC
end
end Gk59
end
section
namespace Gk59
open PySem L2 J St
local macro_rules | `(tactic| walk_at "ev")=>do
 let l <- ("on1 on2 on3 HV Ig BF Ck fzU E6 Ft Az ifS AX opM m1L m2L Aa Ah Ag Af peeks peek er ers D2 J.andM J.notM JQ orT C5 IZ Ab share move moves keep An mkT lstM vals fzs Cq HF AF Vl Cz Km J7 retS Bp E3 free Lq IX Wy CV Au CI E9 refs back MK GD E7 isInt isBool Hr isTup isStr A3 FD FU Gv La KY RO Kt MO KL Q1 Rt OE BZ ixA BF Ck fzU E6 Ft Option.some_or Option.none_or Option.bind_none A8 DX atI ixN eqA neA ltA leA gtA geA K4 Fs nameOf lock unlock shB MN GP Wx MP Jy Th WM WN slF own Gj Hq Jw Ho Gk Fu K5 Nb OW inA BX".splitOn " ").mapM fun s=>`(Lean.Parser.Tactic.simpLemma| $(Lean.mkIdent s.toName):ident)
 let l:=l.toArray
 `(tactic| simp [-List.map_map,$l,*, *])
structure Hs where
 n:Int
 ls:List (Nat×List Int)
noncomputable def chD(c:Nat):D:=.str ⟨#[c]⟩
noncomputable def ld(p:Nat×List Int):D:=.tup [chD p.1,.lst (iL p.2)]
noncomputable def Hs.d(h:Hs):D:=.tup [.int h.n,.lst (h.ls.map ld)]
structure Hs.Ok (h:Hs):Prop where
 n1:2<=h.n
 n2:h.n<=4
 l1:1<=h.ls.length
 l2:h.ls.length<=6
 ch:∀p∈h.ls,97<=p.1/\p.1<=122
 ri:(h.ls.map (·.1)).Pairwise (· < ·)
 hs:∀p∈h.ls,p.2≠[]/\p.2.Pairwise (· < ·)/\∀x∈p.2,0<=x/\x<h.n
@[simp] theorem MG(st:Own)(d:D):BY [(st,.fz d)]=some (.fz (.bl (isInt d&&!isBool d)),[.fz d]):=by
 simp only[BY,fnM,Gi];cases d<;>walk_at "ev"
@[simp] theorem Nv(s1 s2:Own)(i b:Int):A6 [(s1,.fz (.int i)),(s2,.fz (.int b))]=some (.fz (.bl (decide (0<=i)&&decide (i<b))),[.fz (.int i),.fz (.int b)]):=by
 simp only[A6,fnM,Dt];by_cases h0:0<=i<;>walk_at "ev" <;> simp[h0]
@[simp] theorem JH(st:Own)(x y:D):Cu [(st,.fz (.tup [x,y]))]=some (.fz (.bl true),[.fz (.tup [x,y])]):=by
 simp only[Cu,fnM,Hm];walk_at "ev"
theorem LL{α:Type}(xs:List α)(f:α -> Bool):(xs.map f).all id=xs.all f:=by simp[List.all_map]
theorem Jm(s1 s2:Own)(xs:List Int)(b:Int)(hl:xs.length<=LIM):Bt [(s1,.fz (.lst (iL xs))),(s2,.fz (.int b))]=some (.fz (.bl (xs.all fun i=>decide (0<=i)&&decide (i<b))),[.fz (.lst (iL xs)),.fz (.int b)]):=by
 have hc:=GS (it:=Fs (Ag 0)) (e:=Au A6 (Aa (Ag 0) (Aa (Ag 2) Ah))) (Z:=[some (s1,.fz (.lst (iL xs))),some (s2,.fz (.int b))]) (Z1:=[some (s1,.fz (.lst (iL xs))),some (s2,.fz (.int b))]) (ds:=iL xs) (n:=none) (f:=fun d=>.bl (decide (0<=nD d)&&decide (nD d<b))) (by walk_at "ev") (by simpa using hl) (fun d hd=>by
  obtain⟨i,_,rfl⟩:=TX.mp hd;refine⟨.val (.fz (.bl (decide (0<=i)&&decide (i<b)))),?_,?_⟩<;>walk_at "ev" <;> rfl)
 rw[TQ (fun i=>D.bl (decide (0<=i)&&decide (i<b)))] at hc;refine DR (Z:=[some (s1,.fz (.lst (iL xs))),some (s2,.fz (.int b))]) rfl ?_;show BQ [some (s1,.fz (.lst (iL xs))),some (s2,.fz (.int b))]=_;unfold BQ;refine Hg ?_;simp only[on1,on2,on3,HV,Ig,BF,Ck,fzU,E6,Ft,opM,Aa,Ah,hc,Option.bind_some,Option.map_some,peeks,peek,GP,DX,Cq,Fu,LL]
@[simp] theorem Kr(s1 s2:Own)(xs:List Int)(b:Int)(hl:xs.length<=LIM):AQ [(s1,.fz (.lst (iL xs))),(s2,.fz (.int b))]=some (.fz (.bl (xs.all fun i=>decide (0<=i)&&decide (i<b))),[.fz (.lst (iL xs)),.fz (.int b)]):=by
 have e1:=Jm .own .own xs b hl;simp only[AQ,fnM,BM];clear hl;walk_at "ev"
theorem Cm{α:Type}{xs:List α}{k:Nat}{i:Int}(hi:i=k)(h:k<xs.length):atI xs i=some xs[k]:=by
 subst hi;simp[atI,ixN,h]
theorem Qi{xs:List Int}(h:xs.Pairwise (· < ·)){k:Nat}(hk:k+1<xs.length):xs[k]'(by lia)<xs[k+1]:=List.pairwise_iff_getElem.mp h k (k+1) (by lia) hk (by lia)
theorem Ww{ds:List D}(h:∀d∈ds,d=.bl true):∃bs:List Bool,DL ds=some bs/\bs.all id=true:=by
 induction ds with
 | nil=>exact⟨[],rfl,rfl⟩
 | cons d ds ih =>
  obtain⟨bs,h1,h2⟩:=ih fun x hx=>h x (List.mem_cons_of_mem _ hx);have:=h d List.mem_cons_self;subst this;exact⟨true::bs,by simp[DL,h1],by simpa using h2⟩
theorem all_true{it:MI}{e:ME}{Z Z1:Ro}{ds:List D}{n:Option Nat}(hi:it Z=some (ds,n,Z1))(hl:ds.length<=LIM)(he:∀d∈ds,e (J.own d::lock Z1 n)=some (.val (.fz (.bl true)),J.own d::lock Z1 n)):
  opM GP (Aa (BL it 0 Hj e) Ah) Z=some (.val (.fz (.bl true)),Z1):=by
 have hc:=GS (f:=fun _=>.bl true) hi hl fun d hd=>⟨_,he d hd,by simp[share,er]⟩;obtain⟨bs,h1,h2⟩:=Ww (ds:=ds.map fun _=>D.bl true) (by simp);simp only[on1,on2,on3,HV,Ig,BF,Ck,fzU,E6,Ft,opM,Aa,Ah,hc,Option.bind_some,Option.map_some,peeks,peek,GP,DX,Cq,h1,h2]
theorem Qn(s1 s2:Own)(xs:List Int)(b:Int)(hl:xs.length<=1000)(hr:xs.Pairwise (· < ·))(hb:∀x∈xs,0<=x/\x<b):A1 [(s1,.fz (.lst (iL xs))),(s2,.fz (.int b))]=some (.fz (.bl true),[.fz (.lst (iL xs)),.fz (.int b)]):=by
 have hL:xs.length<=LIM:=Nat.le_trans hl (by decide);simp only[A1,fnM,Cf];have h1:(xs.all fun i=>decide (0<=i)&&decide (i<b))=true:=by simpa[List.all_eq_true] using hb
 have hc:=all_true (it:=Cj (opM FD (m2L (opM BZ (Aa (Ag 0) Ah)) (Af (.int 1))))) (e:=opM ltA (m2L (opM ixA (m2L (Ag 1) (Ag 0))) (opM ixA (m2L (Ag 1) (opM A3 (m2L (Ag 0) (Af (.int 1)))))))) (Z:=[some (s1,.fz (.lst (iL xs))),some (s2,.fz (.int b))]) (ds:=EJ 0 ((xs.length:Int)-1).toNat) (n:=none) (Z1:=[some (s1,.fz (.lst (iL xs))),some (s2,.fz (.int b))])
  (by
   have : -(2 ^ 62)<=(xs.length:Int)-1/\(xs.length:Int)-1<2 ^ 62:=by lia
   simp only[Cj]; walk_at "ev"; lia) (by rw[Ge]; lia) (fun d hd=>by
   obtain⟨j,hj⟩:=List.mem_iff_getElem?.mp hd;obtain⟨rfl,hj⟩:=IU hj;have hk:j+1<xs.length:=by lia
   have e1:=Cm (xs:=iL xs) (i:=0+(j:Int)) (k:=j) (by lia) (by simpa using(by lia:j<xs.length));have e2:=Cm (xs:=iL xs) (i:=0+(j:Int)+1) (k:=j+1) (by lia) (by simpa using hk);have e3:=Qi hr hk;simp only[iL,List.getElem_map] at e1 e2;simp only[on1,on2,on3,HV,Ig,BF,Ck,fzU,E6,Ft,NX,opM,m2L,Aa,Ah,Ag,Af,J.own,peeks,peek,ixA,BF,Ck,fzU,E6,Ft,Option.some_or,Option.none_or,Option.bind_none,A8,A3,ltA,List.getElem?_cons_zero,List.getElem?_cons_succ,Option.bind_some,Option.map_some,iL,e1,e2,e3,decide_true])
 simp only[Az,ifS,C5,AX,retS,Au,Aa,Ah,Ag,List.map_cons,List.map_nil,List.getElem?_cons_zero,List.getElem?_cons_succ,Option.bind_some,Option.map_some,CI,E9,refs,List.nodup_nil,if_true,Kr _ _ xs b hL,h1,back,peek,D2,Bool.not_true,Bool.false_eq_true,if_false,Bp,List.append_nil,List.length_cons,List.length_nil,Nat.sub_self,List.replicate_zero];simp[hc,move,GD]
theorem Nj{f:List A->Option A}{ms:MA}{Z Z1:Ro}{rs:List R}{as:List A}{c:A}(h1:ms Z=some (rs,Z1))(h2:peeks Z1 rs=some as)(h3:f as=some c):opM f ms Z=some (.val c,Z1):=by
 simp only[opM,h1,h2,h3,Option.bind_some,Option.map_some]
theorem ixL{T:List D}{i:Int}{d:D}(h:atI T i=some d):ixA [.lst (T.map A.fz),.fz (.int i)]=some (.fz d):=by
 simp only[on1,on2,on3,HV,Ig,ixA,BF,fzU,E6,A8,Ck,Ft,Cq,h,Option.bind_some,Option.map_some,Option.some_or,Option.none_or,Option.bind_none]
theorem ixF{T:List D}{i:Int}{d:D}(h:atI T i=some d):ixA [.fz (.lst T),.fz (.int i)]=some (.fz d):=by
 simp only[on1,on2,on3,HV,Ig,ixA,BF,fzU,E6,A8,Ck,Ft,h,Option.bind_some,Option.map_some,Option.some_or,Option.none_or,Option.bind_none]
theorem ixS{z:Str}{i:Int}{c:Nat}(h:atI z.cps.toList i=some c):ixA [.fz (.str z),.fz (.int i)]=some (.fz (chD c)):=by
 simp only[on1,on2,on3,HV,Ig,ixA,BF,fzU,E6,A8,Ck,Ft,h,chD,Option.bind_some,Option.map_some,Option.some_or,Option.none_or,Option.bind_none,Option.map_none]
theorem UW{i j:Int}(h:decide (0<=j/\j<=1000000/\i.natAbs<2 ^ 64)=true):Kt [.fz (.int i),.fz (.int j)]=some (.fz (.int (i*2 ^ j.toNat))):=by
 simp only[on1,on2,on3,HV,Ig,Kt,FU,BF,fzU,E6,Option.bind_some,h,if_true]
theorem UX{i j:Int}(h:decide (0<=j)=true):MO [.fz (.int i),.fz (.int j)]=some (.fz (.int (i / 2 ^ j.toNat))):=by
 simp only[on1,on2,on3,HV,Ig,MO,FU,BF,fzU,E6,Option.bind_some,h,if_true]
theorem Pq{m1 m2:ME}{Z Z1 Z2:Ro}{r1 r2:R}(h1:m1 Z=some (r1,Z1))(h2:m2 Z1=some (r2,Z2)):m2L m1 m2 Z=some ([r1,r2],Z2):=by
 simp only[m2L,Aa,Ah,h1,h2,Option.bind_some,Option.map_some]
noncomputable abbrev oI(i:Int):Slot:=some (.own,.fz (.int i))
local macro_rules | `(tactic| walk_at "eo")=>do
 let l <- ("Az ifS TR TY AX opM m1L m2L Aa Ah Ag Af peeks peek er ers D2 J.andM J.notM JQ orT C5 IZ Ab share move moves keep An mkT lstM vals fzs Cq HF AF Cz Km J7 retS Bp E3 free Lq IX CV Au CI E9 refs back MK GD E7 isInt isBool Hr isTup isStr A3 FD FU Gv La KY RO Kt MO KL Q1 Rt OE BZ ixA BF Ck fzU E6 Ft Option.some_or Option.none_or Option.bind_none A8 DX eqA neA ltA leA gtA geA K4 Fs nameOf lock unlock Kz shB MN GP MP Jy slF J.own Gj Hq Jw Ho Gk Fu K5 Nb OW NP inA BX Cj Jn WE on1 on2 on3 HV Ig QQ List.getElem?_cons_zero List.getElem?_cons_succ List.getElem?_nil Option.bind_some Option.bind_none Option.map_some Option.map_none List.map_cons List.map_nil List.cons_append List.nil_append List.append_nil List.length_cons List.length_nil List.length_map List.replicate_zero List.replicate_succ List.nodup_nil List.set_cons_zero List.set_cons_succ List.take_succ_cons List.take_zero if_true if_false Bool.not_true Bool.not_false Bool.false_eq_true reduceIte reduceCtorEq Nat.reduceSub Nat.reduceAdd Nat.sub_self Bool.true_and Bool.and_true Bool.false_and Bool.and_false Bool.true_or Bool.or_true Bool.false_or Bool.or_false decide_true decide_false beq_self_eq_true and_self and_true true_and Nat.zero_add List.nodup_cons List.not_mem_nil not_false_eq_true".splitOn " ").mapM fun s=>`(Lean.Parser.Tactic.simpLemma| $(Lean.mkIdent s.toName):ident)
 let l:=l.toArray
 `(tactic| simp only [$l,*, *])
theorem Vx:(Str.ofString "a").cps.toList=[97]:=by decide +kernel
theorem Vy:(Str.ofString "z").cps.toList=[122]:=by decide +kernel
theorem Mk(a b:Nat):([a] < [b])↔a<b:=by
 rw[List.cons_lt_cons_iff];constructor
 .rintro (h|⟨_,h⟩)
  .exact h
  .exact absurd h (List.not_lt_nil _)
 .intro h; exact .inl h
theorem at0{α:Type}(a:α)(xs:List α):atI (a::xs) 0=some a:=by simp[atI,ixN]
theorem at1{α:Type}(a b:α)(xs:List α):atI (a::b::xs) 1=some b:=by
 have:(1:Int)<((xs.length:Int)+1+1):=by lia
 simp[atI,ixN,this]
theorem R8(st:Own)(c:Nat)(h:97<=c/\c<=122):Bl [(st,.fz (chD c))]=some (.fz (.bl true),[.fz (chD c)]):=by
 have e1:decide ([c] < [97])=false:=by rw[decide_eq_false_iff_not,Mk]; lia
 have e2:decide ([122] < [c])=false:=by rw[decide_eq_false_iff_not,Mk]; lia
 have e3:((Str.length ⟨#[c]⟩:Nat):Int)=1:=rfl;have e4:=Vx;have e5:=Vy;simp only[Bl,fnM,Du,chD];walk_at "eo"
theorem R4(s1 s2:Own)(n:Int)(p:Nat×List Int)(h:97<=p.1/\p.1<=122)(hl:p.2.length<=1000)(h0:p.2≠[])(hr:p.2.Pairwise (· < ·))(hb:∀x∈p.2,0<=x/\x<n):CB [(s1,.fz (.int n)),(s2,.fz (ld p))]=some (.fz (.bl true),[.fz (.int n),.fz (ld p)]):=by
 have hp:decide ((0:Int)<(p.2.length:Int))=true:=by
  have:=List.length_pos_iff.mpr h0;simpa using this
 have e1:=at0 (chD p.1) [.lst (iL p.2)];have e2:=at1 (chD p.1) (.lst (iL p.2)) [];have e3:=R8 .own p.1 h;have e4:=Qn .own .own p.2 n hl hr hb;have e5:=JH .own (chD p.1) (.lst (iL p.2));clear hb hr h0 h hl;simp only[CB,fnM,Gg,ld];walk_at "eo"
theorem R3(st:Own)(n:Int)(h1:2<=n)(h2:n<=4):Ba [(st,.fz (.int n))]=some (.fz (.bl true),[.fz (.int n)]):=by
 have e1:=MG .own (.int n);simp only[Ba,fnM,CU];walk_at "eo"
theorem Qj{n lo:Int}:∀{xs:List Int},xs.Pairwise (· < ·)->(∀x∈xs,lo<=x/\x<n)->(xs.length:Int)<=max 0 (n-lo):=by
 intro xs;induction xs generalizing lo with
 | nil=>intro _ _; simp; lia
 | cons x xs ih =>
  intro hp hb;have:=ih (lo:=x+1) (List.pairwise_cons.mp hp).2 fun y hy=>⟨by have:=(List.pairwise_cons.mp hp).1 y hy; lia,(hb y (List.mem_cons_of_mem _ hy)).2⟩;have:=hb x List.mem_cons_self;simp only[List.length_cons];lia
theorem Hs.Ok.hl{h:Hs}(ok:h.Ok):∀p∈h.ls,p.2.length<=4:=fun p hp=>by
 obtain⟨_,r,b⟩:=ok.hs p hp;have n2:=ok.n2;have:=Qj r b;lia
theorem Ol(s1 s2:Own)(h:Hs)(ok:h.Ok):CM [(s1,.fz (.int h.n)),(s2,.fz (.lst (h.ls.map ld)))]=some (.fz (.bl true),[.fz (.int h.n),.fz (.lst (h.ls.map ld))]):=by
 have l1:=ok.l1;have l2:=ok.l2;have hlim:1000<=LIM:=by decide
 have hc1:=all_true (it:=Fs (Ag 1)) (e:=Au CB (Aa (Ag 1) (Aa (Ag 0) Ah))) (Z:=[some (s1,.fz (.int h.n)),some (s2,.fz (.lst (h.ls.map ld)))]) (ds:=h.ls.map ld) (n:=none) (Z1:=[some (s1,.fz (.int h.n)),some (s2,.fz (.lst (h.ls.map ld)))])
  (by walk_at "eo") (by simp; lia) (fun d hd=>by
   obtain⟨p,hp,rfl⟩:=List.mem_map.mp hd;obtain⟨h0,hr,hb⟩:=ok.hs p hp;have e1:=R4 .own .own h.n p (ok.ch p hp) (by have:=ok.hl p hp; lia) h0 hr hb;clear hb hr h0 hd hp;walk_at "eo")
 have hc2:=all_true (it:=Cj (opM FD (m2L (opM BZ (Aa (Ag 1) Ah)) (Af (.int 1))))) (e:=opM ltA (m2L (opM ixA (m2L (opM ixA (m2L (Ag 2) (Ag 0))) (Af (.int 0)))) (opM ixA (m2L (opM ixA (m2L (Ag 2) (opM A3 (m2L (Ag 0) (Af (.int 1)))))) (Af (.int 0)))))) (Z:=[some (s1,.fz (.int h.n)),some (s2,.fz (.lst (h.ls.map ld)))]) (ds:=EJ 0 ((h.ls.length:Int)-1).toNat) (n:=none) (Z1:=[some (s1,.fz (.int h.n)),some (s2,.fz (.lst (h.ls.map ld)))])
  (by
   have e0:(-(2 ^ 62)<=(h.ls.length:Int)-1/\(h.ls.length:Int)-1<2 ^ 62)=True:=by simp; lia
   clear hc1;walk_at "eo") (by rw[Ge]; lia) (fun d hd=>by
   obtain⟨j,hj⟩:=List.mem_iff_getElem?.mp hd;obtain⟨rfl,hj⟩:=IU hj;have hk:j+1<h.ls.length:=by lia
   have e1:=Cm (xs:=h.ls.map ld) (i:=0+(j:Int)) (k:=j) (by lia) (by simpa using(by lia:j<h.ls.length));have e2:=Cm (xs:=h.ls.map ld) (i:=0+(j:Int)+1) (k:=j+1) (by lia) (by simpa using hk);have e3:(h.ls[j]'(by lia)).1<(h.ls[j+1]).1:=by
    have:=List.pairwise_iff_getElem.mp ok.ri j (j+1) (by simp; lia) (by simpa using hk) (by lia);simpa using this
   simp only[List.getElem_map,ld,chD] at e1 e2;have e4:decide ([(h.ls[j]'(by lia)).1] < [(h.ls[j+1]).1])=true:=by rw[decide_eq_true_iff]; exact(Mk _ _).mpr e3
   have e5:=at0 (D.str ⟨#[(h.ls[j]'(by lia)).1]⟩) [.lst (iL (h.ls[j]'(by lia)).2)];have e6:=at0 (D.str ⟨#[(h.ls[j+1]).1]⟩) [.lst (iL (h.ls[j+1]).2)];clear hc1 hd e3 hj l1 l2 hlim;walk_at "eo")
 have e5:decide ((1:Int)<=(h.ls.length:Int))=true:=by simp; lia
 have e6:decide ((h.ls.length:Int)<=6)=true:=by simp; lia
 clear l1 l2 hlim;refine DR (Z:=[some (s1,.fz (.int h.n)),some (s2,.fz (.lst (h.ls.map ld)))]) rfl ?_;show Dp [some (s1,.fz (.int h.n)),some (s2,.fz (.lst (h.ls.map ld)))]=_;unfold Dp;rw[Bf (Z1:=[some (s1,.fz (.int h.n)),some (s2,.fz (.lst (h.ls.map ld)))]) (by clear hc1 hc2; walk_at "eo"),Bf (VI (not_of (QD hc1)))];exact Hg hc2
theorem II(st:Own)(h:Hs)(ok:h.Ok):Bu [(st,.fz h.d)]=some (.fz (.bl true),[.fz h.d]):=by
 have e1:=Ol .own .own h ok;have e2:=R3 .own h.n ok.n1 ok.n2;have e3:=JH .own (.int h.n) (.lst (h.ls.map ld));have e4:=at0 (D.int h.n) [.lst (h.ls.map ld)];have e5:=at1 (D.int h.n) (.lst (h.ls.map ld)) [];simp only[Bu,fnM,Gh,Hs.d];walk_at "eo"
theorem DC(st:Own)(h:Hs)(ok:h.Ok):Bx [(st,.fz h.d)]=some (.fz .non,[.fz h.d]):=by
 have e1:=II .own h ok;simp only[Bx,fnM,Fd];walk_at "eo"
noncomputable def Hs.text(h:Hs):Str:=⟨(h.ls.map (·.1)).toArray⟩
theorem JK:∀(xs:List (Nat×List Int)),Hv (xs.map fun p=>chD p.1)=some (xs.map fun p=>(⟨#[p.1]⟩:Str))
 | []=>rfl
 | x::xs=>by
  have ih:=JK xs;simp only[chD] at ih;simp[Hv,chD,ih]
theorem OT(xs:List (Nat×List Int)):glue (xs.map fun p=>(⟨#[p.1]⟩:Str))=⟨(xs.map (·.1)).toArray⟩:=by
 unfold glue;congr 1;congr 1;induction xs with
 | nil=>rfl
 | cons x xs ih=>simp at ih |-; exact ih
theorem Qq(xs:List (Nat×List Int)):((xs.map fun p=>(⟨#[p.1]⟩:Str)).map (·.length)).sum=xs.length:=by
 induction xs with
 | nil=>rfl
 | cons x xs ih =>
  have:Str.length ⟨#[x.1]⟩=1:=rfl;simp only[List.map_cons,List.sum_cons,ih,this,List.length_cons];lia
theorem GJ(st:Own)(h:Hs)(ok:h.Ok):C9 [(st,.fz h.d)]=some (.fz (.str h.text),[.fz h.d]):=by
 have e5:=at1 (D.int h.n) (.lst (h.ls.map ld)) [];have l2:=ok.l2;have hlim:1000<=LIM:=by decide
 have hc:=GS (it:=Fs (opM ixA (m2L (Ag 0) (Af (.int 1))))) (e:=opM ixA (m2L (Ag 0) (Af (.int 0)))) (Z:=[some (st,.fz h.d)]) (Z1:=[some (st,.fz h.d)]) (ds:=h.ls.map ld) (n:=none) (f:=fun d=>match d with | .tup (x::_)=>x|d=>d)
  (by simp only[Hs.d]; walk_at "eo") (by simp; lia) (fun d hd=>by
   obtain⟨p,hp,rfl⟩:=List.mem_map.mp hd;have e6:=at0 (chD p.1) [.lst (iL p.2)];simp only[ld];refine⟨.val (.fz (chD p.1)),?_,?_⟩<;>clear hd hp e5<;>walk_at "eo")
 have e1:(h.ls.map ld).map (fun d=>match d with | .tup (x::_)=>x|d=>d)=h.ls.map fun p=>chD p.1:=by simp[ld]
 rw[e1] at hc;have e2:=JK h.ls;have e3:=OT h.ls;have e4:(((h.ls.map fun p=>(⟨#[p.1]⟩:Str)).map (·.length)).sum<=16777216)=True:=by rw[Qq]; simp; lia
 have e7:((Str.ofString "").length=0)=True:=by
  have:(Str.ofString "").length=0:=by decide +kernel
  simp[this]
 refine DR (Z:=[some (st,.fz h.d)]) rfl ?_;show DP [some (st,.fz h.d)]=_;unfold DP;refine Hg ?_;simp only[on1,on2,on3,HV,Ig,BF,Ck,fzU,E6,Ft,MP,Af,Option.bind_some,m1L,Aa,Ah,hc,Option.map_some,peeks,peek,Jy,e7,if_true,DX,Cq,e2,e4,e3,Hs.text]
noncomputable def Row(h:Hs)(z:Str):Prop:=z.length<=1000/\∀c∈z.cps.toList,c∈h.ls.map (·.1)
theorem in_text(h:Hs)(c:Nat)(hc:c∈h.ls.map (·.1)):(!(Builtin.Str.occurrences h.text ⟨#[c]⟩ 0 h.text.length 1).isEmpty)=true:=by
 rw[StrLaws.found_one,decide_eq_true_iff];exact hc
theorem Qm(s1 s2:Own)(h:Hs)(ok:h.Ok)(z:Str)(hz:Row h z):DE [(s1,.fz h.d),(s2,.fz (.str z))]=some (.fz (.bl true),[.fz h.d,.fz (.str z)]):=by
 have e1:=DC .own h ok;have e2:=GJ .own h ok;have hlim:1000<=LIM:=by decide
 have e3:(z.length<=LIM)=True:=by have:=hz.1; simp; lia
 have hc:=all_true (it:=Jn (Ag 1)) (e:=opM (inA false) (m2L (Ag 0) (Ag 3))) (Z:=[some (s1,.fz h.d),some (s2,.fz (.str z)),some (.own,.fz (.str h.text))]) (Z1:=[some (s1,.fz h.d),some (s2,.fz (.str z)),some (.own,.fz (.str h.text))]) (ds:=BU z) (n:=none)
  (by walk_at "eo") (by
   have:(BU z).length=z.length:=by simp[BU]; rfl
   rw[this]; have:=hz.1; lia) (fun d hd=>by
   simp only[BU,List.mem_map] at hd;obtain⟨c,hc,rfl⟩:=hd;have e4:=in_text h c (hz.2 c hc);clear e1 e2 e3;walk_at "eo")
 refine DR (Z:=[some (s1,.fz h.d),some (s2,.fz (.str z)),some (.own,.fz (.str h.text))]) rfl ?_;show Cs [some (s1,.fz h.d),some (s2,.fz (.str z)),none]=_;unfold Cs;clear hz;rw[Bf (Z1:=[some (s1,.fz h.d),some (s2,.fz (.str z)),none]) (by clear hc; walk_at "eo"),Bf (Z1:=[some (s1,.fz h.d),some (s2,.fz (.str z)),none]) (by clear hc; walk_at "eo"),Bf (Z1:=[some (s1,.fz h.d),some (s2,.fz (.str z)),some (.own,.fz (.str h.text))]) (by clear hc; walk_at "eo")];exact Hg hc
noncomputable def Hs.hands(h:Hs)(c:Nat):List Int:=((h.ls.find? fun p=>p.1==c).map (·.2)).getD []
noncomputable def hL(xs:List Int):A:=.lst ((iL xs).map A.fz)
noncomputable def Hs.at(h:Hs)(z:Str)(i:Nat):List Int:=h.hands (z.cps.toList.getD i 0)
theorem Row.c{h:Hs}{z:Str}(hz:Row h z){i:Nat}(hi:i<z.cps.toList.length):z.cps.toList.getD i 0∈h.ls.map (·.1):=by
 have:z.cps.toList.getD i 0=z.cps.toList[i]:=by simp[List.getD,List.getElem?_eq_getElem hi]
 rw[this];exact hz.2 _ (List.getElem_mem hi)
noncomputable def Bag(n:Nat)(as:List A):Prop:=∃x y:Int,as=[.fz (.int x),.fz (.int y)]/\0<=y/\y<=n
theorem Bag.mono{n m:Nat}{as:List A}(h:Bag n as)(hm:n<=m):Bag m as:=by
 obtain⟨x,y,e,h1,h2⟩:=h;exact⟨x,y,e,h1,by lia⟩
theorem Wa(st:Own)(x:Int):∃as a1,Bag 1 as/\Dk [(st,.fz (.int x))]=some (.lst as,[a1]):=by
 have p1:decide ((0:Int)<=18/\(18:Int)<=1000000/\Int.natAbs 10<2 ^ 64)=true:=by decide
 have l2:((2:Nat)<=LIM)=True:=by simp[LIM,sizeLine]
 have p2:decide ((0:Int)<2147483647)=true:=by decide
 by_cases h:(10:Int) ^ (18:Int).toNat<=(if x<0 then -x else x)
 .refine⟨_,_,⟨(if x<0 then -x else x),0,rfl,by lia,by lia⟩,DR (Z:=[some (st,.fz (.int x))]) rfl ?_⟩
  show CJ [some (st,.fz (.int x))]=_;unfold CJ;have h':=decide_eq_true h;clear h;walk_at "eo"
 .refine⟨_,_,⟨x % 2147483647,1,rfl,by lia,by lia⟩,DR (Z:=[some (st,.fz (.int x))]) rfl ?_⟩
  show CJ [some (st,.fz (.int x))]=_;unfold CJ;have h':=decide_eq_false h;clear h;walk_at "eo"
theorem BG{n:Nat}{as:List A}(hb:Bag n as)(hn:n<=1000000)(m:Int)(hm:0<m)(hm2:m<1099511627776):∃(d:Int) (as':List A),0<=d/\d<m/\Bag (n+1) as'/\Am [(.lent,.lst as),(.own,.fz (.int m))]=some (.fz (.int d),[.lst as',.fz (.int m)]):=by
 obtain⟨x,y,rfl,h1,h2⟩:=hb;have m1:decide (0<m)=true:=decide_eq_true hm;have m2:decide (0<m/\m<1099511627776)=true:=decide_eq_true ⟨hm,hm2⟩;have i0:ixN 2 0=some 0:=by rfl
 have i1:ixN 2 1=some 1:=by rfl
 by_cases hy:y=0
 .subst hy
  refine⟨x % m,[.fz (.int (x / m)),.fz (.int 0)],Int.emod_nonneg _ (by lia),Int.emod_lt_of_pos _ hm,⟨_,_,rfl,by lia,by lia⟩,DR (Z:=[some (.lent,.lst [.fz (.int (x / m)),.fz (.int 0)]),some (.own,.fz (.int m)),some (.own,.fz (.int (x % m)))]) rfl ?_⟩;show Ce [some (.lent,.lst [.fz (.int x),.fz (.int 0)]),some (.own,.fz (.int m)),none]=_;unfold Ce;have a0:=at0 (D.int x) [D.int 0];have a1:=at1 (D.int x) (D.int 0) [];clear hm hm2 h1 h2 hn;walk_at "eo"
 .let x':=(x*48271+7919*y*y+17) % 2147483647
  have e1:eqD (.int y) (.int 0)=false:=by simp[Gj,Hq,Jw,Ho,Gk,hy]
  have c1:(-(2 ^ 64)<x/\x<2 ^ 64 \/ -(2 ^ 64)<(48271:Int)/\(48271:Int)<2 ^ 64)=True:=by simp
  have c2:(-(2 ^ 64)<(7919:Int)/\(7919:Int)<2 ^ 64 \/ -(2 ^ 64)<y/\y<2 ^ 64)=True:=by simp
  have c3:(-(2 ^ 64)<7919*y/\7919*y<2 ^ 64 \/ -(2 ^ 64)<y/\y<2 ^ 64)=True:=by simp; lia
  have c4:(-(2 ^ 64)<x'/\x'<2 ^ 64 \/ -(2 ^ 64)<(69621:Int)/\(69621:Int)<2 ^ 64)=True:=by simp
  have d1:decide ((0:Int)<2147483647)=true:=by decide
  have d2:decide ((0:Int)<2147483629)=true:=by decide
  have d3:decide ((0:Int)<5/\(5:Int)<1099511627776)=true:=by decide
  have hx:(x*48271+7919*y*y+17) % 2147483647=x':=rfl;refine⟨x'*69621 % 2147483629 / 5 % m,[.fz (.int x'),.fz (.int (y+1))],Int.emod_nonneg _ (by lia),Int.emod_lt_of_pos _ hm,⟨_,_,rfl,by lia,by lia⟩,DR (Z:=[some (.lent,.lst [.fz (.int x'),.fz (.int (y+1))]),some (.own,.fz (.int m)),none]) rfl ?_⟩;show Ce [some (.lent,.lst [.fz (.int x),.fz (.int y)]),some (.own,.fz (.int m)),none]=_;unfold Ce;have a0:=at0 (D.int x) [D.int y];have a1:=at1 (D.int x) (D.int y) [];have a2:=at1 (D.int x') (D.int y) [];have a3:=at0 (D.int x') [D.int (y+1)];rw[Bf (Z1:=[some (.lent,.lst [.fz (.int x),.fz (.int y)]),some (.own,.fz (.int m)),none]) (by
   simp only[Gj,Hq,Jw,Ho,Gk] at e1;clear hm hm2 h1 h2 hn c1 c2 c3 c4 hx hy;walk_at "eo"),Bf (Z1:=[some (.lent,.lst [.fz (.int x'),.fz (.int y)]),some (.own,.fz (.int m)),none]) (by
   clear hm hm2 h1 h2 hn c4 hy e1;walk_at "eo"),Bf (Z1:=[some (.lent,.lst [.fz (.int x'),.fz (.int (y+1))]),some (.own,.fz (.int m)),none]) (by
   clear hm hm2 h1 h2 hn c4 hy e1 c1 c2 c3 hx;walk_at "eo")]
  refine Hg ?_;clear hm hm2 h1 h2 hn hy e1 c1 c2 c3 hx;walk_at "eo"
noncomputable def Hk(b:Int)(i:Nat):Bool:=eqD (.int (Builtin.bitAnd (b / 2 ^ i) 1)) (.int 1)
noncomputable def FF(n:Nat)(b:Int):List Int:=((List.range n).filter (Hk b)).map fun(i:Nat)=>(i:Int)
theorem NI(n:Nat)(b:Int):(FF n b).Pairwise (· < ·):=by
 unfold FF;rw[List.pairwise_map];have:((List.range n).filter (Hk b)).Pairwise (· < ·):=List.Pairwise.filter _ List.pairwise_lt_range;exact this.imp fun h=>by lia
theorem QZ{n:Nat}{b:Int}:∀x∈FF n b,0<=x/\x<n:=by
 intro x hx;simp only[FF,List.mem_map,List.mem_filter,List.mem_range] at hx;obtain⟨i,⟨hi,_⟩,rfl⟩:=hx;lia
theorem KN:∀n∈[2,3,4],∀b∈List.range 16,1<=b->b<2 ^ n->FF n (b:Int)≠[]:=by decide +kernel
theorem Um:∀n∈[2,3,4],∀a∈List.range n,∀b∈List.range n,1<=Builtin.bitOr (1*2 ^ a) (1*2 ^ b)/\Builtin.bitOr (1*2 ^ a) (1*2 ^ b)<2 ^ n:=by decide +kernel
theorem Q0{n:Nat}{b:Int}(hn:n=2\/n=3\/n=4)(h1:1<=b)(h2:b<2 ^ n):FF n b≠[]:=by
 obtain⟨k,rfl⟩:∃k:Nat,b=k:=⟨b.toNat,by lia⟩;have h16:(2:Int) ^ n<=16:=by rcases hn with rfl|rfl|rfl<;>decide
 refine KN n (by rcases hn with rfl|rfl|rfl<;>simp) k (by simp; lia) (by lia) ?_;have:((k:Nat):Int)<((2 ^ n:Nat):Int):=by simpa using h2
 lia
local macro_rules | `(tactic| walk_at "wp1")=>`(tactic| first
 | (with_reducible refine CA ?_)|(with_reducible refine AL ?_)|(with_reducible refine Ej ?_)|(with_reducible refine El ?_)|(with_reducible refine DZ ?_)|(with_reducible refine En ?_)|(with_reducible refine FN ?_)|(with_reducible refine Dg ?_)|(with_reducible refine Ep ?_)|(with_reducible refine Eo ?_)|(with_reducible refine Em ?_)|(with_reducible refine C8 ?_)|(with_reducible refine Ci ?_)
 | (with_reducible refine FG ?_)|(with_reducible refine C7 ?_)|(with_reducible refine Cg ?_)|(with_reducible refine Ec ?_)|(with_reducible refine DQ ?_)|(with_reducible refine FH ?_)|(with_reducible refine Ee ?_)|(with_reducible refine Eb ?_)|(with_reducible refine Ed ?_)|(with_reducible refine Ef ?_)
 | (with_reducible refine IY ?_)|(with_reducible refine HP ?_)|(with_reducible refine Cn ?_)|(with_reducible refine DK ?_)
 | (with_reducible refine Et ?_)|(with_reducible refine Es ?_)|(with_reducible refine Er ?_)|(with_reducible refine FO ?_)|(with_reducible refine D0 ?_)
 | (with_reducible refine Cc ?_)|(with_reducible refine Dd ?_)|(with_reducible refine Eh ?_)|(with_reducible refine Df ?_)
 | ((with_reducible apply FI); · rfl)
 | ((with_reducible refine Exists.intro _ (And.intro (BP ?_) ?_)); · rfl)
 | ((with_reducible apply ex1); · rfl)|((with_reducible apply ex2); · rfl)|((with_reducible apply ex3); · rfl)|((with_reducible apply ex0); · rfl)|((with_reducible refine And.intro ?_ ?_); · rfl)|((with_reducible refine D4 ?_ ?_); · rfl)|((with_reducible refine DV ?_ ?_); · rfl))
local macro_rules | `(tactic| walk_at "wp")=>`(tactic| repeat walk_at "wp1")
theorem Ou(Z:Ro)(ds:List D):share Z (.val (.lst (ds.map A.fz)))=some (.lst ds,Z):=by
 simp[share,er,HF]
theorem QU:∀k∈List.range 26,atI (Str.ofString "abcdefghijklmnopqrstuvwxyz").cps.toList (k:Int)=some (97+k):=by decide +kernel
theorem QY(n:Nat)(b:Int):(EJ 0 n).filterMap (fun d=>match d with | .int i=>if Hk b i.toNat then some (.int i) else none|_=>none)=iL (FF n b):=by
 have eu:EJ 0 n=(List.range n).map fun(j:Nat)=>D.int (j:Int):=by
  unfold EJ;exact List.map_congr_left fun j _=>by simp
 rw[eu,List.filterMap_map,iL,FF,List.map_map,<- List.filterMap_eq_map,<- List.filterMap_eq_filter,List.filterMap_filterMap];refine congrArg (fun g=>List.filterMap g _) (funext fun j=>?_);show(if Hk b (Int.toNat (j:Int))=true then some (D.int (j:Int)) else none)=(Option.guard (Hk b) j).bind _;rw[Int.toNat_natCast];unfold Option.guard;by_cases hp:Hk b j=true
 .rw[if_pos hp,if_pos hp]; rfl
 .rw[if_neg hp,if_neg hp]; rfl
structure HI (n:Int) (M j:Nat) (ls:List (Nat×List Int)) (a:Int):Prop where
 len:ls.length=j
 a0:0<=a
 a1:a<=26-M+j
 ch:∀p∈ls,97<=p.1/\(p.1:Int)<97+a
 ri:(ls.map (·.1)).Pairwise (· < ·)
 hs:∀p∈ls,p.2≠[]/\p.2.Pairwise (· < ·)/\∀x∈p.2,0<=x/\x<n
theorem HI.step{n:Int}{M j:Nat}{ls:List (Nat×List Int)}{a d:Int}{hl:List Int}(h:HI n M j ls a)(d0:0<=d)(d1:d<27-M+(0+(j:Int))-a)(hl0:hl≠[])(hl1:hl.Pairwise (· < ·))(hl2:∀x∈hl,0<=x/\x<n):HI n M (j+1) (ls++[(97+(a+d).toNat,hl)]) (a+d+1):=by
 have a0:=h.a0;refine⟨by simp[h.len],by lia,by lia,?_,?_,?_⟩
 .intro p hp
  rcases List.mem_append.mp hp with hp|hp
  .have:=h.ch p hp; lia
  .simp only[List.mem_singleton] at hp; subst hp; simp only; lia
 .rw[List.map_append,List.pairwise_append]
  refine⟨h.ri,by simp,?_⟩;intro x hx y hy;obtain⟨p,hp,rfl⟩:=List.mem_map.mp hx;simp only[List.map_cons,List.map_nil,List.mem_singleton] at hy;subst hy;have:=(h.ch p hp).2;lia
 .intro p hp
  rcases List.mem_append.mp hp with hp|hp
  .exact h.hs p hp
  .simp only[List.mem_singleton] at hp; subst hp; exact⟨hl0,hl1,hl2⟩
noncomputable abbrev oF(d:D):Slot:=some (.own,.fz d)
noncomputable abbrev eK(as:List A)(n M S:Int)(ls:List (Nat×List Int))(a:Int)(x6 x7:Slot):Ro:=[some (.lent,.lst as),oF (.int n),oF (.int M),oF (.int S),some (.own,.lst ((ls.map ld).map A.fz)),oF (.int a),x6,x7]
theorem H0{R:List A->Option A}(sr:∀b j:Int,0<=j->R [.fz (.int b),.fz (.int j)]=some (.fz (.int (b / 2 ^ j.toNat)))){n M S a c1 b:Int}{Mn j N':Nat}{as':List A}{ls:List (Nat×List Int)}(hn:n=2\/n=3\/n=4)(hi:HI n Mn j ls a)(hcx:atI (Str.ofString "abcdefghijklmnopqrstuvwxyz").cps.toList (a+c1)=some (97+(a+c1).toNat))(d0:0<=c1)(d1:c1<27-Mn+(0+(j:Int))-a)(hj:j<=100)(hb:Bag N' as')(b1:1<=b)(b2:b<2 ^ n.toNat){T:Fl->Prop}(hT:∀Z,(∃as' ls' a' x6 x7,Fr x6/\Fr x7/\Bag N' as'/\HI n Mn (j+1) ls' a'/\Z=eK as' n M S ls' a' x6 x7)->T (.next Z)):
  SV (IX 4 (An (Aa (Ab (opM ixA (m2L (Af (.str (Str.ofString "abcdefghijklmnopqrstuvwxyz"))) (Ag 5)))) (Aa (Ab (BL (Cj (Ag 1)) 0 (AX (opM eqA (m2L (opM KL (m2L (opM R (m2L (Ag 8) (Ag 0))) (Af (.int 1)))) (Af (.int 1))))) (Ag 0))) Ah)))) (eK as' n M S ls (a+c1) (oF (.int (0+(j:Int)))) (oF (.int b))) (nxt (fun Z1=>SV (AF 5 (opM A3 (m2L (Ag 5) (Af (.int 1))))) Z1 T) T):=by
 have hL:1000<=LIM:=by decide
 have hlen:=hi.len;have hbits:=Q0 (n:=n.toNat) (b:=b) (by lia) b1 b2;refine Qr ⟨_,rfl⟩ ?_;walk_at "wp";refine⟨_,ixS hcx,?_⟩;walk_at "wp";refine J4 (fun d=>match d with | .int i=>if Hk b i.toNat then some (.int i) else none|_=>none) (iL (FF n.toNat b)) (G5 ?_);walk_at "wp";refine⟨⟨by lia,by lia⟩,by rw[Ge]; lia,QY _ _,fun d hd=>?_,?_⟩
 .obtain⟨i,hi⟩:=List.mem_iff_getElem?.mp hd
  obtain⟨rfl,hi⟩:=IU hi;refine⟨[.int (0+(i:Int))],rfl,?_⟩;walk_at "wp";refine⟨_,sr _ _ (by lia),?_⟩;walk_at "wp";refine O3 (fun e=>?_) fun e=>?_
  .walk_at "wp"
   exact if_pos e
  .exact if_neg (by rw[show Hk b (0+(i:Int)).toNat=false from e]; decide)
 walk_at "wp";refine⟨_,_,Ou _ _,?_⟩;walk_at "wp";refine⟨?_,AL ?_⟩
 .rw[List.length_map,List.length_map]; lia
 walk_at "wp";refine hT _ ⟨as',ls++[(97+(a+c1).toNat,FF n.toNat b)],a+c1+1,oF (.int (0+(j:Int))),oF (.int b),rfl,rfl,hb,hi.step d0 d1 hbits (NI _ _) (fun x hx=>by have:=QZ x hx; lia),?_⟩;unfold eK;rw[List.map_append,List.map_append];rfl
theorem R5{N:Nat}{as:List A}(hb:Bag N as)(hN:N<=1000):∃h:Hs,∃as',h.Ok/\Bag (N+30) as'/\BN [(.lent,.lst as)]=some (.fz h.d,[.lst as']):=by
 suffices hh:FV BN [(.lent,.lst as)] fun a os=>∃h:Hs,∃as',h.Ok/\Bag (N+30) as'/\a=.fz h.d/\os=[.lst as'] by
  obtain⟨a,os,e,h,as',h1,h2,rfl,rfl⟩:=hh;exact⟨h,as',h1,h2,e⟩
 have hL:1000<=LIM:=by decide
 obtain⟨d1,as1,g1,g2,b1,t1⟩:=BG hb (by lia) 3 (by lia) (by lia);obtain⟨d2,as2,g3,g4,b2,t2⟩:=BG b1 (by lia) 6 (by lia) (by lia);obtain⟨d3,as3,g5,g6,b3,t3⟩:=BG b2 (by lia) 2 (by lia) (by lia);have hn:2+d1=2\/2+d1=3\/2+d1=4:=by lia
 refine Dv rfl rfl ?_;show SV DO [some (.lent,.lst as),none,none,none,none,none,none,none] _;unfold DO;generalize hS:Kt=S;have sl:∀j:Int,0<=j->j<=4->S [.fz (.int 1),.fz (.int j)]=some (.fz (.int (1*2 ^ j.toNat))):=fun j j0 j1=>hS ▸ UW (by simp; lia);clear hS;generalize hR:MO=R;have sr:∀b j:Int,0<=j->R [.fz (.int b),.fz (.int j)]=some (.fz (.int (b / 2 ^ j.toNat))):=fun b j j0=>hR ▸ UX (decide_eq_true j0);clear hR;walk_at "wp";refine Bi t1 ?_;walk_at "wp";refine Bi t2 ?_;walk_at "wp";refine Bi t3 ?_;clear t1 t2 t3;walk_at "wp";show SV _ (eK as3 (2+d1) (1+d2) d3 [] 0 none none) _;refine Hi (G5 ?_);walk_at "wp";refine⟨⟨by lia,by lia⟩,fun j Z=>∃as' ls' a' x6 x7,Fr x6/\Fr x7/\Bag (N+3+4*j) as'/\HI (2+d1) (1+d2).toNat j ls' a'/\Z=eK as' (2+d1) (1+d2) d3 ls' a' x6 x7,⟨as3,[],0,none,none,rfl,rfl,b3,⟨rfl,by lia,by lia,by simp,by simp,by simp⟩,rfl⟩,fun j d Z hd hI=>?_,fun Z hI=>?_⟩
 .obtain⟨as,ls,a,x6,x7,h6,h7,hb,hi,rfl⟩:=hI
  obtain⟨rfl,hj⟩:=IU hd;have a0:=hi.a0;have a1:=hi.a1;have hlen:=hi.len;have hp:(1:Int)*2 ^ (2+d1).toNat-1<=15/\0<(1:Int)*2 ^ (2+d1).toNat-1:=by rcases hn with e|e|e<;>rw[e]<;>decide
  obtain⟨c1,bs1,k1,k2,q1,u1⟩:=BG hb (by lia) (27-(1+d2)+(0+(j:Int))-a) (by lia) (by lia);obtain⟨c2,bs2,k3,k4,q2,u2⟩:=BG q1 (by lia) ((1:Int)*2 ^ (2+d1).toNat-1) (by lia) (by lia);obtain⟨c3,bs3,k5,k6,q3,u3⟩:=BG q2 (by lia) (2+d1) (by lia) (by lia);obtain⟨c4,bs4,k7,k8,q4,u4⟩:=BG q3 (by lia) (2+d1) (by lia) (by lia);have ho:=Um (2+d1).toNat (by rcases hn with e|e|e<;>rw[e]<;>simp) c3.toNat (by simp; lia) c4.toNat (by simp; lia);have hcx:atI (Str.ofString "abcdefghijklmnopqrstuvwxyz").cps.toList (a+c1)=some (97+(a+c1).toNat):=by
   have ha:=QU (a+c1).toNat (by simp; lia)
   rwa [show(((a+c1).toNat:Nat):Int)=a+c1 by lia] at ha
  clear hd;refine⟨_,GQ h6,?_⟩;show SV _ (eK as (2+d1) (1+d2) d3 ls a (oF (.int (0+(j:Int)))) x7) _;walk_at "wp";refine Bi u1 ?_;walk_at "wp";refine⟨_,sl _ (by lia) (by lia),?_⟩;walk_at "wp";refine Bi u2 ?_;walk_at "wp";refine⟨h7,AL ?_⟩;show SV _ (eK bs2 (2+d1) (1+d2) d3 ls (a+c1) (oF (.int (0+(j:Int)))) (oF (.int (1+c2)))) _;walk_at "wp";refine O3 (fun e=>?_) fun e=>?_
  .walk_at "wp"
   refine Bi u3 ?_;walk_at "wp";refine⟨_,sl _ (by lia) (by lia),?_⟩;walk_at "wp";refine Bi u4 ?_;walk_at "wp";refine⟨_,sl _ (by lia) (by lia),?_⟩;walk_at "wp";exact H0 (N':=N+3+4*(j+1)) sr hn hi hcx k1 (by lia) (by lia) (q4.mono (by lia)) ho.1 ho.2 fun _ h=>h
  .walk_at "wp"
   exact H0 (N':=N+3+4*(j+1)) sr hn hi hcx k1 (by lia) (by lia) (q2.mono (by lia)) (by lia) (Int.lt_of_lt_of_le (Int.add_lt_add_left k4 1) (by rw[Int.one_mul]; lia)) fun _ h=>h
 obtain⟨as',ls',a',x6,x7,h6,h7,hb',hi,rfl⟩:=hI;have hln:(EJ 0 (1+d2).toNat).length=(1+d2).toNat:=Ge ..;rw[hln] at hb' hi;have ha1:=hi.a1;have hlen:=hi.len;walk_at "wp";refine⟨_,_,Ov rfl,?_⟩;walk_at "wp";exact⟨⟨2+d1,ls'⟩,as',⟨by simp only; lia,by simp only; lia,by simp only; lia,by simp only; lia,fun p hp=>by have:=hi.ch p hp; lia,hi.ri,hi.hs⟩,hb'.mono (by lia),rfl,rfl⟩
local macro_rules | `(tactic| walk_at "wp1")=>`(tactic| first
 | (with_reducible refine CA ?_)|(with_reducible refine AL ?_)|(with_reducible refine Ej ?_)|(with_reducible refine El ?_)|(with_reducible refine DZ ?_)|(with_reducible refine En ?_)|(with_reducible refine FN ?_)|(with_reducible refine Dg ?_)|(with_reducible refine Ep ?_)|(with_reducible refine Eo ?_)|(with_reducible refine Em ?_)|(with_reducible refine C8 ?_)|(with_reducible refine Ci ?_)
 | (with_reducible refine FG ?_)|(with_reducible refine C7 ?_)|(with_reducible refine Cg ?_)|(with_reducible refine Ec ?_)|(with_reducible refine DQ ?_)|(with_reducible refine FH ?_)|(with_reducible refine Ee ?_)|(with_reducible refine Eb ?_)|(with_reducible refine Ed ?_)|(with_reducible refine Ef ?_)
 | (with_reducible refine IY ?_)|(with_reducible refine HP ?_)|(with_reducible refine Cn ?_)|(with_reducible refine DK ?_)
 | (with_reducible refine Et ?_)|(with_reducible refine Es ?_)|(with_reducible refine Er ?_)|(with_reducible refine FO ?_)|(with_reducible refine D0 ?_)
 | (with_reducible refine Cc ?_)|(with_reducible refine Dd ?_)|(with_reducible refine Eh ?_)|(with_reducible refine Df ?_)
 | ((with_reducible apply FI); · rfl)
 | ((with_reducible refine Exists.intro _ (And.intro (BP ?_) ?_)); · rfl)
 | ((with_reducible apply ex1); · rfl)|((with_reducible apply ex2); · rfl)|((with_reducible apply ex3); · rfl)|((with_reducible apply ex0); · rfl)|((with_reducible refine And.intro ?_ ?_); · rfl)|((with_reducible refine D4 ?_ ?_); · rfl)|((with_reducible refine DV ?_ ?_); · rfl))
local macro_rules | `(tactic| walk_at "wp")=>`(tactic| repeat walk_at "wp1")
theorem KA{n j:Nat}{d:D}(h:(EJ 0 n)[j]? = some d):d=.int j/\j<n:=by
 obtain⟨h1,h2⟩:=IU h;rw[Int.zero_add] at h1;exact⟨h1,h2⟩
theorem nil_of(Z:Ro):Ah Z=some ([],Z):=rfl
theorem UT(ns:List Int)(k:Nat):∃c a2,CL [(.ro,.scr ns),(.own,.fz (.int k))]=some (.fz (.int c),[.scr ns,a2]):=by
 by_cases h:k<ns.length
 .obtain⟨c,e2⟩:∃c,atI (ns.map D.int) (k:Int)=some (.int c):=⟨ns[k],by
   have e2:=Cm (xs:=ns.map D.int) (i:=(k:Int)) (k:=k) rfl (by simpa using h);simpa using e2⟩
  refine⟨c,_,DR (Z:=[some (.ro,.scr ns),some (.own,.fz (.int k))]) rfl ?_⟩;show Cd [some (.ro,.scr ns),some (.own,.fz (.int k))]=_;unfold Cd;have e1:decide ((k:Int)<(ns.length:Int))=true:=by simpa using h
  clear h;walk_at "eo"
 .refine⟨0,_,DR (Z:=[some (.ro,.scr ns),some (.own,.fz (.int k))]) rfl ?_⟩
  show Cd [some (.ro,.scr ns),some (.own,.fz (.int k))]=_;unfold Cd;have e1:decide ((k:Int)<(ns.length:Int))=false:=by simpa using h
  clear h;walk_at "eo"
noncomputable def tx(cs:List Nat):Str:=⟨cs.toArray⟩
local macro_rules | `(tactic| walk_at "wp1")=>`(tactic| first
 | (with_reducible refine CA ?_)|(with_reducible refine AL ?_)|(with_reducible refine Ej ?_)|(with_reducible refine El ?_)|(with_reducible refine DZ ?_)|(with_reducible refine En ?_)|(with_reducible refine FN ?_)|(with_reducible refine Dg ?_)|(with_reducible refine Ep ?_)|(with_reducible refine Eo ?_)|(with_reducible refine Em ?_)|(with_reducible refine C8 ?_)|(with_reducible refine Ci ?_)
 | (with_reducible refine FG ?_)|(with_reducible refine C7 ?_)|(with_reducible refine Cg ?_)|(with_reducible refine Ec ?_)|(with_reducible refine DQ ?_)|(with_reducible refine FH ?_)|(with_reducible refine Ee ?_)|(with_reducible refine Eb ?_)|(with_reducible refine Ed ?_)|(with_reducible refine Ef ?_)
 | (with_reducible refine IY ?_)|(with_reducible refine HP ?_)|(with_reducible refine Cn ?_)|(with_reducible refine DK ?_)
 | (with_reducible refine Et ?_)|(with_reducible refine Es ?_)|(with_reducible refine Er ?_)|(with_reducible refine FO ?_)|(with_reducible refine D0 ?_)
 | (with_reducible refine Cc ?_)|(with_reducible refine Dd ?_)|(with_reducible refine Eh ?_)|(with_reducible refine Df ?_)
 | ((with_reducible apply FI); · rfl)
 | ((with_reducible refine Exists.intro _ (And.intro (BP ?_) ?_)); · rfl)
 | ((with_reducible apply ex1); · rfl)|((with_reducible apply ex2); · rfl)|((with_reducible apply ex3); · rfl)|((with_reducible apply ex0); · rfl)|((with_reducible refine And.intro ?_ ?_); · rfl)|((with_reducible refine D4 ?_ ?_); · rfl)|((with_reducible refine DV ?_ ?_); · rfl))
local macro_rules | `(tactic| walk_at "wp")=>`(tactic| repeat walk_at "wp1")
theorem cons_of{m:ME}{ms:MA}{Z Z1 Z2:Ro}{r:R}{rs:List R}(h1:m Z=some (r,Z1))(h2:ms Z1=some (rs,Z2)):Aa m ms Z=some (r::rs,Z2):=by simp[Aa,h1,h2]
theorem PU{m:ME}{Z Z1 Z2:Ro}{r:R}{d:D}(h1:m Z=some (r,Z1))(h2:share Z1 r=some (d,Z2)):Ab m Z=some (.val (.fz d),Z2):=by simp[Ab,h1,h2]
theorem VU{a b:MT}{Z Z1 Z2:Ro}(h1:a Z=some (false,Z1))(h2:b Z1=some (false,Z2)):orT a b Z=some (false,Z2):=by simp[orT,h1,h2]
theorem Ei{ms:MA}{Z Z1:Ro}{rs:List R}{as:List A}(h1:ms Z=some (rs,Z1))(h2:vals rs=some as)(h3:decide (as.length<=LIM)=true):lstM ms Z=some (.val (.lst as),Z1):=by
 simp only[lstM,h1,h2,Option.bind_some,if_pos (of_decide_eq_true h3)]
theorem JO{xs ys:List D}(h:decide (xs.length+ys.length<=LIM)=true):A3 [.lst (xs.map A.fz),.lst (ys.map A.fz)]=some (.lst ((xs++ys).map A.fz)):=by
 have h:=of_decide_eq_true h;simp only[A3,on2,BF,E6,Ck,Ft,fzU,DX,Cq,Option.bind_none,Option.none_or,Option.bind_some,if_pos h]
theorem Str.list_len(z:Str):z.cps.toList.length=z.length:=by simp; rfl
theorem app_list(z:Str)(c:Nat):(z++(⟨#[c]⟩:Str)).cps.toList=z.cps.toList++[c]:=by
 show(z.cps ++ #[c]).toList=_;simp
theorem QV(z:Str)(c:Nat):(z++(⟨#[c]⟩:Str)).length=z.length+1:=by
 show(z.cps ++ #[c]).size=z.cps.size+1;simp
theorem len_one(c:Nat):Str.length ⟨#[c]⟩=1:=rfl
noncomputable abbrev sL(l:List D):Slot:=some (.own,.lst (l.map A.fz))
noncomputable abbrev eW(a:Addr)(o:Obj)(x y z:Slot):Ro:=[some (.lent,.opq a o),x,y,z]
noncomputable abbrev v10:List D:=[.str (Str.ofString "NoHouse"),.str (Str.ofString "NoRow"),.str (Str.ofString "NoMachine"),.str (Str.ofString "NoRoom"),.str (Str.ofString "NoHand"),.str (Str.ofString "Unlike"),.str (Str.ofString "NoPast"),.str (Str.ofString "TooMany"),.str (Str.ofString "Torn"),.str (Str.ofString "NoTable")]
noncomputable abbrev v15:List D:=[.str (Str.ofString "NoHouse"),.str (Str.ofString "NoRow"),.str (Str.ofString "NoMachine"),.str (Str.ofString "NoRoom"),.str (Str.ofString "NoHand"),.str (Str.ofString "Unlike"),.str (Str.ofString "NoPast"),.str (Str.ofString "TooMany"),.str (Str.ofString "Torn"),.str (Str.ofString "NoTable"),.str (Str.ofString "NoSet"),.str (Str.ofString "Falls"),.str (Str.ofString "Whole"),.str (Str.ofString "NoText"),.str (Str.ofString "NoWord")]
noncomputable abbrev q0(j:Nat):List D:=[.bl (0==j),.bl (1==j),.bl (2==j),.bl (3==j)]
noncomputable abbrev p1(j:Nat):List D:=[.bl (4==j),.bl (5==j),.bl (6==j),.bl (7==j)]
noncomputable abbrev q1(j:Nat):List D:=q0 j++p1 j
noncomputable abbrev p2(j:Nat):List D:=[.bl (8==j),.bl (9==j),.bl (10==j),.bl (11==j)]
noncomputable abbrev q2(j:Nat):List D:=q1 j++p2 j
noncomputable abbrev p3(j:Nat):List D:=[.bl (12==j),.bl (13==j),.bl (14==j)]
noncomputable abbrev q3(j:Nat):List D:=q2 j++p3 j
theorem Tn{C:Addr}{b:Bool}{a:Addr}{o:Obj}(h:o.cls=.ref C):Bb C b [.opq a o]=some (.fz (.bl b)):=by
 have e:(o.cls==.ref C)=true:=by rw[h]; exact beq_self_eq_true _
 simp only[Bb,on1,Tj,e,if_true]
theorem Qo{C a:Addr}{o:Obj}{j:Nat}{wd:Str}(h:o.cls=.ref C)(h6:AF 3 (BL (Cj (Af (.int 15))) 0 (AX (opM ixA (m2L (Ag 2) (Ag 0)))) (opM ixA (m2L (Ag 3) (Ag 0)))) (eW a o (sL (q3 j)) (sL v15) none)=some (.next (eW a o (sL (q3 j)) (sL v15) (sL [.str wd])))):Dc C j [(.lent,.opq a o)]=some (.fz (.str wd),[.opq a o]):=by
 have ix:∀(b:Bool) (x y z:Slot),opM (Bb C b) (m1L (Ag 0)) (eW a o x y z)=some (.val (.fz (.bl b)),eW a o x y z):=fun b x y z=>Nj rfl rfl (Tn h);have ip:∀(b:Bool) (x y z:Slot),Ab (opM (Bb C b) (m1L (Ag 0))) (eW a o x y z)=some (.val (.fz (.bl b)),eW a o x y z):=fun b x y z=>PU (ix b x y z) rfl;have st0:AF 1 (lstM (Aa (Ab (opM (Bb C (0==j)) (m1L (Ag 0)))) (Aa (Ab (opM (Bb C (1==j)) (m1L (Ag 0)))) (Aa (Ab (opM (Bb C (2==j)) (m1L (Ag 0)))) (Aa (Ab (opM (Bb C (3==j)) (m1L (Ag 0)))) Ah))))) (eW a o none none none)=some (.next (eW a o (sL (q0 j)) none none)):=JU (Ei (cons_of (ip _ _ _ _) (cons_of (ip _ _ _ _) (cons_of (ip _ _ _ _) (cons_of (ip _ _ _ _) (nil_of _))))) rfl rfl) rfl;have l1:(lstM (Aa (Ab (opM (Bb C (4==j)) (m1L (Ag 0)))) (Aa (Ab (opM (Bb C (5==j)) (m1L (Ag 0)))) (Aa (Ab (opM (Bb C (6==j)) (m1L (Ag 0)))) (Aa (Ab (opM (Bb C (7==j)) (m1L (Ag 0)))) Ah))))) (eW a o (sL (q0 j)) none none)=some (.val (.lst ((p1 j).map A.fz)),(eW a o (sL (q0 j)) none none)):=(Ei (cons_of (ip _ _ _ _) (cons_of (ip _ _ _ _) (cons_of (ip _ _ _ _) (cons_of (ip _ _ _ _) (nil_of _))))) rfl rfl);have st1:AF 1 (opM A3 (m2L (Ag 1) (lstM (Aa (Ab (opM (Bb C (4==j)) (m1L (Ag 0)))) (Aa (Ab (opM (Bb C (5==j)) (m1L (Ag 0)))) (Aa (Ab (opM (Bb C (6==j)) (m1L (Ag 0)))) (Aa (Ab (opM (Bb C (7==j)) (m1L (Ag 0)))) Ah))))))) (eW a o (sL (q0 j)) none none)=some (.next (eW a o (sL (q1 j)) none none)):=JU (Nj (Pq (r1:=.ref 1) rfl l1) rfl (JO (xs:=q0 j) (ys:=p1 j) rfl)) rfl;have l2:(lstM (Aa (Ab (opM (Bb C (8==j)) (m1L (Ag 0)))) (Aa (Ab (opM (Bb C (9==j)) (m1L (Ag 0)))) (Aa (Ab (opM (Bb C (10==j)) (m1L (Ag 0)))) (Aa (Ab (opM (Bb C (11==j)) (m1L (Ag 0)))) Ah))))) (eW a o (sL (q1 j)) none none)=some (.val (.lst ((p2 j).map A.fz)),(eW a o (sL (q1 j)) none none)):=(Ei (cons_of (ip _ _ _ _) (cons_of (ip _ _ _ _) (cons_of (ip _ _ _ _) (cons_of (ip _ _ _ _) (nil_of _))))) rfl rfl)
 have st2:AF 1 (opM A3 (m2L (Ag 1) (lstM (Aa (Ab (opM (Bb C (8==j)) (m1L (Ag 0)))) (Aa (Ab (opM (Bb C (9==j)) (m1L (Ag 0)))) (Aa (Ab (opM (Bb C (10==j)) (m1L (Ag 0)))) (Aa (Ab (opM (Bb C (11==j)) (m1L (Ag 0)))) Ah))))))) (eW a o (sL (q1 j)) none none)=some (.next (eW a o (sL (q2 j)) none none)):=JU (Nj (Pq (r1:=.ref 1) rfl l2) rfl (JO (xs:=q1 j) (ys:=p2 j) rfl)) rfl;have l3:(lstM (Aa (Ab (opM (Bb C (12==j)) (m1L (Ag 0)))) (Aa (Ab (opM (Bb C (13==j)) (m1L (Ag 0)))) (Aa (Ab (opM (Bb C (14==j)) (m1L (Ag 0)))) Ah)))) (eW a o (sL (q2 j)) none none)=some (.val (.lst ((p3 j).map A.fz)),(eW a o (sL (q2 j)) none none)):=(Ei (cons_of (ip _ _ _ _) (cons_of (ip _ _ _ _) (cons_of (ip _ _ _ _) (nil_of _)))) rfl rfl);have st3:AF 1 (opM A3 (m2L (Ag 1) (lstM (Aa (Ab (opM (Bb C (12==j)) (m1L (Ag 0)))) (Aa (Ab (opM (Bb C (13==j)) (m1L (Ag 0)))) (Aa (Ab (opM (Bb C (14==j)) (m1L (Ag 0)))) Ah)))))) (eW a o (sL (q2 j)) none none)=some (.next (eW a o (sL (q3 j)) none none)):=JU (Nj (Pq (r1:=.ref 1) rfl l3) rfl (JO (xs:=q2 j) (ys:=p3 j) rfl)) rfl;have st4:AF 2 (lstM (Aa (Ab (Af (.str (Str.ofString "NoHouse")))) (Aa (Ab (Af (.str (Str.ofString "NoRow")))) (Aa (Ab (Af (.str (Str.ofString "NoMachine")))) (Aa (Ab (Af (.str (Str.ofString "NoRoom")))) (Aa (Ab (Af (.str (Str.ofString "NoHand")))) (Aa (Ab (Af (.str (Str.ofString "Unlike")))) (Aa (Ab (Af (.str (Str.ofString "NoPast")))) (Aa (Ab (Af (.str (Str.ofString "TooMany")))) (Aa (Ab (Af (.str (Str.ofString "Torn")))) (Aa (Ab (Af (.str (Str.ofString "NoTable")))) Ah))))))))))) (eW a o (sL (q3 j)) none none)=some (.next (eW a o (sL (q3 j)) (sL v10) none)):=rfl
 have st5:AF 2 (opM A3 (m2L (Ag 2) (lstM (Aa (Ab (Af (.str (Str.ofString "NoSet")))) (Aa (Ab (Af (.str (Str.ofString "Falls")))) (Aa (Ab (Af (.str (Str.ofString "Whole")))) (Aa (Ab (Af (.str (Str.ofString "NoText")))) (Aa (Ab (Af (.str (Str.ofString "NoWord")))) Ah)))))))) (eW a o (sL (q3 j)) (sL v10) none)=some (.next (eW a o (sL (q3 j)) (sL v15) none)):=rfl;have c2:(orT (AX (opM neA (m2L (opM BZ (Aa (Ag 3) Ah)) (Af (.int 1))))) (C5 (AX (opM (Bb C true) (m1L (Ag 0)))))) (eW a o (sL (q3 j)) (sL v15) (sL [.str wd]))=some (false,(eW a o (sL (q3 j)) (sL v15) (sL [.str wd]))):=VU rfl (not_of (QD (ix true _ _ _)));refine DR (Z:=(eW a o (sL (q3 j)) (sL v15) (sL [.str wd]))) rfl ?_;show HU C j (eW a o none none none)=_;unfold HU;exact(Bf st0).trans ((Bf st1).trans ((Bf st2).trans ((Bf st3).trans ((Bf st4).trans ((Bf st5).trans ((Bf h6).trans ((Bf ((VI c2).trans rfl)).trans (Hg rfl))))))))
theorem FL{C a:Addr}{o:Obj}(h:o.cls=.ref C):Dc C 0 [(.lent,.opq a o)]=some (.fz (.str "NoHouse"),[.opq a o]):=Qo h rfl
theorem Hu{C a:Addr}{o:Obj}(h:o.cls=.ref C):Dc C 10 [(.lent,.opq a o)]=some (.fz (.str "NoSet"),[.opq a o]):=Qo h rfl
noncomputable def NG:List Nat:=(List.range 26).map (97 + ·)
noncomputable def Hs.lets(h:Hs):List Nat:=h.ls.map (·.1)
noncomputable def Hs.oths(h:Hs):List Nat:=NG.filter fun c=>!decide (c∈h.ls.map (·.1))
theorem pig:∀(n:Nat) (l:List Nat),l.length<n->∃c,c<n/\(97+c)∉l
 | 0,l,h=>by simp at h
 | n+1,l,h=>by
  by_cases hn:97+n∈l
  .obtain⟨c,h1,h2⟩:=pig n (l.erase (97+n)) (by rw[List.length_erase_of_mem hn]; have:=List.length_pos_of_mem hn; lia)
   exact⟨c,by lia,fun z=>h2 ((List.mem_erase_of_ne (by lia)).mpr z)⟩
  .exact⟨n,by lia,hn⟩
theorem RD{h:Hs}(ok:h.Ok):0<h.oths.length:=by
 obtain⟨c,h1,h2⟩:=pig 7 h.lets (by have:=ok.l2; simp[Hs.lets]; lia);refine List.length_pos_of_mem (a:=97+c) (List.mem_filter.mpr ⟨List.mem_map.mpr ⟨c,by simp; lia,rfl⟩,?_⟩);simpa[Hs.lets] using h2
theorem RE{h:Hs}{c:Nat}(hc:c∈h.oths):c∉h.ls.map (·.1):=by
 have:=(List.mem_filter.mp hc).2;simpa using this
theorem PH(h:Hs):h.oths.length<=26:=Nat.le_trans (List.length_filter_le _ _) (by simp[NG])
theorem LM:BU (Str.ofString "abcdefghijklmnopqrstuvwxyz")=NG.map chD:=by
 have e:(Str.ofString "abcdefghijklmnopqrstuvwxyz").cps.toList=NG:=by decide +kernel
 simp only[BU,e];rfl
theorem OF{α:Type}{xs:List α}{x:α}(h:xs.getLast? = some x):atI xs (-1)=some x:=by
 have hl:0<xs.length:=by
  cases xs with
  | nil=>simp at h
  | cons _ _=>simp
 have e:ixN xs.length (-1)=some (xs.length-1):=by
  unfold ixN;rw[if_neg (by decide)];have : -(xs.length:Int) <= -1:=by lia
  simp[this];lia
 rw[atI,e,Option.bind_some,<- List.getLast?_eq_getElem?];exact h
theorem Ex(x y:Str):(x++y).cps.toList=x.cps.toList++y.cps.toList:=by
 show(x.cps++y.cps).toList=_;simp
local macro_rules | `(tactic| walk_at "wp1")=>`(tactic| first
 | (with_reducible refine CA ?_)|(with_reducible refine AL ?_)|(with_reducible refine Ej ?_)|(with_reducible refine El ?_)|(with_reducible refine DZ ?_)|(with_reducible refine En ?_)|(with_reducible refine FN ?_)|(with_reducible refine Dg ?_)|(with_reducible refine Ep ?_)|(with_reducible refine Eo ?_)|(with_reducible refine Em ?_)|(with_reducible refine C8 ?_)|(with_reducible refine Ci ?_)
 | (with_reducible refine FG ?_)|(with_reducible refine C7 ?_)|(with_reducible refine Cg ?_)|(with_reducible refine Ec ?_)|(with_reducible refine DQ ?_)|(with_reducible refine FH ?_)|(with_reducible refine Ee ?_)|(with_reducible refine Eb ?_)|(with_reducible refine Ed ?_)|(with_reducible refine Ef ?_)
 | (with_reducible refine IY ?_)|(with_reducible refine HP ?_)|(with_reducible refine Cn ?_)|(with_reducible refine DK ?_)
 | (with_reducible refine Et ?_)|(with_reducible refine Es ?_)|(with_reducible refine Er ?_)|(with_reducible refine FO ?_)|(with_reducible refine D0 ?_)
 | (with_reducible refine Cc ?_)|(with_reducible refine Dd ?_)|(with_reducible refine Eh ?_)|(with_reducible refine Df ?_)
 | ((with_reducible apply FI); · rfl)
 | ((with_reducible refine Exists.intro _ (And.intro (BP ?_) ?_)); · rfl)
 | ((with_reducible apply ex1); · rfl)|((with_reducible apply ex2); · rfl)|((with_reducible apply ex3); · rfl)|((with_reducible apply ex0); · rfl)|((with_reducible refine And.intro ?_ ?_); · rfl)|((with_reducible refine D4 ?_ ?_); · rfl)|((with_reducible refine DV ?_ ?_); · rfl))
local macro_rules | `(tactic| walk_at "wp")=>`(tactic| repeat walk_at "wp1")
noncomputable def isF:Option (A×List A)->Bool
 | some (.fz (.bl false),_)=>true
 | _=>false
theorem Td{Φ:Fn}{as:List (Own×A)}(h:isF (Φ as)=true):FV Φ as fun a _=>a=.fz (.bl false):=by
 unfold isF at h;split at h
 .rename_i os e; exact⟨_,_,e,rfl⟩
 .cases h
noncomputable def gC(cs:List Nat):D->Bool
 | .str z=>decide (z.cps.getD 0 0∈cs)
 | _=>false
theorem Q6(cs:List Nat):(cs.map chD).all BX=true:=by simp[chD,BX,List.all_eq_true]
theorem K3(c:Nat)(cs:List Nat):inD (chD c) (cs.map chD)=decide (c∈cs):=by
 induction cs with
 | nil=>rfl
 | cons y ys ih =>
  have:inD (chD c) ((y::ys).map chD)=(eqD (chD y) (chD c) || inD (chD c) (ys.map chD)):=rfl;rw[this,ih];by_cases h:y=c
  .subst h; simp[Ff]
  .have h':¬c=y:=fun z=>h z.symm
   simp[h,h',chD,Gj,Hq,Jw,Ho,Gk]
theorem Sw(cs:List Nat)(c:Nat):gC cs (chD c)=decide (c∈cs):=rfl
theorem Vu(xs:List D)(f:D->Bool):GP [.lst ((xs.map fun d=>D.bl (f d)).map A.fz)]=some (.fz (.bl ((xs.map f).all id))):=by
 simp only[on1,GP,DX,Cq,Option.bind_some,Option.map_some,Fu]
theorem OX(h:Hs)(c:Nat):(!(Builtin.Str.occurrences h.text ⟨#[c]⟩ 0 h.text.length 1).isEmpty)=decide (c∈h.ls.map (·.1)):=by
 rw[StrLaws.found_one];exact decide_eq_decide.mpr Iff.rfl
theorem Kq(s1 s2:Own)(h:Hs)(ok:h.Ok)(z:Str)(hl:z.length<=1000)(hz:∃c∈z.cps.toList,c∉h.ls.map (·.1)):DE [(s1,.fz h.d),(s2,.fz (.str z))]=some (.fz (.bl false),[.fz h.d,.fz (.str z)]):=by
 have hlim:1000<=LIM:=by decide
 refine VB (Dv rfl rfl ?_);show SV Cs [some (s1,.fz h.d),some (s2,.fz (.str z)),none] _;unfold Cs;walk_at "wp";refine Bi (DC .own h ok) ?_;walk_at "wp";refine Bi (GJ .own h ok) ?_;walk_at "wp";refine J4 (fun d=>some (.bl (gC (h.ls.map (·.1)) d))) ((BU z).map fun d=>.bl (gC (h.ls.map (·.1)) d)) (O5 ?_);walk_at "wp";refine⟨decide_eq_true (by lia),by rw[BU,List.length_map]; exact Nat.le_trans hl (by decide),by exact congrFun (List.filterMap_eq_map (α:=D) (β:=D)) (BU z),fun d hd=>?_,?_⟩
 .rw[BU] at hd
  obtain⟨c,hc,rfl⟩:=List.mem_map.mp hd;refine⟨[chD c],rfl,?_⟩;walk_at "wp";exact congrArg (fun b=>some (D.bl b)) ((Sw (h.ls.map (·.1)) c).trans (OX h c).symm)
 walk_at "wp";refine⟨_,Vu (BU z) (gC (h.ls.map (·.1))),?_⟩;have ha:((BU z).map (gC (h.ls.map (·.1)))).all id=false:=by
  obtain⟨c,h1,h2⟩:=hz;rw[List.all_eq_false];refine⟨false,List.mem_map.mpr ⟨chD c,?_,by rw[Sw]; exact decide_eq_false h2⟩,by simp⟩;rw[BU,List.mem_map];exact⟨c,h1,rfl⟩
 rw[ha];walk_at "wp";rfl
noncomputable def N1:List D:=[.non,.int 0,.bl true,.str (Str.ofString ""),.str (Str.ofString "house"),.tup [],.lst [],.tup [.int 2],.tup [.int 2,.lst []],.tup [.int 1,.lst [.tup [.str (Str.ofString "a"),.lst [.int 0]]]],.tup [.int 5,.lst [.tup [.str (Str.ofString "a"),.lst [.int 0]]]],.tup [.str (Str.ofString "2"),.lst []],.tup [.bl true,.lst [.tup [.str (Str.ofString "a"),.lst [.int 0]]]],.lst [.int 2,.lst [.tup [.str (Str.ofString "a"),.lst [.int 0]]]],.tup [.int 2,.tup [.tup [.str (Str.ofString "a"),.lst [.int 0]]]],.tup [.int 2,.lst [.lst [.str (Str.ofString "a"),.lst [.int 0]]]],.tup [.int 2,.lst [.tup [.str (Str.ofString "a"),.lst []]]],.tup [.int 2,.lst [.tup [.str (Str.ofString "a"),.lst [.int 2]]]],.tup [.int 2,.lst [.tup [.str (Str.ofString "a"),.lst [.int 1,.int 0]]]],.tup [.int 2,.lst [.tup [.str (Str.ofString "a"),.lst [.int 0,.int 0]]]],.tup [.int 2,.lst [.tup [.str (Str.ofString "a"),.tup [.int 0]]]],.tup [.int 2,.lst [.tup [.str (Str.ofString "a"),.lst [.bl true]]]],.tup [.int 2,.lst [.tup [.str (Str.ofString "A"),.lst [.int 0]]]],.tup [.int 2,.lst [.tup [.str (Str.ofString "ab"),.lst [.int 0]]]],.tup [.int 2,.lst [.tup [.str (Str.ofString ""),.lst [.int 0]]]],.tup [.int 2,.lst [.tup [.str (Str.ofString "a"),.lst [.int (-1)]]]],.tup [.int 2,.lst [.tup [.str (Str.ofString "b"),.lst [.int 0]],.tup [.str (Str.ofString "a"),.lst [.int 1]]]],.tup [.int 2,.lst [.tup [.str (Str.ofString "a"),.lst [.int 0]],.tup [.str (Str.ofString "a"),.lst [.int 1]]]],.tup [.int 2,.lst [.tup [.str (Str.ofString "a"),.lst [.int 0]]],.int 0],.tup [.int 3,.lst [.tup [.str (Str.ofString "a"),.lst [.int 0]],.tup [.str (Str.ofString "b"),.lst [.int 0]],.tup [.str (Str.ofString "c"),.lst [.int 0]],.tup [.str (Str.ofString "d"),.lst [.int 0]],.tup [.str (Str.ofString "e"),.lst [.int 0]],.tup [.str (Str.ofString "f"),.lst [.int 0]],.tup [.str (Str.ofString "g"),.lst [.int 0]]]]]
theorem Px:(N1.all fun d=>isF (Bu [(.own,.fz d)]))=true:=by kernel_rfl
noncomputable abbrev NHo(d:D):Prop:=FV Bu [(.own,.fz d)] fun a _=>a=.fz (.bl false)
theorem Ru{d:D}(hd:d∈N1):NHo d:=Td (List.all_eq_true.mp Px d hd)
theorem Mo{ds:List D}{i:Int}(h0:0<=i)(h1:i<ds.length):∃d,d∈ds/\atI ds i=some d:=by
 have h2:i.toNat<ds.length:=by lia
 exact⟨ds[i.toNat],List.getElem_mem _,Cm (k:=i.toNat) (by lia) h2⟩
theorem Kg(ds:List D):BZ [.lst (ds.map A.fz)]=some (.fz (.int (ds.length:Int))):=by
 simp only[BZ,on1,Ck,fzU,Option.bind_none,Option.map_none,Option.none_or,A8,Cq,Option.map_some]
theorem Rw(as:List A):Cr [some (.lent,.lst as),none]=(retS (opM ixA (m2L (Ag 1) (Au Am (Aa (Ag 0) (Aa (opM BZ (Aa (Ag 1) Ah)) Ah)))))) [some (.lent,.lst as),some (.own,.lst (N1.map A.fz))]:=by
 kernel_rfl
theorem Lz{N:Nat}{as:List A}(hb:Bag N as)(hN:N<=1000000):∃d as',NHo d/\Bag (N+1) as'/\FV Bs [(.lent,.lst as)] fun a os=>a=.fz d/\os=[.lst as']:=by
 obtain⟨k,as',k0,k1,hb2,t⟩:=BG hb hN (N1.length:Int) (by decide) (by decide);obtain⟨d,hd,e⟩:=Mo (ds:=N1) (i:=k) k0 k1;refine⟨d,as',Ru hd,hb2,Dv rfl rfl ?_⟩;show SV Cr [some (.lent,.lst as),none] _;unfold SV;rw[Rw];clear hd k1;generalize N1=T at t e |-;show SV (retS (opM ixA (m2L (Ag 1) (Au Am (Aa (Ag 0) (Aa (opM BZ (Aa (Ag 1) Ah)) Ah)))))) [some (.lent,.lst as),some (.own,.lst (T.map A.fz))] _;walk_at "wp";refine⟨_,Kg T,?_⟩;walk_at "wp";refine Bi t ?_;walk_at "wp";refine⟨_,ixL e,?_⟩;walk_at "wp";rfl
noncomputable abbrev NR(h:Hs)(d:D):Prop:=FV DE [(.own,.fz h.d),(.own,.fz d)] fun a _=>a=.fz (.bl false)
theorem F2{h:Hs}(ok:h.Ok){z:Str}(hl:z.length<=1000)(hz:∃c∈z.cps.toList,c∉h.ls.map (·.1)):NR h (.str z):=Bi (Kq .own .own h ok z hl hz) rfl
theorem Fx{h:Hs}(ok:h.Ok){d:D}(hd:isStr d=false):NR h d:=by
 have e:=DC .own h ok;refine Dv rfl rfl ?_;show SV Cs [some (.own,.fz h.d),some (.own,.fz d),none] _;unfold Cs;walk_at "wp";refine Bi e ?_;walk_at "wp";refine D4 (by rw[hd]; rfl) ?_;walk_at "wp";rfl
noncomputable def Wz:D->Option D
 | .tup [a,_]=>some a
 | _=>none
theorem Tg(neg:Bool)(c:Nat)(cs:List Nat):inA neg [.fz (chD c),.lst ((cs.map chD).map A.fz)]=some (.fz (.bl (if neg then !decide (c∈cs) else decide (c∈cs)))):=by
 rw[<- K3];have e:=Q6 cs;simp only[inA,on2,Ck,Ft,fzU,chD,A8,Cq,Option.bind_some,Option.bind_none,Option.map_none,Option.none_or] at e |-;simp only[BX,e,Bool.and_self,if_true]
noncomputable abbrev Mr(a o:Nat):List D:=[.non,.int 0,.bl true,.lst [],.lst [chD a],.tup [chD a],chD o,.str ((⟨#[a]⟩:Str)++(⟨#[o]⟩:Str)),.str ((⟨#[o]⟩:Str)++(⟨#[a]⟩:Str)),.str ((⟨#[a]⟩:Str)++Str.ofString " "),.str (Str.ofString " "),.str (Str.ofString "A"),.str ((⟨#[a]⟩:Str)++Str.ofString "0")]
theorem Om{N:Nat}{as:List A}(hb:Bag N as)(hN:N<=100000){h:Hs}(ok:h.Ok):∃d as' a o,(NR h d/\d∈Mr a o)/\Bag (N+2) as'/\FV Co [(.lent,.lst as),(.own,.fz h.d)] fun a os=>a=.fz d/\os=[.lst as',.fz h.d]:=by
 obtain⟨a,l1,hl⟩:∃a l1,h.lets=a::l1:=by
  have:=ok.l1;cases e:h.ls with
  | nil=>rw[e] at this; simp at this
  | cons p l=>exact⟨p.1,l.map (·.1),by simp[Hs.lets,e]⟩
 have hz:∀x∈h.lets,97<=x/\x<=122:=fun x hx=>by
  obtain⟨p,hp,rfl⟩:=List.mem_map.mp hx;exact ok.ch p hp
 have ol:=RD ok;have ol2:=PH h;obtain⟨k,as1,k0,k1,hb1,t1⟩:=BG hb (by lia) (h.oths.length:Int) (by lia) (by lia);have k2:k.toNat<h.oths.length:=by lia
 have ho:h.oths[k.toNat]∉h.lets:=RE (List.getElem_mem _);have xo:ixA [.lst ((h.oths.map chD).map A.fz),.fz (.int k)]=some (.fz (chD h.oths[k.toNat])):=ixL (by rw[Cm (k:=k.toNat) (by lia) (by rw[List.length_map]; exact k2),List.getElem_map]);generalize h.oths[k.toNat]=o at ho xo;have x0:ixA [.lst ((h.lets.map chD).map A.fz),.fz (.int 0)]=some (.fz (chD a)):=ixL (by rw[hl]; exact at0 _ _);obtain⟨i,as2,i0,i1,hb2,t2⟩:=BG hb1 (by lia) 13 (by decide) (by decide);have pick:∀d∈Mr a o,NR h d:=by
  have two:∀(x y:Nat),((⟨#[x]⟩:Str)++(⟨#[y]⟩:Str)).cps.toList=[x,y]:=fun x y=>by rw[Ex]; rfl
  have sp:(Str.ofString " ").cps.toList=[32]:=by decide +kernel
  have ze:(Str.ofString "0").cps.toList=[48]:=by decide +kernel
  have cA:(Str.ofString "A").cps.toList=[65]:=by decide +kernel
  have ln:∀s:Str,s.cps.toList.length<=1000->s.length<=1000:=fun s hs=>by rw[<- Str.list_len]; exact hs
  have no:∀x,x<97->x∉h.ls.map (·.1):=fun x hx hm=>by have:=hz x hm; lia
  intro d hd;simp only[Mr,List.mem_cons,List.not_mem_nil,or_false] at hd;rcases hd with rfl|rfl|rfl|rfl|rfl|rfl|rfl|rfl|rfl|rfl|rfl|rfl|rfl
  .exact Fx ok rfl
  .exact Fx ok rfl
  .exact Fx ok rfl
  .exact Fx ok rfl
  .exact Fx ok rfl
  .exact Fx ok rfl
  .exact F2 ok (ln _ (by simp)) ⟨o,by simp,ho⟩
  .exact F2 ok (ln _ (by rw[two]; simp)) ⟨o,by rw[two]; simp,ho⟩
  .exact F2 ok (ln _ (by rw[two]; simp)) ⟨o,by rw[two]; simp,ho⟩
  .exact F2 ok (ln _ (by rw[Ex,sp]; simp)) ⟨32,by rw[Ex,sp]; simp,no _ (by decide)⟩
  .exact F2 ok (ln _ (by rw[sp]; simp)) ⟨32,by rw[sp]; simp,no _ (by decide)⟩
  .exact F2 ok (ln _ (by rw[cA]; simp)) ⟨65,by rw[cA]; simp,no _ (by decide)⟩
  .exact F2 ok (ln _ (by rw[Ex,ze]; simp)) ⟨48,by rw[Ex,ze]; simp,no _ (by decide)⟩
 obtain⟨d,hd,e⟩:=Mo (ds:=Mr a o) (i:=i) i0 i1;refine⟨d,as2,a,o,⟨pick d hd,hd⟩,hb2.mono (by lia),Dv rfl rfl ?_⟩;show SV C1 [some (.lent,.lst as),some (.own,.fz h.d),none,none,none,none,none] _;unfold C1;have l2:=ok.l2;clear pick hd hb hb1 hb2;walk_at "wp";refine J4 Wz (h.lets.map chD) (O4 ?_);walk_at "wp";refine⟨by rw[List.length_map]; lia,?_,?_,?_⟩
 .rw[List.filterMap_map,Hs.lets,List.map_map,<- List.filterMap_eq_map]; rfl
 .intro d hd
  obtain⟨p,hp,rfl⟩:=List.mem_map.mp hd;refine⟨[ld p],rfl,?_⟩;walk_at "wp";rfl
 walk_at "wp";refine J4 (fun d=>if inD d (h.lets.map chD) then none else some d) (h.oths.map chD) (O5 ?_);walk_at "wp";rw[LM];refine⟨by simp[NG],?_,?_,?_⟩
 .rw[Hs.oths,List.filterMap_map]
  generalize NG=al;induction al with
  | nil=>rfl
  | cons c al ih =>
   rw[List.filterMap_cons,List.filter_cons];by_cases hc:c∈h.ls.map (·.1)
   .simp only[Function.comp,K3,Hs.lets,decide_eq_true hc,if_true,Bool.not_true,Bool.false_eq_true,if_false]; exact ih
   .simp only[Function.comp,K3,Hs.lets,decide_eq_false hc,if_true,Bool.not_false,Bool.false_eq_true,if_false,List.map_cons]; rw[<- ih]; rfl
 .intro d hd
  obtain⟨c,hc,rfl⟩:=List.mem_map.mp hd;refine⟨[chD c],rfl,?_⟩;walk_at "wp";refine⟨_,Tg true c h.lets,?_⟩;walk_at "wp";refine O3 (fun e=>?_) fun e=>?_
  .walk_at "wp"
   rw[K3,if_neg (by simpa using e)]
  .rw[K3,if_pos (by simpa using e)]
 refine⟨_,_,rfl,rfl,AL ?_⟩;show SV _ [some (.lent,.lst as),some (.own,.fz h.d),some (.own,.lst ((h.lets.map chD).map A.fz)),some (.own,.lst ((h.oths.map chD).map A.fz)),none,none,none] _;have ln:BZ [.lst ((h.oths.map chD).map A.fz)]=some (.fz (.int (h.oths.length:Int))):=by rw[Kg,List.length_map]
 walk_at "wp";refine⟨_,ln,?_⟩;walk_at "wp";refine Bi t1 ?_;walk_at "wp";refine⟨_,xo,?_⟩;walk_at "wp";refine⟨_,x0,?_⟩;walk_at "wp";refine Qr ⟨_,rfl⟩ ?_;walk_at "wp";refine⟨(show(12:Nat)<LIM by decide),?_⟩;walk_at "wp";refine Bi t2 ?_;walk_at "wp";refine⟨_,ixL (T:=Mr a o) e,?_⟩;walk_at "wp";rfl
local macro_rules | `(tactic| walk_at "wp1")=>`(tactic| first
 | (with_reducible refine CA ?_)|(with_reducible refine AL ?_)|(with_reducible refine Ej ?_)|(with_reducible refine El ?_)|(with_reducible refine DZ ?_)|(with_reducible refine En ?_)|(with_reducible refine FN ?_)|(with_reducible refine Dg ?_)|(with_reducible refine Ep ?_)|(with_reducible refine Eo ?_)|(with_reducible refine Em ?_)|(with_reducible refine C8 ?_)|(with_reducible refine Ci ?_)
 | (with_reducible refine FG ?_)|(with_reducible refine C7 ?_)|(with_reducible refine Cg ?_)|(with_reducible refine Ec ?_)|(with_reducible refine DQ ?_)|(with_reducible refine FH ?_)|(with_reducible refine Ee ?_)|(with_reducible refine Eb ?_)|(with_reducible refine Ed ?_)|(with_reducible refine Ef ?_)
 | (with_reducible refine IY ?_)|(with_reducible refine HP ?_)|(with_reducible refine Cn ?_)|(with_reducible refine DK ?_)
 | (with_reducible refine Et ?_)|(with_reducible refine Es ?_)|(with_reducible refine Er ?_)|(with_reducible refine FO ?_)|(with_reducible refine D0 ?_)
 | (with_reducible refine Cc ?_)|(with_reducible refine Dd ?_)|(with_reducible refine Eh ?_)|(with_reducible refine Df ?_)
 | ((with_reducible apply FI); · rfl)
 | ((with_reducible refine Exists.intro _ (And.intro (BP ?_) ?_)); · rfl)
 | ((with_reducible apply ex1); · rfl)|((with_reducible apply ex2); · rfl)|((with_reducible apply ex3); · rfl)|((with_reducible apply ex0); · rfl)|((with_reducible refine And.intro ?_ ?_); · rfl)|((with_reducible refine D4 ?_ ?_); · rfl)|((with_reducible refine DV ?_ ?_); · rfl))
local macro_rules | `(tactic| walk_at "wp")=>`(tactic| repeat walk_at "wp1")
noncomputable abbrev O(d:D):Own×A:=(.own,.fz d)
noncomputable abbrev PB:List (Str×Int):=[(Str.ofString "row",1),(Str.ofString "again",1),(Str.ofString "not",1),(Str.ofString "either",2),(Str.ofString "both",2),(Str.ofString "then",2)]
noncomputable abbrev RW2:List Str:=[Str.ofString "row",Str.ofString "again"]
noncomputable def wB:D->Bool
 | .str w=>(B6 PB w).isSome
 | .non | .bl _ | .int _ | .lst _ | .tup _=>false
theorem Oo(d:D):FV BW [O d] fun x _=>x=.fz (.bl (wB d)):=by
 refine Dv rfl rfl ?_;show SV Ct [some (.own,.fz d)] _;unfold Ct;cases d with
 | str w =>
  walk_at "wp";show A.fz (.bl ((B6 PB w).isSome != false))=_;simp[wB]
 | _=>walk_at "wp"; rfl
theorem R7{w:Str}{n:Int}(h:B6 PB w=some n):FV Cp [O (.str w)] fun x _=>x=.fz (.int n):=by
 refine Dv rfl rfl ?_;show SV C2 [some (.own,.fz (.str w))] _;unfold C2;walk_at "wp";refine⟨_,(show O6 PB [.fz (.str w)]=some (.fz (.int n)) by simp only[O6,on1,Ck,fzU,Ft,Option.bind_some,h,Option.map_some]),?_⟩;walk_at "wp";rfl
noncomputable def tB:D->Bool
 | .tup (.str w::ds)=>match B6 PB w with
  | some n=>decide ((ds.length:Int)=n)
  | none=>false
 | .tup _=>false
 | .non | .bl _ | .int _ | .lst _ | .str _=>false
theorem MH(d:D):FV Bm [O d] fun x _=>x=.fz (.bl (tB d)):=by
 refine Dv rfl rfl ?_;show SV Ca [some (.own,.fz d)] _;unfold Ca;cases d with
 | tup ds =>
  cases ds with
  | nil=>walk_at "wp"; rfl
  | cons x ds =>
   have i0:ixA [.fz (.tup (x::ds)),.fz (.int 0)]=some (.fz x):=ixF (at0 x ds);walk_at "wp";refine⟨_,i0,?_⟩;walk_at "wp";refine A2 (Oo x) fun y _ ey=>?_;subst ey;cases x with
   | str w =>
    cases hw:B6 PB w with
    | none =>
     have e1:wB (.str w)=false:=by simp[wB,hw]
     rw[e1];walk_at "wp";show A.fz (.bl false)=A.fz (.bl (tB (.tup (.str w::ds))));simp[tB,hw]
    | some n =>
     have e1:wB (.str w)=true:=by simp[wB,hw]
     rw[e1];walk_at "wp";refine⟨_,i0,?_⟩;walk_at "wp";refine A2 (R7 hw) fun y _ ey=>?_;subst ey;walk_at "wp";show A.fz (.bl (eqD (.int ((ds.length+1:Nat):Int)) (.int (1+n))))=A.fz (.bl (tB (.tup (.str w::ds))));simp only[tB,hw,Gj];by_cases q:(ds.length:Int)=n
     .rw[decide_eq_true q]; simp; lia
     .rw[decide_eq_false q]; simp; lia
   | _ =>
    walk_at "wp";rfl
 | _=>walk_at "wp"; rfl
noncomputable def NRS(h:Hs)(e:D):Prop:=FV A7 [O h.d,O e] fun x _=>x=.fz (.bl false)
noncomputable def YRS(h:Hs)(e:D):Prop:=FV A7 [O h.d,O e] fun x _=>x=.fz (.bl true)
theorem Pw{h:Hs}{e:D}(hn:NR h e):NRS h e:=by
 refine Dv rfl rfl ?_;show SV Br [oF h.d,oF e] _;unfold Br;walk_at "wp";refine A2 hn fun y _ ey=>?_;subst ey;walk_at "wp";rfl
theorem Nt{h:Hs}(ok:h.Ok){z:Str}(hz:Row h z):FV A7 [O h.d,O (.str z)] fun x _=>x=.fz (.bl (decide ((z.length:Int)<=4))):=by
 refine Dv rfl rfl ?_;show SV Br [oF h.d,oF (.str z)] _;unfold Br;walk_at "wp";refine Bi (Qm .own .own h ok z hz) ?_;walk_at "wp";rfl
theorem M3{h:Hs}(ok:h.Ok){z:Str}(hz:Row h z)(hl:z.length<=4):YRS h (.str z):=A2 (Nt ok hz) fun x _ e=>by rw[e,decide_eq_true (by lia)]
theorem Pu{h:Hs}(ok:h.Ok){z:Str}(hz:Row h z)(hl:4<z.length):NRS h (.str z):=A2 (Nt ok hz) fun x _ e=>by rw[e,decide_eq_false (by lia)]
inductive Res (h:Hs):List D->Nat->Nat->Bool->Prop where
 | done {p t r} (e:p=[]\/12<=t):Res h p t r (p.isEmpty&&decide (r<=5))
 | bad {p d t r} (ht:t<12) (e:tB d=false):Res h (p++[d]) t r false
 | badrow {p w e t r} (ht:t<12) (hw:w∈RW2) (he:NRS h e):Res h (p++[.tup [.str w,e]]) t r false
 | row {p w e t r b} (ht:t<12) (hw:w∈RW2) (he:YRS h e) (k:Res h p (t+1) (r+1) b):Res h (p++[.tup [.str w,e]]) t r b
 | node {p w ds t r b} (ht:t<12) (hw:w∉RW2) (hd:tB (.tup (.str w::ds))=true) (k:Res h (p++ds) (t+1) r b):Res h (p++[.tup (.str w::ds)]) t r b
local macro_rules | `(tactic| walk_at "wp1")=>`(tactic| first
 | (with_reducible refine CA ?_)|(with_reducible refine AL ?_)|(with_reducible refine Ej ?_)|(with_reducible refine El ?_)|(with_reducible refine DZ ?_)|(with_reducible refine En ?_)|(with_reducible refine FN ?_)|(with_reducible refine Dg ?_)|(with_reducible refine Ep ?_)|(with_reducible refine Eo ?_)|(with_reducible refine Em ?_)|(with_reducible refine C8 ?_)|(with_reducible refine Ci ?_)
 | (with_reducible refine FG ?_)|(with_reducible refine C7 ?_)|(with_reducible refine Cg ?_)|(with_reducible refine Ec ?_)|(with_reducible refine DQ ?_)|(with_reducible refine FH ?_)|(with_reducible refine Ee ?_)|(with_reducible refine Eb ?_)|(with_reducible refine Ed ?_)|(with_reducible refine Ef ?_)
 | (with_reducible refine IY ?_)|(with_reducible refine HP ?_)|(with_reducible refine Cn ?_)|(with_reducible refine DK ?_)
 | (with_reducible refine Et ?_)|(with_reducible refine Es ?_)|(with_reducible refine Er ?_)|(with_reducible refine FO ?_)|(with_reducible refine D0 ?_)
 | (with_reducible refine Cc ?_)|(with_reducible refine Dd ?_)|(with_reducible refine Eh ?_)|(with_reducible refine Df ?_)
 | ((with_reducible apply FI); · rfl)
 | ((with_reducible refine Exists.intro _ (And.intro (BP ?_) ?_)); · rfl)
 | ((with_reducible apply ex1); · rfl)|((with_reducible apply ex2); · rfl)|((with_reducible apply ex3); · rfl)|((with_reducible apply ex0); · rfl)|((with_reducible refine And.intro ?_ ?_); · rfl)|((with_reducible refine D4 ?_ ?_); · rfl)|((with_reducible refine DV ?_ ?_); · rfl))
local macro_rules | `(tactic| walk_at "wp")=>`(tactic| repeat walk_at "wp1")
theorem S2(ds:List D)(k:Nat):cutD ds (some (k:Int)) none=ds.drop k:=by
 unfold cutD;rw[HT.R1,HT.Ql];by_cases q:k<=ds.length
 .rw[Nat.min_eq_left q,List.take_of_length_le (by rw[List.length_drop]; lia)]
 .rw[Nat.min_eq_right (by lia),Nat.sub_self,List.take_zero,List.drop_of_length_le (by lia)]
section
variable{m:ME}{Z:Ro}{QT:Bool->Ro->Prop}{Q:R->Ro->Prop}{QS:Fl->Prop}{i j:Nat}
theorem Sr(h:EV m Z fun r Z1=>∃x,peek Z1 r=some x/\∃ds,DX x=some ds/\QT (!ds.isEmpty) Z1):TV (Ky m) Z QT:=by
 obtain⟨r,Z1,e1,x,e2,ds,e3,q⟩:=h;exact⟨_,_,by simp only[Ky,e1,e2,e3,Option.bind_some,Option.map_some],q⟩
theorem Q5(h:EV m Z fun r Z1=>∃x,peek Z1 r=some x/\∃ds,DX x=some ds/\Q (.val (.fz (.bl ds.isEmpty))) Z1):EV (N0 m) Z Q:=by
 obtain⟨r,Z1,e1,x,e2,ds,e3,q⟩:=h;exact⟨.val (.fz (.bl ds.isEmpty)),Z1,by simp only[N0,Ky,e1,e2,e3,Option.bind_some,Option.map_some,Bool.not_not],q⟩
theorem U0{st:Own}{ds:List D}{d:D}(h:CV Z i=some (st,(ds++[d]).map A.fz))(hf:free (Z.set i (some (st,.lst (ds.map A.fz)))) j=true)(q:QS (.next ((Z.set i (some (st,.lst (ds.map A.fz)))).set j (some (.own,.fz d))))):SV (MC i j) Z QS:=by
 have e1:((ds++[d]).map A.fz).getLast? = some (.fz d):=by simp
 have e2:((ds++[d]).map A.fz).dropLast=ds.map A.fz:=by simp
 exact⟨_,by simp only[MC,h,e1,e2,Option.bind_some,fzU,hf,if_true],q⟩
theorem Si(h0:∃p,CV Z i=some p)(h:EV m Z fun r Z1=>∃ds,r=.val (.fz (.tup ds))/\∃st as,CV Z1 i=some (st,as)/\as.length+ds.length<=LIM/\QS (.next (Z1.set i (some (st,.lst (as++ds.map A.fz)))))):SV (LW i m) Z QS:=by
 obtain⟨p,h0⟩:=h0;obtain⟨r,Z1,e1,ds,rfl,st,as,e3,hl,q⟩:=h;exact⟨_,by simp only[LW,h0,e1,peek,Vi,e3,Option.bind_some,if_pos hl],q⟩
end
noncomputable abbrev eS(h:Hs)(d:D)(ps:List D)(t r:Nat)(x5:Slot):Ro:=[oF h.d,oF d,some (.own,.lst (ps.map A.fz)),oF (.int (t:Int)),oF (.int (r:Int)),x5]
theorem GK{α:Type}{p q:List α}{a b:α}(h:p++[a]=q++[b]):p=q/\a=b:=by simpa using h
theorem S4(w:Str):inD (.str w) (RW2.map D.str)=decide (w∈RW2):=by
 have e:∀a b:Str,eqD (.str a) (.str b)=decide (a=b):=fun a b=>by
  rw[Hq];by_cases q:a=b
  .subst q; simp
  .rw[decide_eq_false q]; simpa using q
 simp only[inD,List.map_cons,List.map_nil,List.any_cons,List.any_nil,e,List.mem_cons,List.not_mem_nil,or_false,Bool.or_false];by_cases q1:w=Str.ofString "row" <;> by_cases q2:w=Str.ofString "again" <;> simp[q1,q2,eq_comm]
theorem VL{w:Str}{n:Int}(h:B6 PB w=some n):1<=n/\n<=2:=by
 unfold B6 at h;obtain⟨k,hk,rfl⟩:=map_eq_some_iff.mp h;have:=List.mem_of_find?_eq_some hk;simp only[PB,List.mem_cons,List.not_mem_nil,or_false] at this;rcases this with rfl|rfl|rfl|rfl|rfl|rfl<;>decide
noncomputable abbrev Vw:MS:=(Az (MC 2 5) (Az (NH 3 (Af (.int 1))) (Az (ifS (C5 (AX (Au Bm (Aa (Ag 5) Ah)))) (retS (Af (.bl false))) Bp) (ifS (AX (opM (inG [Str.ofString "row",Str.ofString "again"] true) (m1L (opM ixA (m2L (Ag 5) (Af (.int 0))))))) (LW 2 (opM NC (m2L (Ag 5) (Af (.int 1))))) (ifS (AX (Au A7 (Aa (Ag 0) (Aa (opM ixA (m2L (Ag 5) (Af (.int 1)))) Ah)))) (NH 4 (Af (.int 1))) (retS (Af (.bl false))))))))
theorem SK{h:Hs}{d:D}{ps:List D}{t r:Nat}{x5:Slot}:SV (retS (J.andM (N0 (Ag 2)) (opM leA (m2L (Ag 4) (Af (.int 5)))))) (eS h d ps t r x5) (fin 2 fun x _=>x=.fz (.bl (ps.isEmpty&&decide (r<=5)))):=by
 refine DZ (DQ (Q5 ?_));walk_at "wp";refine⟨ps,by simp only[DX,Cq],?_⟩;walk_at "wp";cases ps with
 | nil =>
  walk_at "wp";show A.fz (.bl (decide ((r:Int)<=5)))=_;congr 2;simp;lia
 | cons a ps =>
  walk_at "wp";rfl
theorem US{h:Hs}{d e:D}{p:List D}{t r:Nat}{x5:Slot}(ht:t<12)(h5:Fr x5)(hlen:(p++[e]).length<=1+t){b:Bool}(hr:Res h (p++[e]) t r b){QS:Fl->Prop}(kr:b=false->∀Z,QS (.ret (.fz (.bl false)) Z)):
  SV Vw (eS h d (p++[e]) t r x5) (turn (fun Z3=>∃k,k<12-t/\∃ps t' r' x5,k=12-t'/\t'<=12/\Fr x5/\ps.length<=1+t'/\Res h ps t' r' b/\Z3=eS h d ps t' r' x5) (fun Z3=>Z3) QS):=by
 have hL:100000<=LIM:=by decide
 rw[List.length_append] at hlen;have hlen:p.length+1<=1+t:=hlen;refine CA (U0 (ds:=p) (d:=e) rfl h5 (AL ?_));show SV _ (eS h d p t r (oF e)) _;walk_at "wp";refine A2 (MH e) fun y _ ey=>?_;subst ey;have rwT:∀{w:Str} {x:D},w∈RW2->tB (.tup [.str w,x])=true:=fun {w x} hw=>by
  simp only[List.mem_cons,List.not_mem_nil,or_false] at hw;rcases hw with rfl|rfl<;>rfl
 generalize hq:p++[e]=q at hr;cases hr with
 | done e1 =>
  rcases e1 with e1|e1
  .rw[e1] at hq; simp at hq
  .lia
 | @bad p' d' _ _ ht' e1 =>
  obtain⟨rfl,rfl⟩:=GK hq;rw[e1];walk_at "wp";exact QB (kr rfl _)
 | @badrow p' w e' _ _ ht' hw he =>
  obtain⟨rfl,rfl⟩:=GK hq;have i0:ixA [.fz (.tup [.str w,e']),.fz (.int 0)]=some (.fz (.str w)):=ixF (at0 _ _);rw[rwT hw];walk_at "wp";refine DV (show(!inD (.str w) (RW2.map D.str))=false by rw[S4,decide_eq_true hw]; rfl) ?_;walk_at "wp";refine A2 he fun y _ ey=>?_;subst ey;walk_at "wp";exact QB (kr rfl _)
 | @row p' w e' _ _ _ ht' hw he k =>
  obtain⟨rfl,rfl⟩:=GK hq;have i0:ixA [.fz (.tup [.str w,e']),.fz (.int 0)]=some (.fz (.str w)):=ixF (at0 _ _);rw[rwT hw];walk_at "wp";refine DV (show(!inD (.str w) (RW2.map D.str))=false by rw[S4,decide_eq_true hw]; rfl) ?_;walk_at "wp";refine A2 he fun y _ ey=>?_;subst ey;walk_at "wp";exact NA ⟨12-(t+1),by lia,p,t+1,r+1,_,rfl,by lia,rfl,by lia,k,rfl⟩
 | @node p' w ds _ _ _ ht' hw hd k =>
  obtain⟨rfl,rfl⟩:=GK hq;have i0:ixA [.fz (.tup (.str w::ds)),.fz (.int 0)]=some (.fz (.str w)):=ixF (at0 _ _);have hds:ds.length<=2:=by
   simp only[tB] at hd;cases hl:B6 PB w with
   | none=>rw[hl] at hd; cases hd
   | some n =>
    rw[hl] at hd;have:=VL hl;have:=of_decide_eq_true hd;lia
  rw[hd];walk_at "wp";refine⟨_,i0,?_⟩;walk_at "wp";refine D4 (show(!inD (.str w) (RW2.map D.str))=true by rw[S4,decide_eq_false hw]; rfl) ?_;refine Si ⟨_,rfl⟩ ?_;walk_at "wp";have c1:cutD (.str w::ds) (some 1) none=ds:=by
   have:=S2 (.str w::ds) 1;simpa using this
  rw[c1];refine⟨by rw[List.length_map]; lia,?_⟩;refine NA ⟨12-(t+1),by lia,p++ds,t+1,r,oF (.tup (.str w::ds)),rfl,by lia,rfl,by rw[List.length_append]; lia,k,?_⟩;show _=eS h d (p++ds) (t+1) r (oF (.tup (.str w::ds)));have em:(p++ds).map A.fz=p.map A.fz++ds.map A.fz:=List.map_append;show _=[oF h.d,oF d,some (.own,.lst ((p++ds).map A.fz)),oF (.int ((t+1:Nat):Int)),oF (.int (r:Int)),oF (.tup (.str w::ds))];rw[em];rfl
theorem IJ{h:Hs}(ok:h.Ok){d:D}{b:Bool}(hr:Res h [d] 0 0 b):FV A5 [O h.d,O d] fun x _=>x=.fz (.bl b):=by
 have hL:100000<=LIM:=by decide
 refine Dv rfl rfl ?_;show SV FT [oF h.d,oF d,none,none,none,none] _;unfold FT;walk_at "wp";refine Bi (DC .own h ok) ?_;walk_at "wp";refine Qs (fun n Z=>∃ps t r x5,n=12-t/\t<=12/\Fr x5/\ps.length<=1+t/\Res h ps t r b/\Z=eS h d ps t r x5) ⟨12,by decide,[d],0,0,none,rfl,by lia,rfl,by simp,hr,rfl⟩ fun n Z hI=>?_;obtain⟨ps,t,r,x5,rfl,ht,h5,hlen,hr,rfl⟩:=hI;refine D0 (Sr ?_);walk_at "wp";refine⟨ps,by simp only[DX,Cq],?_⟩;rcases List.eq_nil_or_concat ps with rfl|⟨p,e,hpe⟩
 .have e1:b=(([]:List D).isEmpty&&decide (r<=5)):=by
   generalize hq:([]:List D)=q at hr;cases hr with
   | done _=>subst hq; rfl
   | bad _ _=>simp at hq
   | badrow _ _ _=>simp at hq
   | row _ _ _ _=>simp at hq
   | node _ _ _ _=>simp at hq
  subst e1;exact DV rfl (DV rfl (AL SK))
 .rw[List.concat_eq_append] at hpe
  subst hpe;refine D4 (by simp) ?_;walk_at "wp";by_cases h12:t<12
  .refine D4 (decide_eq_true (by lia)) ?_
   exact US h12 h5 hlen hr fun hb Z=>by subst hb; rfl
  .refine DV (decide_eq_false (by lia)) ?_
   have e1:b=((p++[e]).isEmpty&&decide (r<=5)):=by
    generalize hq:p++[e]=q at hr;cases hr with
    | done _=>rfl
    | bad hh _=>exact absurd hh h12
    | badrow hh _ _=>exact absurd hh h12
    | row hh _ _ _=>exact absurd hh h12
    | node hh _ _ _=>exact absurd hh h12
   subst e1;refine AL ?_;exact SK
local macro_rules | `(tactic| walk_at "wp1")=>`(tactic| first
 | (with_reducible refine CA ?_)|(with_reducible refine AL ?_)|(with_reducible refine Ej ?_)|(with_reducible refine El ?_)|(with_reducible refine DZ ?_)|(with_reducible refine En ?_)|(with_reducible refine FN ?_)|(with_reducible refine Dg ?_)|(with_reducible refine Ep ?_)|(with_reducible refine Eo ?_)|(with_reducible refine Em ?_)|(with_reducible refine C8 ?_)|(with_reducible refine Ci ?_)
 | (with_reducible refine FG ?_)|(with_reducible refine C7 ?_)|(with_reducible refine Cg ?_)|(with_reducible refine Ec ?_)|(with_reducible refine DQ ?_)|(with_reducible refine FH ?_)|(with_reducible refine Ee ?_)|(with_reducible refine Eb ?_)|(with_reducible refine Ed ?_)|(with_reducible refine Ef ?_)
 | (with_reducible refine IY ?_)|(with_reducible refine HP ?_)|(with_reducible refine Cn ?_)|(with_reducible refine DK ?_)
 | (with_reducible refine Et ?_)|(with_reducible refine Es ?_)|(with_reducible refine Er ?_)|(with_reducible refine FO ?_)|(with_reducible refine D0 ?_)
 | (with_reducible refine Cc ?_)|(with_reducible refine Dd ?_)|(with_reducible refine Eh ?_)|(with_reducible refine Df ?_)
 | ((with_reducible apply FI); · rfl)
 | ((with_reducible refine Exists.intro _ (And.intro (BP ?_) ?_)); · rfl)
 | ((with_reducible apply ex1); · rfl)|((with_reducible apply ex2); · rfl)|((with_reducible apply ex3); · rfl)|((with_reducible apply ex0); · rfl)|((with_reducible refine And.intro ?_ ?_); · rfl)|((with_reducible refine D4 ?_ ?_); · rfl)|((with_reducible refine DV ?_ ?_); · rfl))
local macro_rules | `(tactic| walk_at "wp")=>`(tactic| repeat walk_at "wp1")
inductive Tr where
 | row (w:Str) (e:D)
 | un (a:Tr)
 | bin (w:Str) (a b:Tr)
noncomputable def Tr.d:Tr->D
 | .row w e=>.tup [.str w,e]
 | .un a=>.tup [.str (Str.ofString "not"),a.d]
 | .bin w a b=>.tup [.str w,a.d,b.d]
noncomputable def Tr.sz:Tr->Nat
 | .row _ _=>1
 | .un a=>a.sz+1
 | .bin _ a b=>a.sz+b.sz+1
noncomputable def Tr.rw:Tr->Nat
 | .row _ _=>1
 | .un a=>a.rw
 | .bin _ a b=>a.rw+b.rw
noncomputable abbrev B3:List Str:=[Str.ofString "either",Str.ofString "both",Str.ofString "then"]
noncomputable def Tr.Ok(h:Hs):Tr->Prop
 | .row w e=>w∈RW2/\YRS h e
 | .un a=>a.Ok h
 | .bin w a b=>w∈B3/\a.Ok h/\b.Ok h
noncomputable def Tr.Bd(h:Hs):Tr->Prop
 | .row w e=>w∈RW2/\NRS h e
 | .un a=>a.Bd h
 | .bin w a b=>w∈B3/\((a.Bd h/\b.Ok h)\/b.Bd h)
theorem QL:Str.ofString "not" ∉ RW2:=by decide +kernel
theorem M5{w:Str}(hw:w∈B3):w∉RW2:=by
 simp only[List.mem_cons,List.not_mem_nil,or_false] at hw;rcases hw with rfl|rfl|rfl<;>decide +kernel
theorem Vk(x:D):tB (.tup [.str (Str.ofString "not"),x])=true:=by rfl
theorem QW{w:Str}(hw:w∈B3)(x y:D):tB (.tup [.str w,x,y])=true:=by
 simp only[List.mem_cons,List.not_mem_nil,or_false] at hw;rcases hw with rfl|rfl|rfl<;>rfl
section
variable{h:Hs}
theorem full{p:List D}{d:D}{t r:Nat}(ht:12<=t):Res h (p++[d]) t r false:=by
 have:=Res.done (h:=h) (p:=p++[d]) (t:=t) (r:=r) (.inr ht);have e:((p++[d]).isEmpty&&decide (r<=5))=false:=by cases p<;>rfl
 rw[e] at this;exact this
theorem IH:∀{a:Tr} {p:List D} {t r:Nat} {b:Bool},a.Ok h->t+a.sz<=12->Res h p (t+a.sz) (r+a.rw) b->Res h (p++[a.d]) t r b:=by
 intro a;induction a with
 | row w e=>intro p t r b ok hs k; exact .row (by simp only[Tr.sz] at hs; lia) ok.1 ok.2 k
 | un a ih =>
  intro p t r b ok hs k;simp only[Tr.sz,Tr.rw] at hs k;refine .node (by lia) QL (Vk _) (ih ok (by lia) ?_);rw[show t+1+a.sz=t+(a.sz+1) by lia];exact k
 | bin w a c iha ihc =>
  intro p t r b ok hs k;simp only[Tr.sz,Tr.rw] at hs k;refine .node (by lia) (M5 ok.1) (QW ok.1 _ _) ?_;rw[show p++[a.d,c.d]=(p++[a.d])++[c.d] by simp];refine ihc ok.2.2 (by lia) (iha ok.2.1 (by lia) ?_);rw[show t+1+c.sz+a.sz=t+(a.sz+c.sz+1) by lia,show r+c.rw+a.rw=r+(a.rw+c.rw) by lia];exact k
theorem Nr:∀{a:Tr} {p:List D} {t r:Nat},a.Ok h->t<=12->12<t+a.sz->Res h (p++[a.d]) t r false:=by
 intro a;induction a with
 | row w e=>intro p t r ok ht hs; simp only[Tr.sz] at hs; exact full (by lia)
 | un a ih =>
  intro p t r ok ht hs;simp only[Tr.sz] at hs;by_cases q:t=12
  .exact full (by lia)
  .exact .node (by lia) QL (Vk _) (ih ok (by lia) (by lia))
 | bin w a c iha ihc =>
  intro p t r ok ht hs;simp only[Tr.sz] at hs;by_cases q:t=12
  .exact full (by lia)
  .refine .node (by lia) (M5 ok.1) (QW ok.1 _ _) ?_
   rw[show p++[a.d,c.d]=(p++[a.d])++[c.d] by simp];by_cases q2:t+1+c.sz<=12
   .exact IH ok.2.2 q2 (iha ok.2.1 (by lia) (by lia))
   .exact ihc ok.2.2 (by lia) (by lia)
noncomputable def Bad(h:Hs)(d:D):Prop:=∀(p:List D) (t r:Nat),t<=12->Res h (p++[d]) t r false
theorem BC{d:D}(e:tB d=false):Bad h d:=fun p t r ht=>by
 by_cases q:t=12
 .exact full (by lia)
 .exact .bad (by lia) e
theorem JV{w:Str}{e:D}(hw:w∈RW2)(he:NRS h e):Bad h (.tup [.str w,e]):=fun p t r ht=>by
 by_cases q:t=12
 .exact full (by lia)
 .exact .badrow (by lia) hw he
theorem JX{d:D}(hd:Bad h d):Bad h (.tup [.str (Str.ofString "not"),d]):=fun p t r ht=>by
 by_cases q:t=12
 .exact full (by lia)
 .exact .node (by lia) QL (Vk _) (hd p (t+1) r (by lia))
theorem M6{w:Str}{x d:D}(hw:w∈B3)(hd:Bad h d):Bad h (.tup [.str w,x,d]):=fun p t r ht=>by
 by_cases q:t=12
 .exact full (by lia)
 .refine .node (by lia) (M5 hw) (QW hw _ _) ?_
  rw[show p++[x,d]=(p++[x])++[d] by simp];exact hd _ _ _ (by lia)
theorem OG{w:Str}{a:Tr}{d:D}(hw:w∈B3)(ha:a.Ok h)(hd:Bad h d):Bad h (.tup [.str w,d,a.d]):=fun p t r ht=>by
 by_cases q:t=12
 .exact full (by lia)
 .refine .node (by lia) (M5 hw) (QW hw _ _) ?_
  rw[show p++[d,a.d]=(p++[d])++[a.d] by simp];by_cases q2:t+1+a.sz<=12
  .exact IH ha q2 (hd _ _ _ (by lia))
  .exact Nr ha (by lia) (by lia)
theorem OH:∀{a:Tr},a.Bd h->Bad h a.d:=by
 intro a;induction a with
 | row w e=>intro hb; exact JV hb.1 hb.2
 | un a ih=>intro hb; exact JX (ih hb)
 | bin w a c iha ihc =>
  intro hb;rcases hb.2 with ⟨h1,h2⟩|h2
  .exact OG hb.1 h2 (iha h1)
  .exact M6 hb.1 (ihc h2)
theorem HL(ok:h.Ok){d:D}(hd:Bad h d):FV A5 [O h.d,O d] fun x _=>x=.fz (.bl false):=IJ ok (hd [] 0 0 (by lia))
theorem Qp(ok:h.Ok){a:Tr}(ha:a.Ok h)(h1:a.sz<=12):FV A5 [O h.d,O a.d] fun x _=>x=.fz (.bl (decide (a.rw<=5))):=by
 have k:=IH (h:=h) (p:=[]) (t:=0) (r:=0) ha (by lia) (.done (.inl rfl));have k:=IJ ok k;refine A2 k fun x _ e=>?_;rw[e];simp
theorem Sb(ok:h.Ok){a:Tr}(ha:a.Ok h)(h1:12<a.sz):FV A5 [O h.d,O a.d] fun x _=>x=.fz (.bl false):=IJ ok (Nr (p:=[]) ha (by lia) (by lia))
end
local macro_rules | `(tactic| walk_at "wp1")=>`(tactic| first
 | (with_reducible refine CA ?_)|(with_reducible refine AL ?_)|(with_reducible refine Ej ?_)|(with_reducible refine El ?_)|(with_reducible refine DZ ?_)|(with_reducible refine En ?_)|(with_reducible refine FN ?_)|(with_reducible refine Dg ?_)|(with_reducible refine Ep ?_)|(with_reducible refine Eo ?_)|(with_reducible refine Em ?_)|(with_reducible refine C8 ?_)|(with_reducible refine Ci ?_)
 | (with_reducible refine FG ?_)|(with_reducible refine C7 ?_)|(with_reducible refine Cg ?_)|(with_reducible refine Ec ?_)|(with_reducible refine DQ ?_)|(with_reducible refine FH ?_)|(with_reducible refine Ee ?_)|(with_reducible refine Eb ?_)|(with_reducible refine Ed ?_)|(with_reducible refine Ef ?_)
 | (with_reducible refine IY ?_)|(with_reducible refine HP ?_)|(with_reducible refine Cn ?_)|(with_reducible refine DK ?_)
 | (with_reducible refine Et ?_)|(with_reducible refine Es ?_)|(with_reducible refine Er ?_)|(with_reducible refine FO ?_)|(with_reducible refine D0 ?_)
 | (with_reducible refine Cc ?_)|(with_reducible refine Dd ?_)|(with_reducible refine Eh ?_)|(with_reducible refine Df ?_)
 | ((with_reducible apply FI); · rfl)
 | ((with_reducible refine Exists.intro _ (And.intro (BP ?_) ?_)); · rfl)
 | ((with_reducible apply ex1); · rfl)|((with_reducible apply ex2); · rfl)|((with_reducible apply ex3); · rfl)|((with_reducible apply ex0); · rfl)|((with_reducible refine And.intro ?_ ?_); · rfl)|((with_reducible refine D4 ?_ ?_); · rfl)|((with_reducible refine DV ?_ ?_); · rfl))
local macro_rules | `(tactic| walk_at "wp")=>`(tactic| repeat walk_at "wp1")
theorem TN(a:Nat):B6 PB ⟨#[a]⟩=none:=by
 cases h:B6 PB ⟨#[a]⟩ with
 | none=>rfl
 | some n =>
  unfold B6 at h;obtain⟨k,hk,_⟩:=map_eq_some_iff.mp h;have h1:=List.mem_of_find?_eq_some hk;have h2:=List.find?_some hk;have h3:k.1.length=1:=by rw[of_decide_eq_true h2]; rfl
  simp only[PB,List.mem_cons,List.not_mem_nil,or_false] at h1;rcases h1 with rfl|rfl|rfl|rfl|rfl|rfl<;>exact absurd h3 dK
theorem VM{a o:Nat}{d:D}(hd:d∈Mr a o):tB d=false:=by
 simp only[Mr,List.mem_cons,List.not_mem_nil,or_false] at hd;rcases hd with rfl|rfl|rfl|rfl|rfl|rfl|rfl|rfl|rfl|rfl|rfl|rfl|rfl
 .rfl
 .rfl
 .rfl
 .rfl
 .rfl
 .show(match B6 PB ⟨#[a]⟩ with|some n=>decide (((([]:List D).length:Nat):Int)=n)|none=>false)=false
  rw[TN]
 .rfl
 .rfl
 .rfl
 .rfl
 .rfl
 .rfl
 .rfl
noncomputable def N2(x:D):List D:=[.non,.int 0,.bl true,.str (Str.ofString ""),.str (Str.ofString "row"),.tup [],.lst [],.tup [.str (Str.ofString "row")],.tup [.str (Str.ofString "row"),x],.tup [.str (Str.ofString "again"),x],.lst [.str (Str.ofString "row"),.str (Str.ofString "")],.tup [.str (Str.ofString "row"),.str (Str.ofString ""),.str (Str.ofString "")],.tup [.str (Str.ofString "not")],.tup [.str (Str.ofString "not"),.tup [.str (Str.ofString "row"),.str (Str.ofString "")],.tup [.str (Str.ofString "row"),.str (Str.ofString "")]],.tup [.str (Str.ofString "not"),x],.tup [.str (Str.ofString "not"),.lst [.str (Str.ofString "row"),.str (Str.ofString "")]],.tup [.str (Str.ofString "either"),.tup [.str (Str.ofString "row"),.str (Str.ofString "")]],.tup [.str (Str.ofString "either"),.tup [.str (Str.ofString "row"),.str (Str.ofString "")],x],.tup [.str (Str.ofString "both"),x,.tup [.str (Str.ofString "row"),.str (Str.ofString "")]],.tup [.str (Str.ofString "both"),.tup [.str (Str.ofString "row"),.str (Str.ofString "")]],.tup [.str (Str.ofString "then"),.tup [.str (Str.ofString "row"),.str (Str.ofString "")]],.tup [.str (Str.ofString "and"),.tup [.str (Str.ofString "row"),.str (Str.ofString "")],.tup [.str (Str.ofString "row"),.str (Str.ofString "")]],.tup [.str (Str.ofString "then"),.tup [.str (Str.ofString "row"),.str (Str.ofString "")],.tup [.str (Str.ofString "row"),.str (Str.ofString "")],.tup [.str (Str.ofString "row"),.str (Str.ofString "")]],.tup [.str (Str.ofString "Row"),.str (Str.ofString "")],.tup [.int 0,.str (Str.ofString "")],.tup [.non,.str (Str.ofString "")],.tup [.str (Str.ofString ""),.str (Str.ofString "")],.tup [.tup [.str (Str.ofString "row"),.str (Str.ofString "")]],.tup [.str (Str.ofString "either"),.tup [.str (Str.ofString "row"),.str (Str.ofString "")],.non],.tup [.str (Str.ofString "then"),.non,.tup [.str (Str.ofString "row"),.str (Str.ofString "")]]]
theorem Ws{h:Hs}(ok:h.Ok):YRS h (.str (Str.ofString "")):=M3 ok ⟨dK,fun c hc=>nomatch (show c∈([]:List Nat) from hc)⟩ dK
theorem Rv{h:Hs}(ok:h.Ok){x:D}(hn:NR h x)(ht:tB x=false):∀d∈N2 x,Bad h d:=by
 have yes:=Ws ok;intro d hd;simp only[N2,List.mem_cons,List.not_mem_nil,or_false] at hd;rcases hd with rfl|rfl|rfl|rfl|rfl|rfl|rfl|rfl|rfl|rfl|rfl|rfl|rfl|rfl|rfl|rfl|rfl|rfl|rfl|rfl|rfl|rfl|rfl|rfl|rfl|rfl|rfl|rfl|rfl|rfl
 .exact BC rfl
 .exact BC rfl
 .exact BC rfl
 .exact BC rfl
 .exact BC rfl
 .exact BC rfl
 .exact BC rfl
 .exact BC rfl
 .exact JV (by simp) (Pw hn)
 .exact JV (by simp) (Pw hn)
 .exact BC rfl
 .exact BC rfl
 .exact BC rfl
 .exact BC rfl
 .exact JX (BC ht)
 .exact JX (BC rfl)
 .exact BC rfl
 .exact M6 (by simp) (BC ht)
 .exact OG (a:=.row (Str.ofString "row") (.str (Str.ofString ""))) (by simp) ⟨by simp,yes⟩ (BC ht)
 .exact BC rfl
 .exact BC rfl
 .exact BC rfl
 .exact BC rfl
 .exact BC rfl
 .exact BC rfl
 .exact BC rfl
 .exact BC rfl
 .exact BC rfl
 .exact M6 (by simp) (BC rfl)
 .exact OG (a:=.row (Str.ofString "row") (.str (Str.ofString ""))) (by simp) ⟨by simp,yes⟩ (BC rfl)
theorem Py(as:List A)(h x:D):(Az (AF 3 (An (Aa (Ab (Af (.str (Str.ofString "row")))) (Aa (Ab (Af (.str (Str.ofString "")))) Ah)))) (Az (AF 4 (lstM (Aa (Ab (Af .non)) (Aa (Ab (Af (.int 0))) (Aa (Ab (Af (.bl true))) (Aa (Ab (Af (.str (Str.ofString "")))) (Aa (Ab (Af (.str (Str.ofString "row")))) (Aa (Ab (An Ah)) (Aa (Ab (lstM Ah)) (Aa (Ab (An (Aa (Ab (Af (.str (Str.ofString "row")))) Ah))) (Aa (Ab (An (Aa (Ab (Af (.str (Str.ofString "row")))) (Aa (Ab (Ag 2)) Ah)))) (Aa (Ab (An (Aa (Ab (Af (.str (Str.ofString "again")))) (Aa (Ab (Ag 2)) Ah)))) (Aa (Ab (lstM (Aa (Ab (Af (.str (Str.ofString "row")))) (Aa (Ab (Af (.str (Str.ofString "")))) Ah)))) (Aa (Ab (An (Aa (Ab (Af (.str (Str.ofString "row")))) (Aa (Ab (Af (.str (Str.ofString "")))) (Aa (Ab (Af (.str (Str.ofString "")))) Ah))))) Ah)))))))))))))) (Az (AF 4 (opM A3 (m2L (Ag 4) (lstM (Aa (Ab (An (Aa (Ab (Af (.str (Str.ofString "not")))) Ah))) (Aa (Ab (An (Aa (Ab (Af (.str (Str.ofString "not")))) (Aa (Ab (Ag 3)) (Aa (Ab (Ag 3)) Ah))))) (Aa (Ab (An (Aa (Ab (Af (.str (Str.ofString "not")))) (Aa (Ab (Ag 2)) Ah)))) (Aa (Ab (An (Aa (Ab (Af (.str (Str.ofString "not")))) (Aa (Ab (lstM (Aa (Ab (Af (.str (Str.ofString "row")))) (Aa (Ab (Af (.str (Str.ofString "")))) Ah)))) Ah)))) (Aa (Ab (An (Aa (Ab (Af (.str (Str.ofString "either")))) (Aa (Ab (Ag 3)) Ah)))) Ah))))))))) (Az (AF 4 (opM A3 (m2L (Ag 4) (lstM (Aa (Ab (An (Aa (Ab (Af (.str (Str.ofString "either")))) (Aa (Ab (Ag 3)) (Aa (Ab (Ag 2)) Ah))))) (Aa (Ab (An (Aa (Ab (Af (.str (Str.ofString "both")))) (Aa (Ab (Ag 2)) (Aa (Ab (Ag 3)) Ah))))) (Aa (Ab (An (Aa (Ab (Af (.str (Str.ofString "both")))) (Aa (Ab (Ag 3)) Ah)))) (Aa (Ab (An (Aa (Ab (Af (.str (Str.ofString "then")))) (Aa (Ab (Ag 3)) Ah)))) (Aa (Ab (An (Aa (Ab (Af (.str (Str.ofString "and")))) (Aa (Ab (Ag 3)) (Aa (Ab (Ag 3)) Ah))))) Ah))))))))) (Az (AF 4 (opM A3 (m2L (Ag 4) (lstM (Aa (Ab (An (Aa (Ab (Af (.str (Str.ofString "then")))) (Aa (Ab (Ag 3)) (Aa (Ab (Ag 3)) (Aa (Ab (Ag 3)) Ah)))))) (Aa (Ab (An (Aa (Ab (Af (.str (Str.ofString "Row")))) (Aa (Ab (Af (.str (Str.ofString "")))) Ah)))) (Aa (Ab (An (Aa (Ab (Af (.int 0))) (Aa (Ab (Af (.str (Str.ofString "")))) Ah)))) (Aa (Ab (An (Aa (Ab (Af .non)) (Aa (Ab (Af (.str (Str.ofString "")))) Ah)))) (Aa (Ab (An (Aa (Ab (Af (.str (Str.ofString "")))) (Aa (Ab (Af (.str (Str.ofString "")))) Ah)))) (Aa (Ab (An (Aa (Ab (An (Aa (Ab (Af (.str (Str.ofString "row")))) (Aa (Ab (Af (.str (Str.ofString "")))) Ah)))) Ah))) Ah)))))))))) (Az (AF 4 (opM A3 (m2L (Ag 4) (lstM (Aa (Ab (An (Aa (Ab (Af (.str (Str.ofString "either")))) (Aa (Ab (Ag 3)) (Aa (Ab (Af .non)) Ah))))) (Aa (Ab (An (Aa (Ab (Af (.str (Str.ofString "then")))) (Aa (Ab (Af .non)) (Aa (Ab (Ag 3)) Ah))))) Ah)))))) (retS (opM ixA (m2L (Ag 4) (Au Am (Aa (Ag 0) (Aa (opM BZ (Aa (Ag 4) Ah)) Ah)))))))))))) [some (.lent,.lst as),oF h,oF x,none,none]=(retS (opM ixA (m2L (Ag 4) (Au Am (Aa (Ag 0) (Aa (opM BZ (Aa (Ag 4) Ah)) Ah)))))) [some (.lent,.lst as),oF h,oF x,oF (.tup [.str (Str.ofString "row"),.str (Str.ofString "")]),some (.own,.lst ((N2 x).map A.fz))]:=by
 kernel_rfl
theorem Wb{N:Nat}{as:List A}(hb:Bag N as)(hN:N<=100000){h:Hs}(ok:h.Ok):∃d as',Bad h d/\Bag (N+3) as'/\FV Dl [(.lent,.lst as),O h.d] fun a os=>a=.fz d/\os=[.lst as',.fz h.d]:=by
 obtain⟨x,as1,a,o,⟨hn,ho⟩,hb1,t1⟩:=Om hb hN ok;have ht:=VM ho;obtain⟨k,as2,k0,k1,hb2,t2⟩:=BG hb1 (by lia) (((N2 x).length:Nat):Int) (by show(0:Int)<30; decide) (by show(30:Int)<_; decide);obtain⟨d,hd,e⟩:=Mo (ds:=N2 x) (i:=k) k0 k1;refine⟨d,as2,Rv ok hn ht d hd,hb2.mono (by lia),Dv rfl rfl ?_⟩;show SV EN [some (.lent,.lst as),oF h.d,none,none,none] _;unfold EN;refine CA ?_;walk_at "wp";refine A2 t1 fun y os ey=>?_;obtain⟨rfl,rfl⟩:=ey;refine⟨_,_,rfl,rfl,AL ?_⟩;show SV (Az (AF 3 (An (Aa (Ab (Af (.str (Str.ofString "row")))) (Aa (Ab (Af (.str (Str.ofString "")))) Ah)))) (Az (AF 4 (lstM (Aa (Ab (Af .non)) (Aa (Ab (Af (.int 0))) (Aa (Ab (Af (.bl true))) (Aa (Ab (Af (.str (Str.ofString "")))) (Aa (Ab (Af (.str (Str.ofString "row")))) (Aa (Ab (An Ah)) (Aa (Ab (lstM Ah)) (Aa (Ab (An (Aa (Ab (Af (.str (Str.ofString "row")))) Ah))) (Aa (Ab (An (Aa (Ab (Af (.str (Str.ofString "row")))) (Aa (Ab (Ag 2)) Ah)))) (Aa (Ab (An (Aa (Ab (Af (.str (Str.ofString "again")))) (Aa (Ab (Ag 2)) Ah)))) (Aa (Ab (lstM (Aa (Ab (Af (.str (Str.ofString "row")))) (Aa (Ab (Af (.str (Str.ofString "")))) Ah)))) (Aa (Ab (An (Aa (Ab (Af (.str (Str.ofString "row")))) (Aa (Ab (Af (.str (Str.ofString "")))) (Aa (Ab (Af (.str (Str.ofString "")))) Ah))))) Ah)))))))))))))) (Az (AF 4 (opM A3 (m2L (Ag 4) (lstM (Aa (Ab (An (Aa (Ab (Af (.str (Str.ofString "not")))) Ah))) (Aa (Ab (An (Aa (Ab (Af (.str (Str.ofString "not")))) (Aa (Ab (Ag 3)) (Aa (Ab (Ag 3)) Ah))))) (Aa (Ab (An (Aa (Ab (Af (.str (Str.ofString "not")))) (Aa (Ab (Ag 2)) Ah)))) (Aa (Ab (An (Aa (Ab (Af (.str (Str.ofString "not")))) (Aa (Ab (lstM (Aa (Ab (Af (.str (Str.ofString "row")))) (Aa (Ab (Af (.str (Str.ofString "")))) Ah)))) Ah)))) (Aa (Ab (An (Aa (Ab (Af (.str (Str.ofString "either")))) (Aa (Ab (Ag 3)) Ah)))) Ah))))))))) (Az (AF 4 (opM A3 (m2L (Ag 4) (lstM (Aa (Ab (An (Aa (Ab (Af (.str (Str.ofString "either")))) (Aa (Ab (Ag 3)) (Aa (Ab (Ag 2)) Ah))))) (Aa (Ab (An (Aa (Ab (Af (.str (Str.ofString "both")))) (Aa (Ab (Ag 2)) (Aa (Ab (Ag 3)) Ah))))) (Aa (Ab (An (Aa (Ab (Af (.str (Str.ofString "both")))) (Aa (Ab (Ag 3)) Ah)))) (Aa (Ab (An (Aa (Ab (Af (.str (Str.ofString "then")))) (Aa (Ab (Ag 3)) Ah)))) (Aa (Ab (An (Aa (Ab (Af (.str (Str.ofString "and")))) (Aa (Ab (Ag 3)) (Aa (Ab (Ag 3)) Ah))))) Ah))))))))) (Az (AF 4 (opM A3 (m2L (Ag 4) (lstM (Aa (Ab (An (Aa (Ab (Af (.str (Str.ofString "then")))) (Aa (Ab (Ag 3)) (Aa (Ab (Ag 3)) (Aa (Ab (Ag 3)) Ah)))))) (Aa (Ab (An (Aa (Ab (Af (.str (Str.ofString "Row")))) (Aa (Ab (Af (.str (Str.ofString "")))) Ah)))) (Aa (Ab (An (Aa (Ab (Af (.int 0))) (Aa (Ab (Af (.str (Str.ofString "")))) Ah)))) (Aa (Ab (An (Aa (Ab (Af .non)) (Aa (Ab (Af (.str (Str.ofString "")))) Ah)))) (Aa (Ab (An (Aa (Ab (Af (.str (Str.ofString "")))) (Aa (Ab (Af (.str (Str.ofString "")))) Ah)))) (Aa (Ab (An (Aa (Ab (An (Aa (Ab (Af (.str (Str.ofString "row")))) (Aa (Ab (Af (.str (Str.ofString "")))) Ah)))) Ah))) Ah)))))))))) (Az (AF 4 (opM A3 (m2L (Ag 4) (lstM (Aa (Ab (An (Aa (Ab (Af (.str (Str.ofString "either")))) (Aa (Ab (Ag 3)) (Aa (Ab (Af .non)) Ah))))) (Aa (Ab (An (Aa (Ab (Af (.str (Str.ofString "then")))) (Aa (Ab (Af .non)) (Aa (Ab (Ag 3)) Ah))))) Ah)))))) (retS (opM ixA (m2L (Ag 4) (Au Am (Aa (Ag 0) (Aa (opM BZ (Aa (Ag 4) Ah)) Ah)))))))))))) [some (.lent,.lst as1),oF h.d,oF x,none,none] _
 unfold SV;rw[Py];clear hd k1;generalize N2 x=T at t2 e |-;show SV (retS (opM ixA (m2L (Ag 4) (Au Am (Aa (Ag 0) (Aa (opM BZ (Aa (Ag 4) Ah)) Ah)))))) [some (.lent,.lst as1),oF h.d,oF x,oF (.tup [.str (Str.ofString "row"),.str (Str.ofString "")]),some (.own,.lst (T.map A.fz))] _;walk_at "wp";refine⟨_,Kg T,?_⟩;walk_at "wp";refine Bi t2 ?_;walk_at "wp";refine⟨_,ixL e,?_⟩;walk_at "wp";rfl
local macro_rules | `(tactic| walk_at "wp1")=>`(tactic| first
 | (with_reducible refine CA ?_)|(with_reducible refine AL ?_)|(with_reducible refine Ej ?_)|(with_reducible refine El ?_)|(with_reducible refine DZ ?_)|(with_reducible refine En ?_)|(with_reducible refine FN ?_)|(with_reducible refine Dg ?_)|(with_reducible refine Ep ?_)|(with_reducible refine Eo ?_)|(with_reducible refine Em ?_)|(with_reducible refine C8 ?_)|(with_reducible refine Ci ?_)
 | (with_reducible refine FG ?_)|(with_reducible refine C7 ?_)|(with_reducible refine Cg ?_)|(with_reducible refine Ec ?_)|(with_reducible refine DQ ?_)|(with_reducible refine FH ?_)|(with_reducible refine Ee ?_)|(with_reducible refine Eb ?_)|(with_reducible refine Ed ?_)|(with_reducible refine Ef ?_)
 | (with_reducible refine IY ?_)|(with_reducible refine HP ?_)|(with_reducible refine Cn ?_)|(with_reducible refine DK ?_)
 | (with_reducible refine Et ?_)|(with_reducible refine Es ?_)|(with_reducible refine Er ?_)|(with_reducible refine FO ?_)|(with_reducible refine D0 ?_)
 | (with_reducible refine Cc ?_)|(with_reducible refine Dd ?_)|(with_reducible refine Eh ?_)|(with_reducible refine Df ?_)
 | ((with_reducible apply FI); · rfl)
 | ((with_reducible refine Exists.intro _ (And.intro (BP ?_) ?_)); · rfl)
 | ((with_reducible apply ex1); · rfl)|((with_reducible apply ex2); · rfl)|((with_reducible apply ex3); · rfl)|((with_reducible apply ex0); · rfl)|((with_reducible refine And.intro ?_ ?_); · rfl)|((with_reducible refine D4 ?_ ?_); · rfl)|((with_reducible refine DV ?_ ?_); · rfl))
local macro_rules | `(tactic| walk_at "wp")=>`(tactic| repeat walk_at "wp1")
noncomputable def LR(h:Hs)(z:Str):Prop:=∀c∈z.cps.toList,c∈h.ls.map (·.1)
theorem lr0(h:Hs):LR h (Str.ofString ""):=fun c hc=>nomatch (show c∈([]:List Nat) from hc)
noncomputable abbrev eWr(as:List A)(h:Hs)(x3 x4:Slot):Ro:=[some (.lent,.lst as),oF h.d,oF (.int 4),x3,x4]
theorem MJ{N:Nat}{as:List A}{h:Hs}(ok:h.Ok)(hb:Bag N as)(hN:N<=2000):∃z as',Row h z/\z.length<=4/\Bag (N+5) as'/\FV BD [(.lent,.lst as),O h.d,O (.int 4)] fun a os=>a=.fz (.str z)/\os=[.lst as',.fz h.d,.fz (.int 4)]:=by
 suffices hh:FV BD [(.lent,.lst as),O h.d,O (.int 4)] fun a os=>∃z as',Row h z/\z.length<=4/\Bag (N+5) as'/\a=.fz (.str z)/\os=[.lst as',.fz h.d,.fz (.int 4)] by
  obtain⟨a,os,e,z,as',h1,h2,h3,rfl,rfl⟩:=hh;exact⟨z,as',h1,h2,h3,Bi e ⟨rfl,rfl⟩⟩
 have hL:1000<=LIM:=by decide
 have l1:=ok.l1;have l2:=ok.l2;obtain⟨s,as0,s0,s1,hb0,t0⟩:=BG hb (by lia) 5 (by lia) (by lia);refine Dv rfl rfl ?_;show SV CK (eWr as h none none) _;unfold CK;walk_at "wp";refine Hi (G5 ?_);walk_at "wp";refine Bi t0 ?_;walk_at "wp";refine⟨⟨by lia,by lia⟩,fun j Z=>∃(as':List A) (z:Str) (x4:Slot),Bag (N+1+j) as'/\z.length=j/\LR h z/\Fr x4/\Z=eWr as' h (oF (.str z)) x4,⟨as0,Str.ofString "",none,hb0,dK,lr0 h,rfl,rfl⟩,fun j d Z hd hI=>?_,fun Z hI=>?_⟩
 .obtain⟨as,z,x5,hb,zl,hz,h5,rfl⟩:=hI
  obtain⟨rfl,hj⟩:=KA hd;obtain⟨d,as',g1,g2,b1,t1⟩:=BG hb (by lia) ((h.ls.map ld).length:Int) (by rw[List.length_map]; lia) (by rw[List.length_map]; lia);rw[List.length_map] at g2;have hdl:d.toNat<h.ls.length:=by lia
  have e7:=Cm (xs:=h.ls.map ld) (i:=d) (k:=d.toNat) (by lia) (by simpa using hdl);simp only[List.getElem_map] at e7;have hc:(h.ls[d.toNat]).1∈h.ls.map (·.1):=List.mem_map.mpr ⟨_,List.getElem_mem hdl,rfl⟩;have e8:ld (h.ls[d.toNat])=.tup [chD (h.ls[d.toNat]).1,.lst (iL (h.ls[d.toNat]).2)]:=rfl;rw[e8] at e7;generalize (h.ls[d.toNat]).1=c at *;refine⟨_,GQ h5,?_⟩;show SV _ (eWr as h (oF (.str z)) (oF (.int (j:Int)))) _;walk_at "wp";refine Bi t1 ?_;walk_at "wp";refine⟨_,ixF e7,?_⟩;walk_at "wp";refine⟨.fz (.str (z++(⟨#[c]⟩:Str))),?_,?_⟩
  .have e:z.length+(⟨#[c]⟩:Str).length<=LIM:=by rw[len_one]; lia
   simp only[A3,on2,BF,fzU,E6,Ck,Ft,Option.bind_none,Option.none_or,Option.bind_some,e,if_true,Option.some_or,chD]
  walk_at "wp";refine⟨as',z++(⟨#[c]⟩:Str),oF (.int (j:Int)),b1.mono (by lia),by rw[QV]; lia,fun x hx=>?_,rfl,rfl⟩;rw[app_list] at hx;rcases List.mem_append.mp hx with hx|hx
  .exact hz x hx
  .exact List.mem_singleton.mp hx ▸ hc
 obtain⟨as,z,x5,hb,zl,hz,h5,rfl⟩:=hI;have e9:(EJ 0 s.toNat).length=s.toNat:=Ge ..;rw[e9] at hb zl;walk_at "wp";exact⟨z,as,⟨by lia,hz⟩,by lia,hb.mono (by lia),rfl,rfl⟩
theorem RZ(c n:Nat):(DB ⟨#[c]⟩ n).cps.toList=List.replicate n c:=by
 show((List.replicate n #[c]).foldl (· ++ ·) #[]).toList=_;rw[KZ];simp
noncomputable abbrev eCh(as:List A)(h:Hs)(R T L:Int)(x5 x6 x7 x8:Slot):Ro:=[some (.lent,.lst as),oF h.d,oF (.int R),oF (.int T),oF (.int L),x5,x6,x7,x8]
noncomputable def Ch(h:Hs)(L:Int)(a:Tr)(k n:Nat):Prop:=a.rw=k/\a.sz=n/\(L<=4->a.Ok h)/\(4<L->a.Bd h)
theorem Nu{N:Nat}{as:List A}{h:Hs}(ok:h.Ok)(hb:Bag N as)(hN:N<=500){R T L:Int}(r1:1<=R)(r2:R<=6)(t1:2*R-1<=T)(t2:T<=13)(l0:0<=L)(l1:L<=40):∃a as' a2 a3 a4 a5,Ch h L a R.toNat T.toNat/\Bag (N+100) as'/\FV Bh [(.lent,.lst as),O h.d,O (.int R),O (.int T),O (.int L)] fun x os=>x=.fz (Tr.d a)/\os=[.lst as',a2,a3,a4,a5]:=by
 suffices hh:FV Bh [(.lent,.lst as),O h.d,O (.int R),O (.int T),O (.int L)] fun x os=>∃a as' a2 a3 a4 a5,Ch h L a R.toNat T.toNat/\Bag (N+100) as'/\x=.fz (Tr.d a)/\os=[.lst as',a2,a3,a4,a5] by
  obtain⟨x,os,e,a,as',a2,a3,a4,a5,h1,h2,rfl,rfl⟩:=hh;exact⟨a,as',a2,a3,a4,a5,h1,h2,Bi e ⟨rfl,rfl⟩⟩
 have hL:100000<=LIM:=by decide
 have hl1:=ok.l1;obtain⟨q,qs,hq⟩:∃q qs,h.ls=q::qs:=by
  cases e:h.ls with
  | nil=>rw[e] at hl1; simp at hl1
  | cons q qs=>exact⟨q,qs,rfl⟩
 have i0:ixA [.fz (.lst (h.ls.map ld)),.fz (.int 0)]=some (.fz (ld q)):=ixF (by rw[hq]; exact at0 _ _);have hcq:q.1∈h.ls.map (·.1):=by rw[hq]; simp
 have rp:RW [.fz (chD q.1),.fz (.int L)]=some (.fz (.str (DB ⟨#[q.1]⟩ L.toNat))):=by
  simp only[RW,on2,chD,Ck,fzU,Ft,BF,E6,Option.bind_some];rw[if_pos ⟨by show 1<=1000; decide,l0,by lia⟩]
 have hlen:(DB ⟨#[q.1]⟩ L.toNat).length=L.toNat:=by rw[IF]; exact Nat.mul_one _
 have hrow:Row h (DB ⟨#[q.1]⟩ L.toNat):=⟨by rw[hlen]; lia,fun c hc=>by rw[RZ] at hc; rw[(List.mem_replicate.mp hc).2]; exact hcq⟩;have base:Ch h L (.row (Str.ofString "row") (.str (DB ⟨#[q.1]⟩ L.toNat))) 1 1:=⟨rfl,rfl,fun hl=>⟨by simp,M3 ok hrow (by rw[hlen]; lia)⟩,fun hl=>⟨by simp,Pu ok hrow (by rw[hlen]; lia)⟩⟩;refine Dv rfl rfl ?_;show SV DN (eCh as h R T L none none none none) _;unfold DN;walk_at "wp";refine⟨_,i0,?_⟩;walk_at "wp";refine⟨_,rp,?_⟩;walk_at "wp";show SV _ (eCh as h R T L (oF (Tr.d (.row (Str.ofString "row") (.str (DB ⟨#[q.1]⟩ L.toNat))))) none none none) _;generalize Tr.row (Str.ofString "row") (.str (DB ⟨#[q.1]⟩ L.toNat))=a0 at base;clear rp hlen hrow hcq i0 hq;refine Hi (G5 ?_);walk_at "wp";refine⟨⟨by lia,by lia⟩,fun j Z=>∃(as':List A) (a:Tr) (x6 x7 x8:Slot),Bag (N+8*j) as'/\Ch h L a (j+1) (2*j+1)/\Fr x6/\Fr x7/\Fr x8/\Z=eCh as' h R T L (oF a.d) x6 x7 x8,⟨as,a0,none,none,none,hb,base,rfl,rfl,rfl,rfl⟩,fun j d Z hd hI=>?_,fun Z hI=>?_⟩
 .obtain⟨as,a,x6,x7,x8,hb,ch,h6,h7,h8,rfl⟩:=hI
  obtain⟨rfl,hj⟩:=KA hd;obtain⟨k1,as1,k10,k11,hb1,u1⟩:=BG hb (by lia) 2 (by lia) (by lia);obtain⟨z,as2,hz,zl,hb2,u2⟩:=MJ ok hb1 (by lia);obtain⟨k3,as3,k30,k31,hb3,u3⟩:=BG hb2 (by lia) 3 (by lia) (by lia);obtain⟨k4,as4,k40,k41,hb4,u4⟩:=BG hb3 (by lia) 2 (by lia) (by lia);obtain⟨w1,hw1,e1⟩:∃w1,w1∈RW2/\ixA [.lst [.fz (.str (Str.ofString "row")),.fz (.str (Str.ofString "again"))],.fz (.int k1)]=some (.fz (.str w1)):=by
   have:k1=0\/k1=1:=by lia
   rcases this with rfl|rfl
   .exact⟨_,by simp,rfl⟩
   .exact⟨Str.ofString "again",by simp,rfl⟩
  obtain⟨w3,hw3,e3⟩:∃w3,w3∈B3/\ixA [.lst [.fz (.str (Str.ofString "either")),.fz (.str (Str.ofString "both")),.fz (.str (Str.ofString "then"))],.fz (.int k3)]=some (.fz (.str w3)):=by
   have:k3=0\/k3=1\/k3=2:=by lia
   rcases this with rfl|rfl|rfl
   .exact⟨Str.ofString "either",by simp,rfl⟩
   .exact⟨Str.ofString "both",by simp,rfl⟩
   .exact⟨Str.ofString "then",by simp,rfl⟩
  have oo:(Tr.row w1 (.str z)).Ok h:=⟨hw1,M3 ok hz zl⟩;obtain⟨a',ch',e4⟩:∃a',Ch h L a' (j+1+1) (2*(j+1)+1)/\ixA [.lst [.fz (.tup [.str w3,a.d,.tup [.str w1,.str z]]),.fz (.tup [.str w3,.tup [.str w1,.str z],a.d])],.fz (.int k4)]=some (.fz a'.d):=by
   obtain⟨c1,c2,c3,c4⟩:=ch;have:k4=0\/k4=1:=by lia
   rcases this with rfl|rfl
   .exact⟨.bin w3 a (.row w1 (.str z)),⟨by simp only[Tr.rw]; lia,by simp only[Tr.sz]; lia,fun hl=>⟨hw3,c3 hl,oo⟩,fun hl=>⟨hw3,.inl ⟨c4 hl,oo⟩⟩⟩,rfl⟩
   .exact⟨.bin w3 (.row w1 (.str z)) a,⟨by simp only[Tr.rw]; lia,by simp only[Tr.sz]; lia,fun hl=>⟨hw3,oo,c3 hl⟩,fun hl=>⟨hw3,.inr (c4 hl)⟩⟩,rfl⟩
  refine⟨_,GQ h6,?_⟩;show SV _ (eCh as h R T L (oF a.d) (oF (.int (j:Int))) x7 x8) _;walk_at "wp";refine Bi u1 ?_;walk_at "wp";refine⟨_,e1,?_⟩;walk_at "wp";refine A2 u2 fun y os ey=>?_;obtain⟨rfl,rfl⟩:=ey;walk_at "wp";refine⟨h7,AL ?_⟩;show SV _ (eCh as2 h R T L (oF a.d) (oF (.int (j:Int))) (oF (.tup [.str w1,.str z])) x8) _;walk_at "wp";refine Bi u3 ?_;walk_at "wp";refine⟨_,e3,?_⟩;refine⟨_,_,rfl,h8,AL ?_⟩;show SV _ (eCh as3 h R T L (oF a.d) (oF (.int (j:Int))) (oF (.tup [.str w1,.str z])) (oF (.str w3))) _;walk_at "wp";refine Bi u4 ?_;walk_at "wp";refine⟨_,e4,?_⟩;walk_at "wp";exact⟨as4,a',_,_,_,hb4.mono (by lia),ch',rfl,rfl,rfl,rfl⟩
 obtain⟨as,a,x6,x7,x8,hb,ch,h6,h7,h8,rfl⟩:=hI;have e9:(EJ 0 (R-1).toNat).length=(R-1).toNat:=Ge ..;rw[e9] at hb ch;refine AL ?_;refine CA (Hi (G5 ?_));walk_at "wp";obtain⟨m,hm⟩:∃m:Nat,T-2*R+1=(m:Int):=⟨(T-2*R+1).toNat,by lia⟩;rw[show(fun i j:Int=>i-j) T (2*R)+1=(m:Int) from hm];refine⟨⟨by lia,by lia⟩,fun j Z=>∃(a:Tr) (x6:Slot),Ch h L a ((R-1).toNat+1) (2*(R-1).toNat+1+j)/\Fr x6/\Z=eCh as h R T L (oF a.d) x6 x7 x8,⟨a,x6,ch,h6,rfl⟩,fun j d Z hd hI=>?_,fun Z hI=>?_⟩
 .obtain⟨a,x6,ch,h6,rfl⟩:=hI
  refine⟨_,GQ h6,?_⟩;show SV _ (eCh as h R T L (oF a.d) (J.own d) x7 x8) _;walk_at "wp";obtain⟨c1,c2,c3,c4⟩:=ch;exact⟨.un a,_,⟨c1,by simp only[Tr.sz]; lia,c3,c4⟩,rfl,rfl⟩
 obtain⟨a,x6,ch,h6,rfl⟩:=hI;have e8:(EJ 0 ((m:Int)).toNat).length=m:=Ge ..;rw[e8] at ch;refine AL ?_;walk_at "wp";obtain⟨c1,c2,c3,c4⟩:=ch;exact⟨a,as,_,_,_,_,⟨by lia,by lia,c3,c4⟩,hb.mono (by lia),rfl,rfl⟩
local macro_rules | `(tactic| walk_at "wp1")=>`(tactic| first
 | (with_reducible refine CA ?_)|(with_reducible refine AL ?_)|(with_reducible refine Ej ?_)|(with_reducible refine El ?_)|(with_reducible refine DZ ?_)|(with_reducible refine En ?_)|(with_reducible refine FN ?_)|(with_reducible refine Dg ?_)|(with_reducible refine Ep ?_)|(with_reducible refine Eo ?_)|(with_reducible refine Em ?_)|(with_reducible refine C8 ?_)|(with_reducible refine Ci ?_)
 | (with_reducible refine FG ?_)|(with_reducible refine C7 ?_)|(with_reducible refine Cg ?_)|(with_reducible refine Ec ?_)|(with_reducible refine DQ ?_)|(with_reducible refine FH ?_)|(with_reducible refine Ee ?_)|(with_reducible refine Eb ?_)|(with_reducible refine Ed ?_)|(with_reducible refine Ef ?_)
 | (with_reducible refine IY ?_)|(with_reducible refine HP ?_)|(with_reducible refine Cn ?_)|(with_reducible refine DK ?_)
 | (with_reducible refine Et ?_)|(with_reducible refine Es ?_)|(with_reducible refine Er ?_)|(with_reducible refine FO ?_)|(with_reducible refine D0 ?_)
 | (with_reducible refine Cc ?_)|(with_reducible refine Dd ?_)|(with_reducible refine Eh ?_)|(with_reducible refine Df ?_)
 | ((with_reducible apply FI); · rfl)
 | ((with_reducible refine Exists.intro _ (And.intro (BP ?_) ?_)); · rfl)
 | ((with_reducible apply ex1); · rfl)|((with_reducible apply ex2); · rfl)|((with_reducible apply ex3); · rfl)|((with_reducible apply ex0); · rfl)|((with_reducible refine And.intro ?_ ?_); · rfl)|((with_reducible refine D4 ?_ ?_); · rfl)|((with_reducible refine DV ?_ ?_); · rfl))
local macro_rules | `(tactic| walk_at "wp")=>`(tactic| repeat walk_at "wp1")
section
variable{h:Hs}{d x:D}{y:Str}
theorem GI(hd:NHo d):Bj [O d]=some (Str.ofString "NoHouse"):=by
 refine GZ rfl rfl ?_;walk_at "wp";refine A2 hd fun a _ e=>?_;subst e;walk_at "wp";rfl
theorem HC(ok:h.Ok):Bj [O h.d]=none:=by
 refine GZ rfl rfl ?_;walk_at "wp";refine Bi (II .own h ok) ?_;walk_at "wp";rfl
theorem IC{o:Option Str}(e:Bj [O d]=o):B4 [O d,O x]=o:=by
 refine GZ rfl rfl ?_;walk_at "wp";exact e
theorem GH{o:Option Str}(e:BH [O d,O x]=o):BA [O d,O x]=o:=by
 refine GZ rfl rfl ?_;walk_at "wp";exact e
theorem Lu(hd:NHo d):BH [O d,O x]=some (Str.ofString "NoHouse"):=by
 refine GZ rfl rfl (SW ?_);walk_at "wp";exact IC (GI hd)
theorem Oh(ok:h.Ok)(hx:FV A5 [O h.d,O x] fun a _=>a=.fz (.bl false)):BH [O h.d,O x]=some (Str.ofString "NoSet"):=by
 refine GZ rfl rfl (SX ?_ ?_)
 .walk_at "wp"
  exact IC (HC ok)
 .walk_at "wp"
  refine A2 hx fun a _ e=>?_;subst e;walk_at "wp";rfl
theorem JJ(e:BA [O d,O x]=some y):FV A0 [O d,O x] fun a _=>a=.fz (.str y):=by
 refine K1 rfl rfl rfl (.inl ⟨_,?_,rfl⟩);show Be [oF d,oF x,none]=some y;unfold Be;walk_at "wp";exact e
theorem R6(e:B4 [O d,O x]=some y):FV BO [O d,O x] fun a _=>a=.fz (.str y):=by
 refine K1 rfl rfl rfl (.inl ⟨_,?_,rfl⟩);show BB [oF d,oF x,none]=some y;unfold BB;walk_at "wp";exact e
end
noncomputable abbrev oB(as:List A):Slot:=some (.own,.lst as)
noncomputable abbrev eM(ns:List Int)(x1 x2 x3 x4 x5 x6 x7 x8 x9 x10 x11:Slot):Ro:=[some (.ro,.scr ns),x1,x2,x3,x4,x5,x6,x7,x8,x9,x10,x11]
noncomputable def NS(h:Hs)(d:D):Prop:=FV A5 [O h.d,O d] fun a _=>a=.fz (.bl false)
theorem Wc{h:Hs}(ok:h.Ok){R T i:Int}(r1:1<=R)(r2:R<=5)(t1:2*R-1<=T)(t2:T<=12)(i0:0<=i)(i1:i<7):∃R' T' L':Int,1<=R'/\R'<=6/\2*R'-1<=T'/\T'<=13/\0<=L'/\L'<=40/\ixA [.lst [.fz (.tup [.int 6,.int 11,.int 1]),.fz (.tup [.int 6,.int 12,.int 4]),.fz (.tup [.int 1,.int 13,.int 0]),.fz (.tup [.int 5,.int 13,.int 2]),.fz (.tup [.int R,.int T,.int 5]),.fz (.tup [.int 1,.int 1,.int 5]),.fz (.tup [.int R,.int T,.int 40])],.fz (.int i)]=some (.fz (.tup [.int R',.int T',.int L']))/\∀a,Ch h L' a R'.toNat T'.toNat->NS h a.d:=by
 have many:∀{L':Int} {a:Tr} {n:Nat},L'<=4->n<=12->Ch h L' a 6 n->NS h a.d:=fun {L' a n} hl hn ⟨c1,c2,c3,c4⟩=>A2 (Qp ok (c3 hl) (by lia)) fun x _ e=>by rw[e,c1]; rfl
 have big:∀{L':Int} {a:Tr} {k:Nat},L'<=4->Ch h L' a k 13->NS h a.d:=fun {L' a k} hl ⟨c1,c2,c3,c4⟩=>Sb ok (c3 hl) (by lia);have bad:∀{L':Int} {a:Tr} {k n:Nat},4<L'->Ch h L' a k n->NS h a.d:=fun {L' a k n} hl ⟨c1,c2,c3,c4⟩=>HL ok (OH (c4 hl));have:i=0\/i=1\/i=2\/i=3\/i=4\/i=5\/i=6:=by lia
 rcases this with rfl|rfl|rfl|rfl|rfl|rfl|rfl
 .exact⟨6,11,1,by lia,by lia,by lia,by lia,by lia,by lia,rfl,fun a c=>many (by lia) (by decide) c⟩
 .exact⟨6,12,4,by lia,by lia,by lia,by lia,by lia,by lia,rfl,fun a c=>many (by lia) (by decide) c⟩
 .exact⟨1,13,0,by lia,by lia,by lia,by lia,by lia,by lia,rfl,fun a c=>big (by lia) c⟩
 .exact⟨5,13,2,by lia,by lia,by lia,by lia,by lia,by lia,rfl,fun a c=>big (by lia) c⟩
 .exact⟨R,T,5,by lia,by lia,by lia,by lia,by lia,by lia,rfl,fun a c=>bad (by lia) c⟩
 .exact⟨1,1,5,by lia,by lia,by lia,by lia,by lia,by lia,rfl,fun a c=>bad (by lia) c⟩
 .exact⟨R,T,40,by lia,by lia,by lia,by lia,by lia,by lia,rfl,fun a c=>bad (by lia) c⟩
section
variable{ns:List Int}{h:Hs}{x1 x2 x3 x4 x5 x6 x7 x8 x9 x10 x11:Slot}
theorem UU(ok:h.Ok){b o:D}(hb:NS h b)(ho:Bad h o)(h10:Fr x10){Q:Fl->Prop}(k:∀x10,Fr x10->Q (.next (eM ns x1 x2 (oF h.d) x4 x5 x6 x7 (oF b) (oF o) x10 x11))):SV (G1 [10] true (Fs (lstM (Aa (Ab (Ag 8)) (Aa (Ab (Ag 9)) (Aa (Ab (An (Aa (Ab (Af (.str (Str.ofString "not")))) (Aa (Ab (Ag 9)) Ah)))) (Aa (Ab (An (Aa (Ab (Af (.str (Str.ofString "then")))) (Aa (Ab (An (Aa (Ab (Af (.str (Str.ofString "row")))) (Aa (Ab (Af (.str (Str.ofString "")))) Ah)))) (Aa (Ab (Ag 9)) Ah))))) Ah)))))) (ifS (orT (AX (opM Md (m2L (Au A5 (Aa (Ag 3) (Aa (Ag 10) Ah))) (Af (.bl false))))) (AX (opM neA (m2L (Au A0 (Aa (Ag 3) (Aa (Ag 10) Ah))) (Af (.str (Str.ofString "NoSet"))))))) (retS (Af (.bl false))) Bp)) (eM ns x1 x2 (oF h.d) x4 x5 x6 x7 (oF b) (oF o) x10 x11) Q:=by
 refine Hi (O4 ?_);walk_at "wp";refine⟨fun j Z=>∃x10,Fr x10/\Z=(eM ns x1 x2 (oF h.d) x4 x5 x6 x7 (oF b) (oF o) x10 x11),⟨x10,h10,rfl⟩,fun j d Z hd hI=>?_,fun Z hI=>?_⟩
 .obtain⟨x10,h10,rfl⟩:=hI
  have hn:NS h d:=by
   have:=List.mem_of_getElem? hd;simp only[List.mem_cons,List.not_mem_nil,or_false] at this;rcases this with rfl|rfl|rfl|rfl
   .exact hb
   .exact HL ok ho
   .exact HL ok (JX ho)
   .exact HL ok (M6 (by simp) ho)
  refine⟨_,GQ h10,?_⟩;show SV _ (eM ns x1 x2 (oF h.d) x4 x5 x6 x7 (oF b) (oF o) (oF d) x11) _;walk_at "wp";refine A2 hn fun y _ ey=>?_;subst ey;walk_at "wp";refine A2 (JJ (GH (Oh ok hn))) fun y _ ey=>?_;subst ey;walk_at "wp";exact⟨_,rfl,rfl⟩
 obtain⟨x10,h10,rfl⟩:=hI;exact k x10 h10
theorem QE(ns:List Int)(k:Nat)(h2:Fr x2)(h3:Fr x3)(h4:Fr x4)(h5:Fr x5)(h6:Fr x6)(h7:Fr x7)(h8:Fr x8)(h9:Fr x9)(h10:Fr x10)(h11:Fr x11){QS:Fl->Prop}:
  SV (Az (AF 2 (Au Dk (Aa (opM A3 (m2L (Au CL (Aa (Ag 0) (Aa (Ag 1) Ah))) (Ag 1))) Ah))) (Az (AF 3 (Au BN (Aa (Ag 2) Ah))) (Az (AF 4 (opM A3 (m2L (Af (.int 1)) (Au Am (Aa (Ag 2) (Aa (Af (.int 5)) Ah)))))) (Az (AF 5 (opM A3 (m2L (opM FD (m2L (opM Gv (m2L (Af (.int 2)) (Ag 4))) (Af (.int 1)))) (Au Am (Aa (Ag 2) (Aa (opM FD (m2L (Af (.int 14)) (opM Gv (m2L (Af (.int 2)) (Ag 4))))) Ah)))))) (Az (ifS (AX (opM Md (m2L (Au A5 (Aa (Ag 3) (Aa (Au Bh (Aa (Ag 2) (Aa (Ag 3) (Aa (Ag 4) (Aa (Ag 5) (Aa (Au Am (Aa (Ag 2) (Aa (Af (.int 5)) Ah))) Ah)))))) Ah))) (Af (.bl true))))) (retS (Af (.bl false))) Bp) (Az (AF 6 (lstM (Aa (Ab (An (Aa (Ab (Af (.int 6))) (Aa (Ab (Af (.int 11))) (Aa (Ab (Af (.int 1))) Ah))))) (Aa (Ab (An (Aa (Ab (Af (.int 6))) (Aa (Ab (Af (.int 12))) (Aa (Ab (Af (.int 4))) Ah))))) (Aa (Ab (An (Aa (Ab (Af (.int 1))) (Aa (Ab (Af (.int 13))) (Aa (Ab (Af (.int 0))) Ah))))) (Aa (Ab (An (Aa (Ab (Af (.int 5))) (Aa (Ab (Af (.int 13))) (Aa (Ab (Af (.int 2))) Ah))))) (Aa (Ab (An (Aa (Ab (Ag 4)) (Aa (Ab (Ag 5)) (Aa (Ab (Af (.int 5))) Ah))))) (Aa (Ab (An (Aa (Ab (Af (.int 1))) (Aa (Ab (Af (.int 1))) (Aa (Ab (Af (.int 5))) Ah))))) (Aa (Ab (An (Aa (Ab (Ag 4)) (Aa (Ab (Ag 5)) (Aa (Ab (Af (.int 40))) Ah))))) Ah))))))))) (Az (AF 7 (opM ixA (m2L (Ag 6) (Au Am (Aa (Ag 2) (Aa (opM BZ (Aa (Ag 6) Ah)) Ah)))))) (Az (AF 8 (Au Bh (Aa (Ag 2) (Aa (Ag 3) (Aa (opM ixA (m2L (Ag 7) (Af (.int 0)))) (Aa (opM ixA (m2L (Ag 7) (Af (.int 1)))) (Aa (opM ixA (m2L (Ag 7) (Af (.int 2)))) Ah))))))) (Az (AF 9 (Au Dl (Aa (Ag 2) (Aa (Ag 3) Ah)))) (Az (G1 [10] true (Fs (lstM (Aa (Ab (Ag 8)) (Aa (Ab (Ag 9)) (Aa (Ab (An (Aa (Ab (Af (.str (Str.ofString "not")))) (Aa (Ab (Ag 9)) Ah)))) (Aa (Ab (An (Aa (Ab (Af (.str (Str.ofString "then")))) (Aa (Ab (An (Aa (Ab (Af (.str (Str.ofString "row")))) (Aa (Ab (Af (.str (Str.ofString "")))) Ah)))) (Aa (Ab (Ag 9)) Ah))))) Ah)))))) (ifS (orT (AX (opM Md (m2L (Au A5 (Aa (Ag 3) (Aa (Ag 10) Ah))) (Af (.bl false))))) (AX (opM neA (m2L (Au A0 (Aa (Ag 3) (Aa (Ag 10) Ah))) (Af (.str (Str.ofString "NoSet"))))))) (retS (Af (.bl false))) Bp)) (Az (AF 11 (Au Bs (Aa (Ag 2) Ah))) (ifS (orT (AX (opM neA (m2L (Au A0 (Aa (Ag 11) (Aa (Ag 9) Ah))) (Af (.str (Str.ofString "NoHouse")))))) (AX (opM neA (m2L (Au BO (Aa (Ag 11) (Aa (An (Aa (Ab (Af (.str (Str.ofString "row")))) (Aa (Ab (Af (.str (Str.ofString "")))) Ah))) Ah))) (Af (.str (Str.ofString "NoHouse"))))))) (retS (Af (.bl false))) Bp)))))))))))) (eM ns (oF (.int (k:Int))) x2 x3 x4 x5 x6 x7 x8 x9 x10 x11) (turn (fun Z=>∃x1 x2 x3 x4 x5 x6 x7 x8 x9 x10 x11,Fr x1/\Fr x2/\Fr x3/\Fr x4/\Fr x5/\Fr x6/\Fr x7/\Fr x8/\Fr x9/\Fr x10/\Fr x11/\Z=eM ns x1 x2 x3 x4 x5 x6 x7 x8 x9 x10 x11) (fun Z=>Z) QS):=by
 obtain⟨c,c2,t1⟩:=UT ns k;obtain⟨as,q1,hb,t2⟩:=Wa .own (c+k);obtain⟨h,as1,ok,hb1,t3⟩:=R5 hb (by lia);obtain⟨v,as2,v0,v1,hb2,t4⟩:=BG hb1 (by lia) 5 (by lia) (by lia);obtain⟨R,hR⟩:∃R:Int,1+v=R:=⟨_,rfl⟩;obtain⟨u,as3,u0,u1,hb3,t5⟩:=BG hb2 (by lia) (14-2*R) (by lia) (by lia);obtain⟨T,hT⟩:∃T:Int,2*R-1+u=T:=⟨_,rfl⟩;obtain⟨L,as4,L0,L1,hb4,t6⟩:=BG hb3 (by lia) 5 (by lia) (by lia);obtain⟨a,as5,p2,p3,p4,p5,ch,hb5,t7⟩:=Nu ok hb4 (by lia) (R:=R) (T:=T) (L:=L) (by lia) (by lia) (by lia) (by lia) (by lia) (by lia);have g1:FV A5 [O h.d,O a.d] fun x _=>x=.fz (.bl true):=by
  obtain⟨c1,c2,c3,c4⟩:=ch;refine A2 (Qp ok (c3 (by lia)) (by lia)) fun x _ e=>?_;rw[e,decide_eq_true (by lia)]
 walk_at "wp";refine Bi t1 ?_;walk_at "wp";refine Bi t2 ?_;refine⟨_,_,rfl,h2,AL ?_⟩;show SV _ (eM ns (oF (.int (k:Int))) (oB as) x3 x4 x5 x6 x7 x8 x9 x10 x11) _;walk_at "wp";refine Bi t3 ?_;refine⟨_,_,rfl,h3,AL ?_⟩;show SV _ (eM ns (oF (.int (k:Int))) (oB as1) (oF h.d) x4 x5 x6 x7 x8 x9 x10 x11) _;walk_at "wp";refine Bi t4 ?_;walk_at "wp";refine⟨h4,AL ?_⟩;show SV _ (eM ns (oF (.int (k:Int))) (oB as2) (oF h.d) (oF (.int (1+v))) x5 x6 x7 x8 x9 x10 x11) _;rw[hR];walk_at "wp";refine Bi t5 ?_;walk_at "wp";refine⟨h5,AL ?_⟩;show SV _ (eM ns (oF (.int (k:Int))) (oB as3) (oF h.d) (oF (.int R)) (oF (.int (2*R-1+u))) x6 x7 x8 x9 x10 x11) _;rw[hT];walk_at "wp";refine Bi t6 ?_;walk_at "wp";refine A2 t7 fun y os ey=>?_;obtain⟨rfl,rfl⟩:=ey;walk_at "wp";refine A2 g1 fun y _ ey=>?_;subst ey;walk_at "wp";refine⟨h6,AL ?_⟩;have e6:∃mL:List A,mL=[.fz (.tup [.int 6,.int 11,.int 1]),.fz (.tup [.int 6,.int 12,.int 4]),.fz (.tup [.int 1,.int 13,.int 0]),.fz (.tup [.int 5,.int 13,.int 2]),.fz (.tup [.int R,.int T,.int 5]),.fz (.tup [.int 1,.int 1,.int 5]),.fz (.tup [.int R,.int T,.int 40])]:=⟨_,rfl⟩;obtain⟨mL,hm⟩:=e6;have ml:BZ [.lst mL]=some (.fz (.int 7)):=by rw[hm]; rfl
 obtain⟨i,as6,i0,i1,hb6,t8⟩:=BG hb5 (by lia) 7 (by lia) (by lia);obtain⟨R',T',L',r1',r2',t1',t2',l0',l1',ei,hns⟩:=Wc ok (R:=R) (T:=T) (i:=i) (by lia) (by lia) (by lia) (by lia) i0 i1;obtain⟨a',as7,p2',p3',p4',p5',ch',hb7,t9⟩:=Nu ok hb6 (by lia) r1' r2' t1' t2' l0' l1';obtain⟨o,as8,ho,hb8,t10⟩:=Wb hb7 (by lia) ok;obtain⟨d',as9,hd',hb9,t11⟩:=Lz hb8 (by lia);have hn:=hns a' ch';rw[<- hm] at ei;show SV _ (eM ns (oF (.int (k:Int))) (oB as5) (oF h.d) (oF (.int R)) (oF (.int T)) (oB [.fz (.tup [.int 6,.int 11,.int 1]),.fz (.tup [.int 6,.int 12,.int 4]),.fz (.tup [.int 1,.int 13,.int 0]),.fz (.tup [.int 5,.int 13,.int 2]),.fz (.tup [.int R,.int T,.int 5]),.fz (.tup [.int 1,.int 1,.int 5]),.fz (.tup [.int R,.int T,.int 40])]) x7 x8 x9 x10 x11) _;rw[<- hm];clear hm hns ch ch' t1 t2 t3 t4 t5 t6 t7 g1;walk_at "wp";refine⟨_,ml,?_⟩;walk_at "wp";refine Bi t8 ?_;walk_at "wp";refine⟨_,ei,?_⟩;refine⟨_,_,rfl,h7,AL ?_⟩;show SV _ (eM ns (oF (.int (k:Int))) (oB as6) (oF h.d) (oF (.int R)) (oF (.int T)) (oB mL) (oF (.tup [.int R',.int T',.int L'])) x8 x9 x10 x11) _;walk_at "wp";refine A2 t9 fun y os ey=>?_;obtain⟨rfl,rfl⟩:=ey;refine⟨_,_,rfl,h8,AL ?_⟩;show SV _ (eM ns (oF (.int (k:Int))) (oB as7) (oF h.d) (oF (.int R)) (oF (.int T)) (oB mL) (oF (.tup [.int R',.int T',.int L'])) (oF a'.d) x9 x10 x11) _;walk_at "wp";refine A2 t10 fun y os ey=>?_;obtain⟨rfl,rfl⟩:=ey;refine⟨_,_,rfl,h9,AL ?_⟩;show SV _ (eM ns (oF (.int (k:Int))) (oB as8) (oF h.d) (oF (.int R)) (oF (.int T)) (oB mL) (oF (.tup [.int R',.int T',.int L'])) (oF a'.d) (oF o) x10 x11) _
 refine CA (UU ok hn ho h10 fun x10 h10=>AL ?_);walk_at "wp";refine A2 t11 fun y os ey=>?_;obtain⟨rfl,rfl⟩:=ey;refine⟨_,_,rfl,h11,AL ?_⟩;show SV _ (eM ns (oF (.int (k:Int))) (oB as9) (oF h.d) (oF (.int R)) (oF (.int T)) (oB mL) (oF (.tup [.int R',.int T',.int L'])) (oF a'.d) (oF o) x10 (oF d')) _;walk_at "wp";refine A2 (JJ (GH (Lu hd'))) fun y _ ey=>?_;subst ey;walk_at "wp";refine A2 (R6 (IC (GI hd'))) fun y _ ey=>?_;subst ey;walk_at "wp";exact⟨_,_,_,_,_,_,_,_,_,_,_,rfl,rfl,rfl,rfl,rfl,rfl,rfl,rfl,rfl,h10,rfl,rfl⟩
end
theorem Pp(ns:List Int)(hl:ns.length<=63):∃as',G0 [(.ro,.scr ns)]=some (.fz (.bl true),as'):=by
 suffices hh:FV G0 [(.ro,.scr ns)] fun a _=>a=.fz (.bl true) by
  obtain⟨a,os,e,rfl⟩:=hh;exact⟨os,e⟩
 have hL:100000<=LIM:=by decide
 refine Dv rfl rfl ?_;show SV J2 (eM ns none none none none none none none none none none none) _;unfold J2;refine CA (Hi (G5 ?_));walk_at "wp";refine⟨⟨by split<;>split<;>lia,by split<;>split<;>lia⟩,fun _ Z=>∃x1 x2 x3 x4 x5 x6 x7 x8 x9 x10 x11,Fr x1/\Fr x2/\Fr x3/\Fr x4/\Fr x5/\Fr x6/\Fr x7/\Fr x8/\Fr x9/\Fr x10/\Fr x11/\Z=eM ns x1 x2 x3 x4 x5 x6 x7 x8 x9 x10 x11,⟨none,none,none,none,none,none,none,none,none,none,none,rfl,rfl,rfl,rfl,rfl,rfl,rfl,rfl,rfl,rfl,rfl,rfl⟩,fun j d Z hd hI=>?_,fun Z hI=>?_⟩
 .obtain⟨x1,x2,x3,x4,x5,x6,x7,x8,x9,x10,x11,h1,h2,h3,h4,h5,h6,h7,h8,h9,h10,h11,rfl⟩:=hI
  obtain⟨rfl,hj⟩:=KA hd;refine⟨_,GQ h1,?_⟩;show SV _ (eM ns (oF (.int (j:Int))) x2 x3 x4 x5 x6 x7 x8 x9 x10 x11) _;exact QE ns j h2 h3 h4 h5 h6 h7 h8 h9 h10 h11
 obtain⟨x1,x2,x3,x4,x5,x6,x7,x8,x9,x10,x11,h1,h2,h3,h4,h5,h6,h7,h8,h9,h10,h11,rfl⟩:=hI;refine AL ?_;walk_at "wp";rfl
end Gk59
end
section
namespace Gk59
open PySem PySem.Spec PyProof.Rows L2 J
noncomputable def Fe(K:Frag)(n:Str)(st:Stmt):Prop:=∃(f:Addr) (fd:FuncData),PySem.W.nsIn K mainGlobals n=some (some (.ref f))/\Fun K n n st f fd
theorem Vz{K:Frag}{n:Str}{st:Stmt}{f:Addr}{oc:Value}{od an:Option Addr}{sl:Array (Option Value)}{kV dc pm cd ct:Value}(a:PySem.W.nsIn K mainGlobals n=some (some (.ref f)))(l:K.lookup f=some ⟨oc,od,.func (PySem.W.fnOf n n (D3 st) (BJ st) (Ar st) .none kV dc pm an cd ct),sl⟩)(c:PySem.W.codeIn K cd n=true)(k:PySem.W.keepIn K (.ref f)=true):Fe K n st:=⟨f,_,a,Tc l c k⟩
theorem df{CX:CXT}(P:Program)(w:World){K:Frag}{h:Heap}{mg:Str->Option Value}{N:Nat}{n:Str}{st:Stmt}{ps:List Str}{sp:Sp}(X:K.In h)(G:h.Ns mainGlobals mg)(e:Fe K n st)(ok:∀{f fd},Fun K n n st f fd->∀base,FnOk P w K mg base CX N f fd ps sp)(hb:∀(kV doc pm:Value) (an:Option Addr) (cdv ct:Value) (us:List Value),us.length=ps.length->bindArgs (PySem.W.fnOf n n (D3 st) (BJ st) (Ar st) .none kV doc pm an cdv ct) ⟨us,[]⟩=pure (ps.zip us)):∀base,Def P w K mg base CX N n ps sp:=by
 obtain⟨f,fd,a,F⟩:=e;exact fun base=>⟨f,fd,PySem.W.mg_of X G a,F.kp,F.binds hb,ok F base⟩
theorem dfL{ln:Str}(P:Program)(w:World){K:Frag}{h:Heap}{mg:Str->Option Value}{N:Nat}{st:Stmt}{ps:List Str}{sp:Sp}(X:K.In h)(G:h.Ns mainGlobals mg)(e:Fe K ln st)(ok:∀{f fd},PySem.W.nsIn K mainGlobals ln=some (some (.ref f))->Fun K ln ln st f fd->∀base,FnOk P w K mg base CX0 N f fd ps sp)(hb:∀(kV doc pm:Value) (an:Option Addr) (cdv ct:Value) (us:List Value),us.length=ps.length->bindArgs (PySem.W.fnOf ln ln (D3 st) (BJ st) (Ar st) .none kV doc pm an cdv ct) ⟨us,[]⟩=pure (ps.zip us)):∀base,Def P w K mg base CX0 N ln ps sp:=by
 obtain⟨f,fd,a,F⟩:=e;exact fun base=>⟨f,fd,PySem.W.mg_of X G a,F.kp,F.binds hb,ok a F base⟩
theorem ar1{α:Type}{P:List α -> Prop}(h:∀a,P [a])(us:List α)(e:us.length=1):P us:=by
 obtain⟨a,rfl⟩:=TM e;exact h a
theorem ar2{α:Type}{P:List α -> Prop}(h:∀a b,P [a,b])(us:List α)(e:us.length=2):P us:=by
 obtain⟨a,b,rfl⟩:=WH e;exact h a b
theorem ar3{α:Type}{P:List α -> Prop}(h:∀a b c,P [a,b,c])(us:List α)(e:us.length=3):P us:=by
 cases us with
 | nil=>cases e
 | cons a t=>exact ar2 (P:=fun t=>P (a::t)) (h a) t (Nat.succ.inj e)
theorem ar4{α:Type}{P:List α -> Prop}(h:∀a b c d,P [a,b,c,d])(us:List α)(e:us.length=4):P us:=by
 cases us with
 | nil=>cases e
 | cons a t=>exact ar3 (P:=fun t=>P (a::t)) (h a) t (Nat.succ.inj e)
theorem ar5{α:Type}{P:List α -> Prop}(h:∀a b c d e,P [a,b,c,d,e])(us:List α)(e:us.length=5):P us:=by
 cases us with
 | nil=>cases e
 | cons a t=>exact ar4 (P:=fun t=>P (a::t)) (h a) t (Nat.succ.inj e)
noncomputable def xok(K:Frag)(C HE:Addr)(wd:Str):Bool:=
 PySem.W.nsIn K mainGlobals wd==some (some (.ref C))&&PySem.W.excIn K C QM "ValueError.__new__" && PySem.W.nsIn K mainGlobals "HandError" == some (some (.ref HE))&&PySem.W.excIn K HE QM "ValueError.__new__" && PySem.W.mroIn K C (.ref HE)==some true&&!(C==HE)
 && PySem.W.findIn K (.ref C) "__getattribute__" == some (some (.builtin "BaseException.__getattribute__"))&&PySem.W.findIn K (.ref C) "__getattr__" == some none&&PySem.W.findIn K (.ref C) "__class__" == some (some (.builtin "object.__class__"))&&PySem.W.mroIn K C (.type "object")==some true&&PySem.W.mroIn K C (.type "BaseException")==some true
 && (PySem.W.clsIn K C).isSome&&(KH.all fun y=>match PySem.W.nsIn K mainGlobals y with|some (some (.ref a))=>PySem.W.kitOne K (.ref C) (.ref a)==some (y==wd)|_=>false)&&PySem.W.nsIn K mainGlobals "ValueError" == some none&&PySem.W.kitOne K (.ref C) (.type "ValueError")==some true
theorem QN{K:Frag}{h:Heap}{mg:Str->Option Value}{C HE:Addr}{wd:Str}(X:K.In h)(G:h.Ns mainGlobals mg)(e:xok K C HE wd=true):Exc K mg wd C/\mg "HandError" = some (.ref HE)/\(∀base,K.In base->Above base C HE)/\XW K mg C wd:=by
 simp only[xok,Bool.and_eq_true,beq_iff_eq,Bool.not_eq_true',List.all_eq_true] at e;obtain⟨⟨⟨⟨⟨⟨⟨⟨⟨⟨⟨⟨⟨⟨e1,e2⟩,e3⟩,e4⟩,e5⟩,e6⟩,e7⟩,e8⟩,e9⟩,e10⟩,e11⟩,e12⟩,e13⟩,e14⟩,e15⟩:=e;refine⟨⟨PySem.W.mg_of X G e1,e2⟩,PySem.W.mg_of X G e3,fun base hK=>OD hK e2 e4 e5 (by simpa using e6),⟨e7,e8,e9,e10,e11⟩,e12,fun y hy=>?_,PySem.W.mg_none_of X G e14,e15⟩;have q:=e13 y hy;split at q
 .rename_i a ha
  exact⟨a,PySem.W.mg_of X G ha,by simpa using q⟩
 .cases q
theorem Jk:Jo ["NoHouse","NoSet"] Bj:=by
 refine HJ ?_;repeat' (first|refine EE ?_ ?_|refine Fy ?_|refine EG ?_ ?_|refine EH ?_|exact EX (by decide))
theorem JC:Jo ["NoHouse","NoSet"] B4:=by
 refine HJ ?_;repeat' (first|refine EE ?_ ?_|refine Fy ?_|refine EG ?_ ?_|refine EH ?_|exact EX (by decide)|exact EF Jk)
theorem Ll:Jo ["NoHouse","NoSet"] BH:=by
 refine HJ ?_;repeat' (first|refine EE ?_ ?_|refine Fy ?_|refine EG ?_ ?_|refine EH ?_|exact EX (by decide)|exact EF JC)
theorem Jj:Jo ["NoHouse","NoSet"] BA:=by
 refine HJ ?_;repeat' (first|refine EE ?_ ?_|refine Fy ?_|refine EG ?_ ?_|refine EH ?_|exact EX (by decide)|exact EF Ll)
theorem HB:DJ ["NoHouse","NoSet"] Be:=by
 unfold Be;repeat' (first|refine EE ?_ ?_|refine Fy ?_|refine EG ?_ ?_|refine EH ?_|exact EF Jj)
theorem Ji:DJ ["NoHouse","NoSet"] BB:=by
 unfold BB;repeat' (first|refine EE ?_ ?_|refine Fy ?_|refine EG ?_ ?_|refine EH ?_|exact EF JC)
theorem all_mk{l:PySem.W.OpenLaw}{w:World}{K:Frag}{h:Heap}{mg:Str->Option Value}{fa:Addr}(X:K.In h)(G:h.Ns mainGlobals mg)(hfa:mg "law" = some (.ref fa))(e0:Fe K "is_pair" (top 20))(e1:Fe K "is_whole" (top 18))(e2:Fe K "is_count_of_hands" (top 29))(e3:Fe K "is_number_below" (top 19))(e4:Fe K "are_numbers_below" (top 22))(e5:Fe K "is_list_of_numbers_below" (top 21))(e6:Fe K "is_rising_list_below" (top 23))(e7:Fe K "is_small_letter" (top 32))(e8:Fe K "is_entry" (top 31))(e9:Fe K "are_entries" (top 30))(e10:Fe K "is_house" (top 28))(e11:Fe K "need_house" (top 33))(e12:Fe K "is_word_of_set" (top 85))(e13:Fe K "parts_behind" (top 86))(e14:Fe K "is_tuple_of_set" (top 84))(e15:Fe K "letters_of" (top 34))(e16:Fe K "is_row" (top 37))(e17:Fe K "is_row_of_set" (top 87))(e18:Fe K "is_set" (top 83))(e19:Fe K "_law_bag" (top 98))(e20:Fe K "_law_take" (top 94))(e21:Fe K "_law_house" (top 100))(e22:Fe K "_law_word_row" (top 95))(e23:Fe K "_law_chain" (top 102))(e24:Fe K "_law_odd_row" (top 96))(e25:Fe K "_law_odd" (top 103))(e26:Fe K "_law_odd_house" (top 101))(e27:Fe K "_law_cell" (top 99))(e28:Fe K "_law_refused" (top 104))(e29:Fe K "_law_known" (top 105))(e30:Fe K "law" (top 106))(e_need_set:Fe K "need_set" (top 88))(e_machine_of:Fe K "machine_of" (top 89))(e__law_word:Fe K "_law_word" (top 97)){t_FEWEST_HANDS:Tok}(i_FEWEST_HANDS:PySem.W.nsIn K mainGlobals "FEWEST_HANDS" = some (some (.int 2 t_FEWEST_HANDS))){t_MOST_HANDS:Tok}(i_MOST_HANDS:PySem.W.nsIn K mainGlobals "MOST_HANDS" = some (some (.int 4 t_MOST_HANDS))){t_MOST_LETTERS:Tok}(i_MOST_LETTERS:PySem.W.nsIn K mainGlobals "MOST_LETTERS" = some (some (.int 6 t_MOST_LETTERS))){t_MOST_LETTERS_OF_ROWS:Tok}(i_MOST_LETTERS_OF_ROWS:PySem.W.nsIn K mainGlobals "MOST_LETTERS_OF_ROWS" = some (some (.int 4 t_MOST_LETTERS_OF_ROWS))){t_MOST_ROWS:Tok}(i_MOST_ROWS:PySem.W.nsIn K mainGlobals "MOST_ROWS" = some (some (.int 5 t_MOST_ROWS))){t_MOST_TUPLES:Tok}(i_MOST_TUPLES:PySem.W.nsIn K mainGlobals "MOST_TUPLES" = some (some (.int 12 t_MOST_TUPLES)))(z_isinstance:PySem.W.nsIn K mainGlobals "isinstance" = some none)(z_len:PySem.W.nsIn K mainGlobals "len" = some none)(z_all:PySem.W.nsIn K mainGlobals "all" = some none)(z_any:PySem.W.nsIn K mainGlobals "any" = some none)(z_range:PySem.W.nsIn K mainGlobals "range" = some none)(z_list:PySem.W.nsIn K mainGlobals "list" = some none)(z_int:PySem.W.nsIn K mainGlobals "int" = some none)(z_bool:PySem.W.nsIn K mainGlobals "bool" = some none)(z_tuple:PySem.W.nsIn K mainGlobals "tuple" = some none)(z_str:PySem.W.nsIn K mainGlobals "str" = some none)(z_abs:PySem.W.nsIn K mainGlobals "abs" = some none)(z_max:PySem.W.nsIn K mainGlobals "max" = some none)(z_min:PySem.W.nsIn K mainGlobals "min" = some none)(z_dict:PySem.W.nsIn K mainGlobals "dict" = some none)(z_sorted:PySem.W.nsIn K mainGlobals "sorted" = some none)(z_set:PySem.W.nsIn K mainGlobals "set" = some none)(z_enumerate:PySem.W.nsIn K mainGlobals "enumerate" = some none)(z_zip:PySem.W.nsIn K mainGlobals "zip" = some none)(z_reversed:PySem.W.nsIn K mainGlobals "reversed" = some none){c_law b_law:Addr}(ht_law:PySem.W.tabIn K "law" = some (c_law,b_law))(hh_law:PySem.W.codeHdIn K c_law b_law=true)(j_PARTS_BEHIND:GE0 K w "PARTS_BEHIND" [(Str.ofString "row",1),(Str.ofString "again",1),(Str.ofString "not",1),(Str.ofString "either",2),(Str.ofString "both",2),(Str.ofString "then",2)])(j_ROW_WORDS:GT0 K "ROW_WORDS" [Str.ofString "row",Str.ofString "again"]){HE:Addr}{C_NoHouse:Addr}(hx_NoHouse:xok K C_NoHouse HE "NoHouse" = true){C_NoSet:Addr}(hx_NoSet:xok K C_NoSet HE "NoSet" = true): ∃fd:FuncData,(∀(s:Shared) (v:Value),BindsTo s fd ⟨[v],[]⟩ [("_law_script",v)])/\∀base:Heap,K.In base->base.Ns mainGlobals mg->FnOk l.prog w K mg base CX0 16 fa fd ["_law_script"] (spJ K G0 1):=by
 have z {n:Str} (e:PySem.W.nsIn K mainGlobals n=some none):=PySem.W.mg_none_of X G e;have B:Blt mg K:=⟨z z_isinstance,z z_len,z z_all,z z_any,z z_range,z z_list,z z_int,z z_bool,z z_tuple,z z_str,z z_abs,z z_max,z z_min,z z_dict⟩;have B2:Blt2 mg:=⟨z z_sorted,z z_set,z z_enumerate,z z_zip,z z_reversed⟩;have BE:=VE X G j_PARTS_BEHIND;have Fh:=VF X G j_ROW_WORDS;have DT:GInt mg "FEWEST_HANDS" 2:=⟨⟨_,PySem.W.mg_of X G i_FEWEST_HANDS⟩⟩;have EO:GInt mg "MOST_HANDS" 4:=⟨⟨_,PySem.W.mg_of X G i_MOST_HANDS⟩⟩;have DU:GInt mg "MOST_LETTERS" 6:=⟨⟨_,PySem.W.mg_of X G i_MOST_LETTERS⟩⟩;have BK:GInt mg "MOST_LETTERS_OF_ROWS" 4:=⟨⟨_,PySem.W.mg_of X G i_MOST_LETTERS_OF_ROWS⟩⟩;have Fg:GInt mg "MOST_ROWS" 5:=⟨⟨_,PySem.W.mg_of X G i_MOST_ROWS⟩⟩;have Eg:GInt mg "MOST_TUPLES" 12:=⟨⟨_,PySem.W.mg_of X G i_MOST_TUPLES⟩⟩;have DD:=df l.prog w X G e0 (fun F s=>Mt F B B2) fun _ _ _ _ _ _=>ar1 fun _=>rfl;have CZ:=df l.prog w X G e1 (fun F s=>Li F B B2) fun _ _ _ _ _ _=>ar1 fun _=>rfl;have B9:=df l.prog w X G e2 (fun F s=>Fo F B B2 (CZ s) DT EO) fun _ _ _ _ _ _=>ar1 fun _=>rfl;have CF:=df l.prog w X G e3 (fun F s=>F5 F B B2 (CZ s)) fun _ _ _ _ _ _=>ar2 fun _ _=>rfl;have B8:=df l.prog w X G e4 (fun F s=>Fm F B B2 (CF s)) fun _ _ _ _ _ _=>ar2 fun _ _=>rfl;have Bk:=df l.prog w X G e5 (fun F s=>Dz F B B2 (B8 s)) fun _ _ _ _ _ _=>ar2 fun _ _=>rfl;have BI:=df l.prog w X G e6 (fun F s=>ED F B B2 (Bk s)) fun _ _ _ _ _ _=>ar2 fun _ _=>rfl;have CG:=df l.prog w X G e7 (fun F s=>F6 F B B2) fun _ _ _ _ _ _=>ar1 fun _=>rfl
 have FR:=df l.prog w X G e8 (fun F s=>Lg F B B2 (BI s) (DD s) (CG s)) fun _ _ _ _ _ _=>ar2 fun _ _=>rfl;have Ea:=df l.prog w X G e9 (fun F s=>Ik F B B2 (FR s) DU) fun _ _ _ _ _ _=>ar2 fun _ _=>rfl;have CY:=df l.prog w X G e10 (fun F s=>Lh F B B2 (DD s) (B9 s) (Ea s)) fun _ _ _ _ _ _=>ar1 fun _=>rfl;have B1:=df l.prog w X G e11 (fun F s=>Jh F B B2 (CY s)) fun _ _ _ _ _ _=>ar1 fun _=>rfl;have C0:=df l.prog w X G e12 (fun F s=>Gz F B B2 BE) fun _ _ _ _ _ _=>ar1 fun _=>rfl;have DI:=df l.prog w X G e13 (fun F s=>HA F B B2 BE) fun _ _ _ _ _ _=>ar1 fun _=>rfl;have CH:=df l.prog w X G e14 (fun F s=>F7 F B B2 (C0 s) (DI s)) fun _ _ _ _ _ _=>ar1 fun _=>rfl;have EM:=df l.prog w X G e15 (fun F s=>Jg F B B2) fun _ _ _ _ _ _=>ar1 fun _=>rfl;have HN:=df l.prog w X G e16 (fun F s=>N4 F B B2 (B1 s) (EM s)) fun _ _ _ _ _ _=>ar2 fun _ _=>rfl;have Dn:=df l.prog w X G e17 (fun F s=>Hb F B B2 (HN s) BK) fun _ _ _ _ _ _=>ar2 fun _ _=>rfl;have DH:=df l.prog w X G e18 (fun F s=>N5 F B B2 (B1 s) (CH s) (Dn s) Fg Eg Fh) fun _ _ _ _ _ _=>ar2 fun _ _=>rfl;have FP:=df l.prog w X G e19 (fun F s=>Ld F B B2) fun _ _ _ _ _ _=>ar1 fun _=>rfl;have Ao:=df l.prog w X G e20 (fun F s=>Kj F B B2) fun _ _ _ _ _ _=>ar2 fun _ _=>rfl;have EK:=df l.prog w X G e21 (fun F s=>Je F B B2 (Ao s)) fun _ _ _ _ _ _=>ar1 fun _=>rfl;have Dm:=df l.prog w X G e22 (fun F s=>Ha F B B2 (Ao s)) fun _ _ _ _ _ _=>ar3 fun _ _ _=>rfl;have Dy:=df l.prog w X G e23 (fun F s=>Jd F B B2 (Dm s) (Ao s)) fun _ _ _ _ _ _=>ar5 fun _ _ _ _ _=>rfl;have DG:=df l.prog w X G e24 (fun F s=>Hy F B B2 (Ao s)) fun _ _ _ _ _ _=>ar2 fun _ _=>rfl
 have FQ:=df l.prog w X G e25 (fun F s=>Le F B B2 (DG s) (Ao s)) fun _ _ _ _ _ _=>ar2 fun _ _=>rfl;have CW:=df l.prog w X G e26 (fun F s=>Gw F B B2 (Ao s)) fun _ _ _ _ _ _=>ar1 fun _=>rfl;have E8:=df l.prog w X G e27 (fun F s=>Ki F B B2) fun _ _ _ _ _ _=>ar2 fun _ _=>rfl;obtain⟨X_NoHouse,hHE,hab_NoHouse,W_NoHouse⟩:=QN X G hx_NoHouse;obtain⟨X_NoSet,hHE,hab_NoSet,W_NoSet⟩:=QN X G hx_NoSet;obtain⟨fw,fdw,aw,Fw⟩:=e__law_word;have DR_need_house:=df (sp:=spR K (fun(y:Str)=>if y = "NoHouse" then C_NoHouse else C_NoSet) Bj 1) l.prog w X G e11 (fun F s=>Ii F B B2 (CY s) X_NoHouse) (fun _ _ _ _ _ _=>ar1 fun _=>rfl);have DR_is_set:=df (sp:=spR K (fun(y:Str)=>if y = "NoHouse" then C_NoHouse else C_NoSet) B4 2) l.prog w X G e18 (fun F s=>Ms F B B2 (DR_need_house s)) (fun _ _ _ _ _ _=>ar2 fun _ _=>rfl);have DR_need_set:=df (sp:=spR K (fun(y:Str)=>if y = "NoHouse" then C_NoHouse else C_NoSet) BH 2) l.prog w X G e_need_set (fun F s=>Kh F B B2 (DH s) (DR_is_set s) X_NoSet) (fun _ _ _ _ _ _=>ar2 fun _ _=>rfl);have DR_machine_of:=df (sp:=spR K (fun(y:Str)=>if y = "NoHouse" then C_NoHouse else C_NoSet) BA 2) l.prog w X G e_machine_of (fun F s=>Ih F B B2 (DR_need_set s)) (fun _ _ _ _ _ _=>ar2 fun _ _=>rfl);obtain⟨f__law_refused,fd__law_refused,a__law_refused,F__law_refused⟩:=e28;have CD:∀base,K.In base->Def l.prog w K mg base CX0 15 "_law_refused" ["_law_house_here","_law_one"] (spJ K A0 2):=fun base hK=>⟨f__law_refused,fd__law_refused,PySem.W.mg_of X G a__law_refused,F__law_refused.kp,F__law_refused.binds (fun _ _ _ _ _ _=>ar2 fun _ _=>rfl),Hz (XC:=fun(y:Str)=>if y = "NoHouse" then C_NoHouse else C_NoSet) (words:=["NoHouse","NoSet"]) (jw:=fun(y:Str)=>if y = "NoHouse" then 0 else 10) F__law_refused B B2 (DR_machine_of base) hHE (List.forall_mem_cons.mpr ⟨⟨fw,fdw,PySem.W.mg_of X G aw,Fw.kp,Fw.binds (fun _ _ _ _ _ _=>ar1 fun _=>rfl),HH Fw B W_NoHouse dK⟩,(List.forall_mem_cons.mpr ⟨⟨fw,fdw,PySem.W.mg_of X G aw,Fw.kp,Fw.binds (fun _ _ _ _ _ _=>ar1 fun _=>rfl),HH Fw B W_NoSet dK⟩,(fun _ z=>nomatch z)⟩)⟩) HB (List.forall_mem_cons.mpr ⟨⟨hab_NoHouse base hK,dK,fun a o q=>FL q⟩,(List.forall_mem_cons.mpr ⟨⟨hab_NoSet base hK,dK,fun a o q=>Hu q⟩,(fun _ z=>nomatch z)⟩)⟩)⟩
 obtain⟨f__law_known,fd__law_known,a__law_known,F__law_known⟩:=e29;have EL:∀base,K.In base->Def l.prog w K mg base CX0 11 "_law_known" ["_law_house_here","_law_one"] (spJ K BO 2):=fun base hK=>⟨f__law_known,fd__law_known,PySem.W.mg_of X G a__law_known,F__law_known.kp,F__law_known.binds (fun _ _ _ _ _ _=>ar2 fun _ _=>rfl),Jf (XC:=fun(y:Str)=>if y = "NoHouse" then C_NoHouse else C_NoSet) (words:=["NoHouse","NoSet"]) (jw:=fun(y:Str)=>if y = "NoHouse" then 0 else 10) F__law_known B B2 (DR_is_set base) hHE (List.forall_mem_cons.mpr ⟨⟨fw,fdw,PySem.W.mg_of X G aw,Fw.kp,Fw.binds (fun _ _ _ _ _ _=>ar1 fun _=>rfl),HH Fw B W_NoHouse dK⟩,(List.forall_mem_cons.mpr ⟨⟨fw,fdw,PySem.W.mg_of X G aw,Fw.kp,Fw.binds (fun _ _ _ _ _ _=>ar1 fun _=>rfl),HH Fw B W_NoSet dK⟩,(fun _ z=>nomatch z)⟩)⟩) Ji (List.forall_mem_cons.mpr ⟨⟨hab_NoHouse base hK,dK,fun a o q=>FL q⟩,(List.forall_mem_cons.mpr ⟨⟨hab_NoSet base hK,dK,fun a o q=>Hu q⟩,(fun _ z=>nomatch z)⟩)⟩)⟩;obtain⟨f,fd,a,F⟩:=e30;cases hfa.symm.trans (PySem.W.mg_of X G a);refine⟨fd,?_,fun s hK _=>T6 F a ht_law hh_law B B2 (FP s) (EK s) (Dy s) (FQ s) (CW s) (Ao s) (DH s) (E8 s) (CD s hK) (EL s hK)⟩;obtain⟨_,_,_,_,_,_,_,_,_,rfl,_,_⟩:=F.ex;exact fun s v=>.of_eq rfl
theorem walk{l:PySem.W.OpenLaw}{q:Program}{loose:List Str}{XP:(Str->Option Value)->Heap->Prop}{YP:World->Heap->Prop}{d:DefRec}{K:Params->Frag}(hn:l.most=some 63)(hdf:d.params.defaults=[])(hY:∀(w:World) (h:Heap),YP w h->(K w.params).In h)(F:∀(w:World) (mg:Str->Option Value) (fa:Addr) (h:Heap),(K w.params).In h->h.Ns mainGlobals mg->mg d.name=some (.ref fa) ->
   ∃fd:FuncData,(∀(s:Shared) (u:Value),BindsTo s fd ⟨[u],[]⟩ [("_law_script",u)])/\∀base:Heap,(K w.params).In base->base.Ns mainGlobals mg->FnOk l.prog w (K w.params) mg base CX0 16 fa fd ["_law_script"] (spJ (K w.params) G0 1))(hT:∀(w:World) (n qn:Str),(n,qn)∈Kc->∀(c b:Addr),PySem.W.tabIn (K w.params) n=some (c,b)->(∃d2,(recsOf q).find? (fun e=>e.name==n)=some d2)/\(K w.params).lookup b=none)(hU:∀w:World,OA (K w.params)):
  PySem.W.WalkO q loose XP YP l.row.toRowW d [] (fun f vs=>PySem.call f vs):=
 L2.Su (n:=63) (k:=16) (x := "_law_script") (CX:=fun _=>CX0) (sp:=fun w=>spJ (K w.params) G0 1) hn (by decide) hdf ⟨rfl,by decide,by decide⟩ hY F (fun _ H a ns hl hO hS=>let⟨_,e⟩:=Pp ns hl; TL hl hO hS e) (fun _ _ _ _ _ z=>z) hT hU
noncomputable def fo(n:Str)(i:Nat)(m:Str)(t:Tok)(c:Addr):Obj:={ cls:=.type "function",data:=.func (PySem.W.fnOf n n (D3 (top i)) (BJ (top i)) (Ar (top i)) .none .none .none (.str m t) none (.ref c) .none) }
noncomputable def co(n:Str)(t:Nat)(l k:Int)(r:Nat)(x y:Value)(q:Nat)(u:Int)(v:Nat):Obj:={ cls:=.type "code",data:=.fields #[.str n t,.str n (t+1),.str "/claim/cut.py" (t+2),.int l 0,.int k 0,.int 0 0,.int 0 0,.int 3 0,.ref r,.bool true,.int 181 0,.ref (r+1),.none,x,y,.ref q,.int u 0,.int l 0,.str "/claim/cut.py" v] }
noncomputable def tu(its:Array Value):Obj:={ cls:=.type "tuple",data:=.seq its }
noncomputable def en(P:Params)(n:Str)(t:Tok)(v:Value):DictEntry:=⟨PyData.keyHash P n,.str n t,v⟩
noncomputable def kc(n:Str)(bs m:List Value)(ns:Addr)(sb:List Value)(b:Addr)(t u:Tok):Obj:={ cls:=.type "type",data:=.cls { name:=n,bases:=bs,mro:=m++[.type "ValueError",.type "Exception",.type "BaseException",.type "object"],ns:=ns,qualname:=n,subclasses:=sb },slots:=#[some (.ref b),none,some (.str n t),some (.str n u),some (.builtin "ValueError.__new__"),some (.bool true)] }
noncomputable def nd(es:Array DictEntry)(ep:Nat):Obj:={ cls:=.type "dict",data:=.dict es ep }
noncomputable def gE(P:Params):List DictEntry:=[en P "__name__" 165 (.str "law_handsapart_k59_sets_known" 1035),
 en P "__doc__" 166 .none,
 en P "__package__" 167 .none,
 en P "__loader__" 168 (.builtin "__main__.__loader__#opaque"),
 en P "__spec__" 169 .none,
 en P "__annotations__" 170 (.ref 6),
 en P "__builtins__" 171 (.ref 4),
 en P "__file__" 173 (.str "/claim/cut.py" 172),
 en P "__cached__" 174 .none,
 en P "HandError" 206 (.ref 24),
 en P "NoHouse" 222 (.ref 37),
 en P "NoRow" 238 (.ref 49),
 en P "NoMachine" 254 (.ref 61),
 en P "NoRoom" 270 (.ref 73),
 en P "NoHand" 286 (.ref 85),
 en P "Unlike" 302 (.ref 97),
 en P "NoPast" 318 (.ref 109),
 en P "TooMany" 334 (.ref 121),
 en P "Torn" 361 (.ref 140),
 en P "NoTable" 377 (.ref 152),
 en P "NoSet" 393 (.ref 164),
 en P "Falls" 418 (.ref 183),
 en P "Whole" 434 (.ref 195),
 en P "NoText" 450 (.ref 207),
 en P "NoWord" 466 (.ref 219),
 en P "is_whole" 475 (.ref 228),
 en P "is_number_below" 483 (.ref 235),
 en P "is_pair" 490 (.ref 242),
 en P "is_list_of_numbers_below" 498 (.ref 249),
 en P "are_numbers_below" 504 (.ref 254),
 en P "is_rising_list_below" 510 (.ref 259),
 en P "FEWEST_HANDS" 514 (.int 2 513),
 en P "MOST_HANDS" 516 (.int 4 515),
 en P "MOST_LETTERS" 518 (.int 6 517),
 en P "is_house" 525 (.ref 266),
 en P "is_count_of_hands" 532 (.ref 273),
 en P "are_entries" 538 (.ref 278),
 en P "is_entry" 546 (.ref 285),
 en P "is_small_letter" 553 (.ref 292),
 en P "need_house" 560 (.ref 299),
 en P "letters_of" 566 (.ref 304),
 en P "hands_of" 574 (.ref 311),
 en P "is_hand_in_both" 580 (.ref 316),
 en P "is_row" 586 (.ref 321),
 en P "MOST_ROOMS" 590 (.int 30 589),
 en P "least_of" 596 (.ref 326),
 en P "kinds_of_rooms" 602 (.ref 331),
 en P "parted_kinds" 608 (.ref 336),
 en P "rooms_as_met" 620 (.ref 343),
 en P "seen_by" 628 (.ref 348),
 en P "seen_by_all" 634 (.ref 353),
 en P "none_seen" 643 (.ref 360),
 en P "ways_on" 649 (.ref 365),
 en P "least_grown" 657 (.ref 370),
 en P "machine_of_others" 663 (.ref 375),
 en P "machine_of_either" 674 (.ref 382),
 en P "machine_of_both" 685 (.ref 389),
 en P "machine_of_pairs" 697 (.ref 396),
 en P "machine_of_row" 703 (.ref 401),
 en P "counts_behind" 713 (.ref 408),
 en P "machine_of_repeats" 719 (.ref 413),
 en P "without_repeats" 725 (.ref 418),
 en P "least_row_of" 737 (.ref 425),
 en P "place_of_first" 746 (.ref 432),
 en P "front_places" 759 (.ref 439),
 en P "parts_of" 767 (.ref 444),
 en P "hands_hanging" 773 (.ref 449),
 en P "machine_of_then" 787 (.ref 456),
 en P "ways_met" 793 (.ref 461),
 en P "ways_behind" 799 (.ref 466),
 en P "is_lost" 805 (.ref 471),
 en P "mask_of" 811 (.ref 476),
 en P "numbers_of" 819 (.ref 483),
 en P "is_met" 827 (.ref 490),
 en P "Trial" 920 (.ref 548),
 en P "ROW_WORDS" 925 (.ref 553),
 en P "PARTS_BEHIND" 944 (.ref 554),
 en P "MOST_LETTERS_OF_ROWS" 946 (.int 4 945),
 en P "MOST_ROWS" 948 (.int 5 947),
 en P "MOST_TUPLES" 950 (.int 12 949),
 en P "MOST_ROOMS_MULTIPLIED" 952 (.int 60 951),
 en P "is_set" 964 (.ref 561),
 en P "is_tuple_of_set" 971 (.ref 568),
 en P "is_word_of_set" 978 (.ref 575),
 en P "parts_behind" 985 (.ref 582),
 en P "is_row_of_set" 993 (.ref 589),
 en P "need_set" 1001 (.ref 596),
 en P "machine_of" 1010 (.ref 603),
 en P "rows_again" 1019 (.ref 610),
 en P "machine_of_part" 1025 (.ref 615),
 en P "machine_of_machines" 1034 (.ref 622),
 en P "_law_take" 1045 (.ref 629),
 en P "_law_word_row" 1056 (.ref 636),
 en P "_law_odd_row" 1062 (.ref 641),
 en P "_law_word" 1068 (.ref 646),
 en P "_law_bag" 1075 (.ref 653),
 en P "_law_cell" 1083 (.ref 660),
 en P "_law_house" 1089 (.ref 665),
 en P "_law_odd_house" 1095 (.ref 670),
 en P "_law_chain" 1110 (.ref 677),
 en P "_law_odd" 1121 (.ref 684),
 en P "_law_refused" 1130 (.ref 691),
 en P "_law_known" 1139 (.ref 698),
 en P "law" 1157 (.ref 705)]
noncomputable def gD(P:Params):Obj:={ cls:=.type "dict",data:=.dict (gE P).toArray 104 }
noncomputable def Kf:Params->Frag:=fun P=>(nat_lit 3,gD P) ::
 (nat_lit 23,nd #[en P "__module__" 196 (.str "handsapart.errors" 187),en P "__firstlineno__" 200 (.int 2 199),en P "__static_attributes__" 201 (.ref 22),en P "__weakref__" 203 (.ref 25),en P "__doc__" 204 .none] 3) ::
 (nat_lit 24,kc "HandError" [.type "ValueError"] [.ref 24] 23 [.ref 37,.ref 49,.ref 61,.ref 73,.ref 85,.ref 97,.ref 109,.ref 121,.ref 140,.ref 152,.ref 164,.ref 183,.ref 195,.ref 207,.ref 219] 15 189 197) ::
 (nat_lit 36,nd #[en P "__module__" 214 (.str "handsapart.errors" 187),en P "__firstlineno__" 218 (.int 4 217),en P "__static_attributes__" 219 (.ref 35),en P "__doc__" 220 .none] 2) ::
 (nat_lit 37,kc "NoHouse" [.ref 24] [.ref 37,.ref 24] 36 [] 28 207 215) ::
 (nat_lit 49,kc "NoRow" [.ref 24] [.ref 49,.ref 24] 48 [] 40 223 231) ::
 (nat_lit 61,kc "NoMachine" [.ref 24] [.ref 61,.ref 24] 60 [] 52 239 247) ::
 (nat_lit 73,kc "NoRoom" [.ref 24] [.ref 73,.ref 24] 72 [] 64 255 263) ::
 (nat_lit 85,kc "NoHand" [.ref 24] [.ref 85,.ref 24] 84 [] 76 271 279) ::
 (nat_lit 97,kc "Unlike" [.ref 24] [.ref 97,.ref 24] 96 [] 88 287 295) ::
 (nat_lit 109,kc "NoPast" [.ref 24] [.ref 109,.ref 24] 108 [] 100 303 311) ::
 (nat_lit 121,kc "TooMany" [.ref 24] [.ref 121,.ref 24] 120 [] 112 319 327) ::
 (nat_lit 140,kc "Torn" [.ref 24] [.ref 140,.ref 24] 139 [] 124 335 343) ::
 (nat_lit 152,kc "NoTable" [.ref 24] [.ref 152,.ref 24] 151 [] 143 362 370) ::
 (nat_lit 163,nd #[en P "__module__" 385 (.str "handsapart.errors" 187),en P "__firstlineno__" 389 (.int 27 388),en P "__static_attributes__" 390 (.ref 162),en P "__doc__" 391 .none] 2) ::
 (nat_lit 164,kc "NoSet" [.ref 24] [.ref 164,.ref 24] 163 [] 155 378 386) ::
 (nat_lit 183,kc "Falls" [.ref 24] [.ref 183,.ref 24] 182 [] 167 394 402) ::
 (nat_lit 195,kc "Whole" [.ref 24] [.ref 195,.ref 24] 194 [] 186 419 427) ::
 (nat_lit 207,kc "NoText" [.ref 24] [.ref 207,.ref 24] 206 [] 198 435 443) ::
 (nat_lit 219,kc "NoWord" [.ref 24] [.ref 219,.ref 24] 218 [] 210 451 459) ::
 (nat_lit 227,co "is_whole" 469 40 1 222 (.ref 224) (.ref 225) 226 473 474) ::
 (nat_lit 228,fo "is_whole" 18 "handsapart.checks" 467 227) ::
 (nat_lit 234,co "is_number_below" 476 42 2 229 (.ref 231) (.ref 232) 233 481 482) ::
 (nat_lit 235,fo "is_number_below" 19 "handsapart.checks" 467 234) ::
 (nat_lit 241,co "is_pair" 484 44 1 236 (.ref 238) (.ref 239) 240 488 489) ::
 (nat_lit 242,fo "is_pair" 20 "handsapart.checks" 467 241) ::
 (nat_lit 248,co "is_list_of_numbers_below" 491 46 2 243 (.ref 245) (.ref 246) 247 496 497) ::
 (nat_lit 249,fo "is_list_of_numbers_below" 21 "handsapart.checks" 467 248) ::
 (nat_lit 253,co "are_numbers_below" 499 48 2 250 .none .none 252 502 503) ::
 (nat_lit 254,fo "are_numbers_below" 22 "handsapart.checks" 467 253) ::
 (nat_lit 258,co "is_rising_list_below" 505 50 2 255 .none .none 257 508 509) ::
 (nat_lit 259,fo "is_rising_list_below" 23 "handsapart.checks" 467 258) ::
 (nat_lit 265,co "is_house" 519 58 1 260 (.ref 262) (.ref 263) 264 523 524) ::
 (nat_lit 266,fo "is_house" 28 "handsapart.houses" 511 265) ::
 (nat_lit 272,co "is_count_of_hands" 526 62 1 267 (.ref 269) (.ref 270) 271 530 531) ::
 (nat_lit 273,fo "is_count_of_hands" 29 "handsapart.houses" 511 272) ::
 (nat_lit 277,co "are_entries" 533 64 2 274 .none .none 276 536 537) ::
 (nat_lit 278,fo "are_entries" 30 "handsapart.houses" 511 277) ::
 (nat_lit 284,co "is_entry" 539 70 2 279 (.ref 281) (.ref 282) 283 544 545) ::
 (nat_lit 285,fo "is_entry" 31 "handsapart.houses" 511 284) ::
 (nat_lit 291,co "is_small_letter" 547 74 1 286 (.ref 288) (.ref 289) 290 551 552) ::
 (nat_lit 292,fo "is_small_letter" 32 "handsapart.houses" 511 291) ::
 (nat_lit 298,co "need_house" 554 76 1 293 (.ref 295) (.ref 296) 297 558 559) ::
 (nat_lit 299,fo "need_house" 33 "handsapart.houses" 511 298) ::
 (nat_lit 303,co "letters_of" 561 79 1 300 .none .none 302 564 565) ::
 (nat_lit 304,fo "letters_of" 34 "handsapart.houses" 511 303) ::
 (nat_lit 320,co "is_row" 581 85 2 317 .none .none 319 584 585) ::
 (nat_lit 321,fo "is_row" 37 "handsapart.houses" 511 320) ::
 (nat_lit 553,tu #[.str "row" 923,.str "again" 924]) ::
 (nat_lit 554,nd #[en P "row" 926 (.int 1 927),en P "again" 928 (.int 1 929),en P "not" 930 (.int 1 931),en P "either" 932 (.int 2 933),en P "both" 934 (.int 2 935),en P "then" 936 (.int 2 937)] 6) ::
 (nat_lit 560,co "is_set" 953 344 2 555 (.ref 557) (.ref 558) 559 962 963) ::
 (nat_lit 561,fo "is_set" 83 "handsapart.sets" 921 560) ::
 (nat_lit 567,co "is_tuple_of_set" 965 361 1 562 (.ref 564) (.ref 565) 566 969 970) ::
 (nat_lit 568,fo "is_tuple_of_set" 84 "handsapart.sets" 921 567) ::
 (nat_lit 574,co "is_word_of_set" 972 365 1 569 (.ref 571) (.ref 572) 573 976 977) ::
 (nat_lit 575,fo "is_word_of_set" 85 "handsapart.sets" 921 574) ::
 (nat_lit 581,co "parts_behind" 979 367 1 576 (.ref 578) (.ref 579) 580 983 984) ::
 (nat_lit 582,fo "parts_behind" 86 "handsapart.sets" 921 581) ::
 (nat_lit 588,co "is_row_of_set" 986 369 2 583 (.ref 585) (.ref 586) 587 991 992) ::
 (nat_lit 589,fo "is_row_of_set" 87 "handsapart.sets" 921 588) ::
 (nat_lit 595,co "need_set" 994 371 2 590 (.ref 592) (.ref 593) 594 999 1000) ::
 (nat_lit 596,fo "need_set" 88 "handsapart.sets" 921 595) ::
 (nat_lit 602,co "machine_of" 1002 374 2 597 (.ref 599) (.ref 600) 601 1008 1009) ::
 (nat_lit 603,fo "machine_of" 89 "handsapart.sets" 921 602) ::
 (nat_lit 628,co "_law_take" 1037 408 2 623 (.ref 625) (.ref 626) 627 1043 1044) ::
 (nat_lit 629,fo "_law_take" 94 "law_handsapart_k59_sets_known" 1035 628) ::
 (nat_lit 635,co "_law_word_row" 1046 416 3 630 (.ref 632) (.ref 633) 634 1054 1055) ::
 (nat_lit 636,fo "_law_word_row" 95 "law_handsapart_k59_sets_known" 1035 635) ::
 (nat_lit 640,co "_law_odd_row" 1057 421 2 637 .none .none 639 1060 1061) ::
 (nat_lit 641,fo "_law_odd_row" 96 "law_handsapart_k59_sets_known" 1035 640) ::
 (nat_lit 645,co "_law_word" 1063 429 1 642 .none .none 644 1066 1067) ::
 (nat_lit 646,fo "_law_word" 97 "law_handsapart_k59_sets_known" 1035 645) ::
 (nat_lit 652,co "_law_bag" 1069 440 1 647 (.ref 649) (.ref 650) 651 1073 1074) ::
 (nat_lit 653,fo "_law_bag" 98 "law_handsapart_k59_sets_known" 1035 652) ::
 (nat_lit 659,co "_law_cell" 1076 444 2 654 (.ref 656) (.ref 657) 658 1081 1082) ::
 (nat_lit 660,fo "_law_cell" 99 "law_handsapart_k59_sets_known" 1035 659) ::
 (nat_lit 664,co "_law_house" 1084 448 1 661 .none .none 663 1087 1088) ::
 (nat_lit 665,fo "_law_house" 100 "law_handsapart_k59_sets_known" 1035 664) ::
 (nat_lit 669,co "_law_odd_house" 1090 462 1 666 .none .none 668 1093 1094) ::
 (nat_lit 670,fo "_law_odd_house" 101 "law_handsapart_k59_sets_known" 1035 669) ::
 (nat_lit 676,co "_law_chain" 1096 470 5 671 (.ref 673) (.ref 674) 675 1108 1109) ::
 (nat_lit 677,fo "_law_chain" 102 "law_handsapart_k59_sets_known" 1035 676) ::
 (nat_lit 683,co "_law_odd" 1111 479 2 678 (.ref 680) (.ref 681) 682 1119 1120) ::
 (nat_lit 684,fo "_law_odd" 103 "law_handsapart_k59_sets_known" 1035 683) ::
 (nat_lit 690,co "_law_refused" 1122 488 2 685 (.ref 687) (.ref 688) 689 1128 1129) ::
 (nat_lit 691,fo "_law_refused" 104 "law_handsapart_k59_sets_known" 1035 690) ::
 (nat_lit 697,co "_law_known" 1131 494 2 692 (.ref 694) (.ref 695) 696 1137 1138) ::
 (nat_lit 698,fo "_law_known" 105 "law_handsapart_k59_sets_known" 1035 697) ::
 (nat_lit 704,co "law" 1140 499 1 699 (.ref 701) (.ref 702) 703 1155 1156) ::
 (nat_lit 705,fo "law" 106 "law_handsapart_k59_sets_known" 1035 704)::[]
theorem Kx(P:Params):PySem.W.tabIn (Kf P) "law" = some (nat_lit 704,nat_lit 700):=by kernel_rfl
theorem Te(P:Params):PySem.W.codeHdIn (Kf P) (nat_lit 704) (nat_lit 700)=true:=by kernel_rfl
theorem T1(P:Params):(Kf P).lookup (nat_lit 700)=none:=by kernel_rfl
theorem LF(P:Params):PySem.W.tabIn (Kf P) "place_of_first" = none:=by kernel_rfl
theorem SO(P:Params){n q:Str}{c b:Addr}(h:(n,q)∈Kc)(e:PySem.W.tabIn (Kf P) n=some (c,b)):q=Kb/\b=700:=by
 rcases List.mem_cons.mp h with h|h
 .cases h
  rw[Kx P] at e;cases e;exact⟨rfl,rfl⟩
 .rcases List.mem_cons.mp h with h|h
  .cases h
   rw[LF P] at e;cases e
  .cases h
theorem Wq(P:Params):OA (Kf P):=fun n q n2 q2 c c2 b h h2 e e2=>by
 rw[(SO P h e).1,(SO P h2 e2).1]
theorem Gu(w:World):GE0 (Kf w.params) w "PARTS_BEHIND" [(Str.ofString "row",1),(Str.ofString "again",1),(Str.ofString "not",1),(Str.ofString "either",2),(Str.ofString "both",2),(Str.ofString "then",2)]:=⟨nat_lit 554,by kernel_rfl,by decide,nd #[en w.params "row" 926 (.int 1 927),en w.params "again" 928 (.int 1 929),en w.params "not" 930 (.int 1 931),en w.params "either" 932 (.int 2 933),en w.params "both" 934 (.int 2 935),en w.params "then" 936 (.int 2 937)] 6,#[en w.params "row" 926 (.int 1 927),en w.params "again" 928 (.int 1 929),en w.params "not" 930 (.int 1 931),en w.params "either" 932 (.int 2 933),en w.params "both" 934 (.int 2 935),en w.params "then" 936 (.int 2 937)],6,[(.str (Str.ofString "row"),.str "row" 926,.int 1 927),(.str (Str.ofString "again"),.str "again" 928,.int 1 929),(.str (Str.ofString "not"),.str "not" 930,.int 1 931),(.str (Str.ofString "either"),.str "either" 932,.int 2 933),(.str (Str.ofString "both"),.str "both" 934,.int 2 935),(.str (Str.ofString "then"),.str "then" 936,.int 2 937)],(by kernel_rfl),⟨rfl,rfl,rfl⟩,rfl,rfl,.cons ⟨rfl,⟨_,rfl⟩,⟨_,rfl⟩⟩ (.cons ⟨rfl,⟨_,rfl⟩,⟨_,rfl⟩⟩ (.cons ⟨rfl,⟨_,rfl⟩,⟨_,rfl⟩⟩ (.cons ⟨rfl,⟨_,rfl⟩,⟨_,rfl⟩⟩ (.cons ⟨rfl,⟨_,rfl⟩,⟨_,rfl⟩⟩ (.cons ⟨rfl,⟨_,rfl⟩,⟨_,rfl⟩⟩ (.nil)))))),by decide,by decide,by decide⟩
theorem Ib(P:Params):GT0 (Kf P) "ROW_WORDS" [Str.ofString "row",Str.ofString "again"]:=⟨nat_lit 553,by kernel_rfl,⟨_,#[.str "row" 923,.str "again" 924],0,(by kernel_rfl:(Kf P).lookup (nat_lit 553)=some (tu #[.str "row" 923,.str "again" 924])),rfl,rfl,by decide,.cons ⟨_,rfl⟩ (.cons ⟨_,rfl⟩ (.nil))⟩,by decide⟩
theorem KG(P:Params):xok (Kf P) (nat_lit 37) (nat_lit 24) "NoHouse" = true:=by kernel_rfl
theorem M0(P:Params):xok (Kf P) (nat_lit 164) (nat_lit 24) "NoSet" = true:=by kernel_rfl
end Gk59
namespace PySem.W.Fast
def tw2209984141763163412:=0
def tw4442966960254782661:=0
def tw1397992551433557249:=0
def tw12904438196322579850:=0
def tw1564902464388295381:=0
def tw11515291448162128400:=0
def tw8832361903308423167:=0
def tw9290349845326099753:=0
def tw16834049994839991776:=0
def tw6298995904913616691:=0
def tw10523950569663088591:=0
def tw6464864436792856162:=0
def tw7508142803628637907:=0
def tw16310148263360962458:=0
def tw13395536299659892562:=0
def tw14709033099311292628:=0
def tw15949948705869572858:=0
def tw9288060574409851307:=0
def tw9361928128751023581:=0
def tw14069732842330201770:=0
def tw1909552802397080513:=0
def tw13027242466915701581:=0
def tw6552246758799345933:=0
def tw13458600766421648350:=0
def tw3110760816105192521:=0
def tw1117398606240085583:=0
def tw3907887196026718715:=0
def tw15552224408259083588:=0
def tw17229326859639806775:=0
def tw16409082553178746552:=0
def tw14849851914853818629:=0
def tw12697952954768220555:=0
def tw6950464466816459850:=0
def tw1580245111967871579:=0
def tw17614150989778083363:=0
def tw6483886357060609481:=0
def tw11450289705282904428:=0
def tw120545532765034251:=0
def tw374967953509655541:=0
def tw663114132751374596:=0
def tw6768807732296990452:=0
def tw13618213626310245495:=0
def tw2980661036370772541:=0
def tw7261118371573103919:=0
def tw6063523171667842898:=0
def tw337326410023212859:=0
def tw6393863947883512054:=0
def tw2934496489380430580:=0
def tw1364670736208419191:=0
def tw8219775384322689928:=0
def tw8404546997244784125:=0
def tw1883627074399884059:=0
def tw12203454060469558057:=0
def tw15009217880268051576:=0
def tw14782792883972880532:=0
def tw3528426414827376800:=0
def tw2710374709674556399:=0
def tw5445787535078967949:=0
def tw8525085566329327400:=0
def tw15655621154179740679:=0
def tw14704860375360170139:=0
def tw10937705699812551605:=0
def tw15219932802956562491:=0
def tw3962734495411521223:=0
def tw12423970604886207694:=0
def tw1826165035109694715:=0
def tw13772604872836625051:=0
def tw8119986512900805379:=0
def tw16460895646490850386:=0
def tw17782936697602474281:=0
def tw9598391259095687830:=0
def tw8712185130930317733:=0
def tw12006452810421633531:=0
def tw5126923992971107907:=0
def tw5870349832242713685:=0
def tw483187193666425804:=0
def tw10178340948896884625:=0
def tw6881953003462806531:=0
def tw13313515380969377844:=0
def tw15892865628794813273:=0
def tw9706591383993464580:=0
def tw16184025962410669103:=0
def tw11329280212151366757:=0
def tw6263366739285501314:=0
def tw11785160477156252177:=0
def tw7890371084264574869:=0
def tw8043822548568215485:=0
def tw11690242682452699728:=0
def tw4724114790137849570:=0
def tw17566168879675701599:=0
def tw16772264553935474401:=0
def tw5590790357335364412:=0
def tw14879633447922902729:=0
def tw15418018235534174118:=0
def tw10829168907350374904:=0
def tw3103283773360512372:=0
def tw6701579300240826860:=0
def tw8477272762671149463:=0
def tw4239128176564381212:=0
def tw5871297579126587068:=0
def tw16967622965696010348:=0
def tw6567899068593887560:=0
def tw3970888095474117100:=0
def tw9648264582831853911:=0
def tw9268567704670892995:=0
def tw3055671580871400562:=0
def tw12287595571546269956:=0
def tw6982786703347873420:=0
def tw3264057224949064599:=0
def tw10155007703627578251:=0
def tw9229429542978277075:=0
def tw14117710648004997864:=0
def tw1072401802069482148:=0
def tw7074256938293753467:=0
def tw13003903312928299437:=0
def tw12685384451303129380:=0
def tw2974219394885902909:=0
def tw11908112803932978444:=0
def tw14566717110062048250:=0
def tw7799471766297011359:=0
def tw484632848321983325:=0
def tw14142902864067192977:=0
def tw7368191748696773697:=0
def tw3060808189266275606:=0
def tw11653482432024570978:=0
def tw4379323603080860106:=0
def tw3724532306471635113:=0
def tw15768588567297688071:=0
def tw10273717425119621144:=0
def tw9238005107841144484:=0
def tw14491496042659453552:=0
def tw9270607198891180515:=0
def tw4055029185310407705:=0
def tw15608413806970823055:=0
def tw9847546287170331007:=0
def tw16033589976744404645:=0
def tw3343805206908196632:=0
def tw17171689770863617248:=0
def tw17765568516088987324:=0
def tw11666966423797496781:=0
def tw17550555420017073444:=0
def tw8386115545366929027:=0
def tw7557927691099668707:=0
def tw1910255319423639099:=0
def tw17805640993596487358:=0
def tw1235068217242277335:=0
def tw18430213013491533845:=0
def tw17267656736032519961:=0
def tw10498774385308382393:=0
def tw15236526545338257355:=0
def tw14886900521067010332:=0
def tw620420144080734644:=0
def tw10102429636878078778:=0
def tw9750781434533214090:=0
def tw13843262113943121498:=0
def tw10289843243747272400:=0
def tw5328921861700579491:=0
def tw1766075985875309664:=0
def tw15847958968080369560:=0
def tw8328005206696363232:=0
def tw2058340638647505477:=0
def tw1721201901748990936:=0
def tw10957610434188958885:=0
def tw10669937278959398086:=0
def tw12107227702618158042:=0
def tw3518502154687880157:=0
def tw5293539946324971095:=0
def tw1091458317519992211:=0
def tw14566530001653872416:=0
def tw18213482967606936075:=0
def tw1865761673263334802:=0
def tw7909015850017597493:=0
def tw14319780754797311129:=0
def tw10616475221623637515:=0
end PySem.W.Fast
open PySem PySem.W PyProof.Rows
set_option maxRecDepth 100000 in
set_option maxHeartbeats 0 in
theorem PySem.Challenge.cw_handsapart_k59_sets_known_holds : PySem.Challenge.rw_handsapart_k59_sets_known.Holds := by
 w_on; o_law; o_head (PySem.W.kHook Gk59.Kf (nat_lit 3 :: nat_lit 23 :: nat_lit 24 :: nat_lit 36 :: nat_lit 37 :: nat_lit 49 :: nat_lit 61 :: nat_lit 73 :: nat_lit 85 :: nat_lit 97 :: nat_lit 109 :: nat_lit 121 :: nat_lit 140 :: nat_lit 152 :: nat_lit 163 :: nat_lit 164 :: nat_lit 183 :: nat_lit 195 :: nat_lit 207 :: nat_lit 219 :: nat_lit 227 :: nat_lit 228 :: nat_lit 234 :: nat_lit 235 :: nat_lit 241 :: nat_lit 242 :: nat_lit 248 :: nat_lit 249 :: nat_lit 253 :: nat_lit 254 :: nat_lit 258 :: nat_lit 259 :: nat_lit 265 :: nat_lit 266 :: nat_lit 272 :: nat_lit 273 :: nat_lit 277 :: nat_lit 278 :: nat_lit 284 :: nat_lit 285 :: nat_lit 291 :: nat_lit 292 :: nat_lit 298 :: nat_lit 299 :: nat_lit 303 :: nat_lit 304 :: nat_lit 320 :: nat_lit 321 :: nat_lit 553 :: nat_lit 554 :: nat_lit 560 :: nat_lit 561 :: nat_lit 567 :: nat_lit 568 :: nat_lit 574 :: nat_lit 575 :: nat_lit 581 :: nat_lit 582 :: nat_lit 588 :: nat_lit 589 :: nat_lit 595 :: nat_lit 596 :: nat_lit 602 :: nat_lit 603 :: nat_lit 628 :: nat_lit 629 :: nat_lit 635 :: nat_lit 636 :: nat_lit 640 :: nat_lit 641 :: nat_lit 645 :: nat_lit 646 :: nat_lit 652 :: nat_lit 653 :: nat_lit 659 :: nat_lit 660 :: nat_lit 664 :: nat_lit 665 :: nat_lit 669 :: nat_lit 670 :: nat_lit 676 :: nat_lit 677 :: nat_lit 683 :: nat_lit 684 :: nat_lit 690 :: nat_lit 691 :: nat_lit 697 :: nat_lit 698 :: nat_lit 704 :: nat_lit 705 :: []) (fun _=>by kernel_rfl)); (case hw=>w_witness2)
 k_fill
 refine Gk59.walk (l:=PySem.Challenge.rw_handsapart_k59_sets_known) rfl rfl (fun w h Y=>PySem.W.kIn_of Y) ?F (fun w n qn hm c b e=>by
  rcases List.mem_cons.mp hm with hm | hm
  .cases hm
   rw [Gk59.Kx w.params] at e;cases e;exact ⟨Option.isSome_iff_exists.mp (by kernel_rfl),Gk59.T1 w.params⟩
  .rcases List.mem_cons.mp hm with hm | hm
   .cases hm
    rw [Gk59.LF w.params] at e;cases e
   .cases hm) (fun w=>Gk59.Wq w.params)
 case F =>
  intro w mg fa h KX G hmg;refine' Gk59.all_mk KX G hmg ?_ ?_ ?_ ?_ ?_ ?_ ?_ ?_ ?_ ?_ ?_ ?_ ?_ ?_ ?_ ?_ ?_ ?_ ?_ ?_ ?_ ?_ ?_ ?_ ?_ ?_ ?_ ?_ ?_ ?_ ?_ ?_ ?_ ?_ ?_ ?_ ?_ ?_ ?_ ?_ ?_ ?_ ?_ ?_ ?_ ?_ ?_ ?_ ?_ ?_ ?_ ?_ ?_ ?_ ?_ ?_ ?_ ?_ ?_ (Gk59.Kx w.params) (Gk59.Te w.params) (Gk59.Gu w) (Gk59.Ib w.params) (Gk59.KG w.params) (Gk59.M0 w.params);all_goals first | k_is | (refine' Gk59.Vz ?a ?l ?c ?k; (case a=>k_is); (case l=>k_is); (case c=>k_is); (case k=>k_is)) | skip
end
