import PyProof.Rows.All
import Wide.All
import OpenK.AllK
import PySem.Challenge.RW_handsapart_k61_houses_written
open PySem.W (Frag)
open Option (bind_eq_some_iff map_eq_some_iff)
set_option Elab.async false
set_option linter.all false
set_option maxRecDepth 100000
set_option maxHeartbeats 4000000
theorem dK{p:Prop}(h:p:=by decide +kernel):p:=h
section
namespace L2
open PySem PySem.Spec PyProof.Rows
noncomputable abbrev Key:=Sum Int Str
noncomputable def Te:Key->Value->Bool
 | .inl k,v=>Value.isInt k v
 | .inr x,v=>Value.isStrOf x v
noncomputable def Xm(w:World):Key->Int
 | .inl k=>hashInt k
 | .inr x=>hashStr w x
theorem BK:∀{k:Key} {v:Value},Te k v=true->(∃i t,k=Sum.inl i/\v=Value.int i t)\/(∃x t,k=Sum.inr x/\v=Value.str x t)
 | .inl i,v,h=>by
  obtain⟨t,e⟩:=Value.isInt_shape (k:=i) (v:=v) h;exact .inl ⟨i,t,rfl,e⟩
 | .inr x,v,h=>by
  obtain⟨t,e⟩:=Value.isStrOf_shape (x:=x) (v:=v) h;exact .inr ⟨x,t,rfl,e⟩
theorem Ux(a b:Int):decide ((Sum.inl a:Key)=Sum.inl b)=(a==b):=by
 by_cases e:a=b
 .subst e; simp
 .have h:¬(Sum.inl a:Key)=Sum.inl b:=fun q=>e (Sum.inl.inj q)
  rw[decide_eq_false h];exact(beq_eq_false_iff_ne.mpr e).symm
theorem UA(a b:Str):decide ((Sum.inr a:Key)=Sum.inr b)=decide (a=b):=by
 by_cases e:a=b
 .subst e; simp
 .have h:¬(Sum.inr a:Key)=Sum.inr b:=fun q=>e (Sum.inr.inj q)
  rw[decide_eq_false h,decide_eq_false e]
theorem Uy(a:Int)(b:Str):decide ((Sum.inl a:Key)=Sum.inr b)=false:=decide_eq_false (fun q=>nomatch q)
theorem Uz(a:Str)(b:Int):decide ((Sum.inr a:Key)=Sum.inl b)=false:=decide_eq_false (fun q=>nomatch q)
noncomputable def R3(prog:Program)(w:World):PySem.KeyKind prog w Key where
 is:=Te
 hash:=Xm w
 inj:=fun v a b ha hb=>by
  rcases BK ha with ⟨i,t,rfl,rfl⟩|⟨x,t,rfl,rfl⟩
  .rcases BK hb with ⟨j,u,rfl,e⟩|⟨y,u,rfl,e⟩
   .injection e with e1 _; rw[e1]
   .exact nomatch e
  .rcases BK hb with ⟨j,u,rfl,e⟩|⟨y,u,rfl,e⟩
   .exact nomatch e
   .injection e with e1 _; rw[e1]
 byValue:=fun k v h=>by
  rcases BK h with ⟨i,t,rfl,rfl⟩|⟨x,t,rfl,rfl⟩<;>rfl
 pyHash:=fun hv h=>by
  rcases BK hv with ⟨i,t,rfl,rfl⟩|⟨x,t,rfl,rfl⟩
  .exact wpAny_pyHash_int h
  .exact wpAny_pyHash_str h
 eqBool:=fun hu hv h=>by
  rcases BK hu with ⟨i,t,rfl,rfl⟩|⟨x,t,rfl,rfl⟩
  .rcases BK hv with ⟨j,u,rfl,rfl⟩|⟨y,u,rfl,rfl⟩
   .rw[Ux] at h; exact wpAny_eqBool_int h
   .rw[Uy] at h; exact SeqAt.EqAt.int_str i t y u _ _ _ _ h
  .rcases BK hv with ⟨j,u,rfl,rfl⟩|⟨y,u,rfl,rfl⟩
   .rw[Uz] at h; exact SeqAt.EqAt.str_int x t j u _ _ _ _ h
   .rw[UA] at h; exact wpAny_eqBool_str h
 «strs»:=fun k x t v h=>by
  rcases BK h with ⟨i,u,rfl,e⟩|⟨y,u,rfl,e⟩
  .exact nomatch e
  .injection e with e1 _
   subst e1;cases v<;>rfl
end L2
namespace L2
open PySem PySem.Spec PyProof.Rows
inductive V where
 | non|bl (b:Bool)|int (i:Int)|str (x:Str)|byt (b:Array UInt8)|flt (b:UInt64)|ref (a:Addr)|ty (n:String)
 deriving DecidableEq
noncomputable def RelV:V->Value->Prop
 | .non,u=>u=Value.none
 | .bl b,u=>u=Value.bool b
 | .int i,u=>∃t,u=Value.int i t
 | .str x,u=>∃t,u=Value.str x t
 | .byt b,u=>∃t,u=Value.bytes b t
 | .flt b,u=>∃t,u=Value.float b t
 | .ref a,u=>u=Value.ref a
 | .ty n,u=>u=Value.type n
noncomputable abbrev Vals:List V->List Value->Prop:=Paired RelV
theorem Vals.length{xs:List V}{us:List Value}(r:Vals xs us):xs.length=us.length:=Paired.length r
theorem Vals.get:∀{xs:List V} {us:List Value} {i:Nat} {x:V},Vals xs us->xs[i]? = some x->∃u,us[i]? = some u/\RelV x u
 | _,_,_,_,.nil,e=>by simp at e
 | _,_,0,_,.cons r _,e=>by simp at e; subst e; exact⟨_,rfl,r⟩
 | _,_,i+1,x,.cons _ t,e=>by
  obtain⟨u,h1,h2⟩:=Vals.get (i:=i) (x:=x) t (by simpa using e);exact⟨u,by simpa using h1,h2⟩
theorem Vals.set{x:V}{u:Value}(r:RelV x u):∀{xs:List V} {us:List Value} (i:Nat),Vals xs us->Vals (xs.set i x) (us.set i u)
 | _,_,_,.nil=>.nil
 | _,_,0,.cons _ t=>.cons r t
 | _,_,i+1,.cons q t=>.cons q (Vals.set r i t)
theorem Vals.append{xs ys:List V}{us ws:List Value}(h:Vals xs us)(s:Vals ys ws):Vals (xs++ys) (us++ws):=by
 induction h with
 | nil=>exact s
 | cons r t ih=>exact .cons r ih
theorem Vals.take:∀{xs:List V} {us:List Value} (n:Nat),Vals xs us->Vals (xs.take n) (us.take n)
 | _,_,0,_=>.nil
 | _,_,_+1,.nil=>.nil
 | _,_,n+1,.cons r t=>.cons r (Vals.take n t)
theorem Vals.drop:∀{xs:List V} {us:List Value} (n:Nat),Vals xs us->Vals (xs.drop n) (us.drop n)
 | _,_,0,r=>r
 | _,_,_+1,.nil=>.nil
 | _,_,n+1,.cons _ t=>Vals.drop n t
noncomputable def TN:Option V->Option Value->Prop
 | some v,some u=>RelV v u
 | none,none=>True
 | _,_=>False
noncomputable def KV{κ:Type}:List (κ×V)->List (κ×Value)->Prop:=Paired fun(p : κ×V) (q : κ×Value)=>p.1=q.1/\RelV p.2 q.2
noncomputable def kV:Key->V
 | .inl i=>.int i
 | .inr x=>.str x
inductive D where
 | non|bl (b:Bool)|int (i:Int)|str (x:Str)|lst (ds:List D)|tup (ds:List D)
mutual
noncomputable def eqS:D->D->Bool
 | .non,.non=>true
 | .bl a,.bl b=>a==b
 | .int a,.int b=>a==b
 | .str a,.str b=>a==b
 | .lst xs,.lst ys=>Mq xs ys
 | .tup xs,.tup ys=>Mq xs ys
 | _,_=>false
noncomputable def Mq:List D->List D->Bool
 | [],[]=>true
 | x::xs,y::ys=>eqS x y&&Mq xs ys
 | _,_=>false
end
mutual
theorem Lg:∀d,eqS d d=true
 | .non=>rfl
 | .bl a=>by show(a==a)=true; exact beq_self_eq_true a
 | .int a=>by show(a==a)=true; exact beq_self_eq_true a
 | .str a=>by show(a==a)=true; exact beq_self_eq_true a
 | .lst xs=>GS xs
 | .tup xs=>GS xs
theorem GS:∀ds,Mq ds ds=true
 | []=>rfl
 | d::ds=>by show(eqS d d&&Mq ds ds)=true; rw[Lg d,GS ds]; rfl
end
mutual
theorem Pq:∀(d e:D),eqS d e=true->d=e
 | .non,e,h=>by cases e<;>first|rfl|exact nomatch h
 | .bl a,e,h=>by
  cases e with
  | bl b=>rw[eq_of_beq (show(a==b)=true from h)]
  | _=>exact nomatch h
 | .int a,e,h=>by
  cases e with
  | int b=>rw[eq_of_beq (show(a==b)=true from h)]
  | _=>exact nomatch h
 | .str a,e,h=>by
  cases e with
  | str b=>rw[eq_of_beq (show(a==b)=true from h)]
  | _=>exact nomatch h
 | .lst xs,e,h=>by
  cases e with
  | lst ys=>rw[JX xs ys h]
  | _=>exact nomatch h
 | .tup xs,e,h=>by
  cases e with
  | tup ys=>rw[JX xs ys h]
  | _=>exact nomatch h
theorem JX:∀(xs ys:List D),Mq xs ys=true->xs=ys
 | [],ys,h=>by cases ys with|nil=>rfl|cons _ _=>exact nomatch h
 | x::xs,ys,h=>by
  cases ys with
  | nil=>exact nomatch h
  | cons y ys =>
   have h':(eqS x y&&Mq xs ys)=true:=h;rw[Bool.and_eq_true] at h';rw[Pq x y h'.1,JX xs ys h'.2]
end
noncomputable instance:DecidableEq D:=fun a b=>decidable_of_iff (eqS a b=true) ⟨Pq a b,fun e=>e ▸ Lg a⟩
mutual
noncomputable def Ta(w:World):D->Int
 | .int i=>hashInt i
 | .str x=>hashStr w x
 | .tup ds=>reduceHash (Builtin.Tuple.tupleHashOf (PF w ds))
 | .non=>0xFCA86420
 | .bl _=>0
 | .lst _=>0
noncomputable def PF(w:World):List D->List Int
 | []=>[]
 | d::ds=>Ta w d::PF w ds
end
inductive HO where
 /-- a list -/
 | lst (xs:List V)
 /-- a tuple (never changes) -/
 | tup (xs:List V)
 /-- a dict whose keys are ints and texts; one whose keys are tuples of ints and texts (the empty one is both) -/
 | dK (kvs:List (Key×V))|dT (kvs:List (D×V))
 /-- a set of ints: its members,its size -/
 | set (S:Int->Bool) (n:Nat)
 /-- an instance of the class at C,its dict at dx,its attributes -/
 | ins (C dx:Addr) (fs:List (Str×V))
 /-- the dict of the instance at x -/
 | own (x:Addr)
 /-- the dict of an exception -/
 | xd (fs:List (Str×V))
 /-- a bound method,f of x -/
 | met (f x:Addr)
 /-- a range object lo,lo+1,.. below hi -/
 | rng (lo hi:Int)
 /-- a thing that is known to the object (the script; a dict while a loop walks it): read,never written while it is so -/
 | frz (o:Obj) (u:HO)
 /-- a code object's table -/
 | tbl (ps:Array Value)
 /-- any other thing,by what is true of its one object (a def of one's own: SetO a S n:=HO.ext fun h=>..) -/
 | ext (φ : Heap->Prop)
noncomputable abbrev Hp:=Addr->Option HO
noncomputable def upd(H:Hp)(a:Addr)(o:HO):Hp:=fun b=>if b=a then some o else H b
theorem AB{H:Hp}{a:Addr}{o:HO}:upd H a o a=some o:=by unfold upd; rw[if_pos rfl]
theorem Au{H:Hp}{a b:Addr}{o:HO}(h:b≠a):upd H a o b=H b:=by unfold upd; rw[if_neg h]
theorem Du{H:Hp}{a b:Addr}{o:HO}(h:H a=some o)(h':H b=none):a≠b:=by
 intro e; subst e; rw[h] at h'; cases h'
inductive Sh:Nat->D->Prop where
 | non {n:Nat}:Sh n .non
 | bl {n:Nat} (b:Bool):Sh n (.bl b)
 | int {n:Nat} (i:Int):Sh n (.int i)
 | str {n:Nat} (x:Str):Sh n (.str x)
 | lst {n:Nat} {ds:List D} (h:∀d∈ds,Sh n d):Sh (n+1) (.lst ds)
 | tup {n:Nat} {ds:List D} (h:∀d∈ds,Sh n d):Sh (n+1) (.tup ds)
inductive KR (H:Hp):V->D->Prop where
 | non:KR H .non .non
 | int (i:Int):KR H (.int i) (.int i)
 | str (x:Str) (hx:x.length<=sizeLine):KR H (.str x) (.str x)
 | tup {a:Addr} {vs:List V} {ds:List D} (h:H a=some (.tup vs)) (hz:vs.length<=sizeLine) (hl:vs.length=ds.length) (hr:∀(i:Nat) v d,vs[i]? = some v->ds[i]? = some d->KR H v d):KR H (.ref a) (.tup ds)
theorem KR.mono{H H':Hp}(t:∀b xs,H b=some (.tup xs)->H' b=some (.tup xs)){v:V}{d:D}(r:KR H v d):KR H' v d:=by
 induction r with
 | non=>exact .non
 | int i=>exact .int i
 | str x hx=>exact .str x hx
 | tup h hz hl _ ih=>exact .tup (t _ _ h) hz hl ih
noncomputable def Xk(w:World)(x:D×Value×Value):DictEntry:=⟨Ta w x.1,x.2.1,x.2.2⟩
noncomputable abbrev Kc:Str := "law"
noncomputable abbrev Bt:Str := "law.<locals>.<lambda>"
noncomputable abbrev RY:Str := "place_of_first"
noncomputable abbrev Qi:Str := "place_of_first.<locals>.<lambda>"
noncomputable def Ie:List (Str×Str):=[(Kc,Bt),(RY,Qi)]
theorem UB:(Kc,Bt)∈Ie:=List.mem_cons_self
noncomputable def Wg(H:Hp)(h:Heap)(a:Addr)(ps:Array Value):Prop:=∃qs:Array Value,h.get? a=some { cls:=.none,data:=.fields qs }/\TriplesOk qs.toList /\
 ∀pos c,codeAmong pos qs.toList=some c->∃c' oc vs t q,c=.ref c'/\H c'=some (.own a)/\h.get? c'=some oc/\oc.data=.fields vs/\vs[1]? = some (.str q t)/\ps[0]? = some (.str q 0)
noncomputable def Oc(K:Frag)(H:Hp):Prop:=∀(n q:Str),(n,q)∈Ie->∀c P,PySem.W.tabIn K n=some (c,P)->∃ps,H P=some (.tbl ps)/\ps[0]? = some (.str q 0)
section
variable(P:Program)(w:World)
noncomputable def Cg(H:Hp)(h:Heap)(a:Addr):HO->Prop
 | .lst xs=>xs.length<=sizeLine/\∃(its:List Value) (n:Nat),Vals xs its/\h.get? a=some { cls:=.type "list",data:=.seq its.toArray n }
 | .tup xs=>xs.length<=sizeLine/\∃its:List Value,Vals xs its/\IsTup h a its.toArray
 | .dK kvs=>kvs.length<=sizeLine/\(a==sysModules)=false/\∃vs,KV kvs vs/\h.DictOf (R3 P w) a vs
 | .dT kvs=>kvs.length<=sizeLine/\(a==sysModules)=false/\∃xs:List (D×Value×Value),
   Paired (fun(p:D×V) (q:D×Value×Value)=>p.1=q.1/\(Sh 8 p.1/\∃y,KR H y p.1/\RelV y q.2.1)/\RelV p.2 q.2.2) kvs xs /\
   ∃o es ep,h.get? a=some o/\o.ExactDict/\o.data=.dict es ep/\es.toList=xs.map (Xk w)/\(xs.map (·.1)).Nodup
 | .set S n=>h.SetOf (intKind P w) a S n
 | .ins C dx fs=>H dx=some (.own a)/\fs.length<=1000/\dx≠a/\h.get? a=some (PySem.W.instObj C dx) /\
   ∃mA,h.Ns1 dx mA/\(∀f,TN (fs.lookup f) (mA f))/\PySem.Within mA (fs.map (·.1))
 | .own _=>∃o,h.get? a=some o
 | .xd fs=>∃mA,h.Ns1 a mA/\∀f,TN (fs.lookup f) (mA f)
 | .rng lo hi=>∃t u v,h.get? a=some { cls:=.type "range",data:=.fields #[.int lo t,.int hi u,.int 1 v] }
 | .frz o u=>h.get? a=some o/\Cg H h a u
 | .tbl ps=>Wg H h a ps
 | .met f x=>h.get? a=some (PySem.W.methodObj (.ref f) (.ref x))
 | .ext φ=>φ h/\(∃o,h.get? a=some o)/\∀h1 h2:Heap,φ h1->(∀o,h1.get? a=some o->h2.get? a=some o) -> φ h2
noncomputable def HOk(H:Hp)(h:Heap):Prop:=∀a o,H a=some o->Cg P w H h a o
end
section
variable{P:Program}{w:World}{H H':Hp}{h h':Heap}{a:Addr}{o:HO}
theorem Cg.lt(x:Cg P w H h a o):a<h.objs.size:=by
 cases o with
 | lst xs=>obtain⟨_,_,_,_,e⟩:=x; exact Heap.lt_size e
 | tup xs=>obtain⟨_,_,_,p⟩:=x; exact p.lt
 | dK kvs=>obtain⟨_,_,_,_,o,_,_,e,_⟩:=x; exact Heap.lt_size e
 | dT kvs=>obtain⟨_,_,_,_,o,_,_,e,_⟩:=x; exact Heap.lt_size e
 | set S n=>obtain⟨o,_,_,_,e,_⟩:=x; exact Heap.lt_size e
 | ins C dx fs=>obtain⟨_,_,_,e,_⟩:=x; exact Heap.lt_size e
 | own y=>obtain⟨_,e⟩:=x; exact Heap.lt_size e
 | xd fs=>obtain⟨_,⟨_,_,_,e,_⟩,_⟩:=x; exact Heap.lt_size e
 | rng lo hi=>obtain⟨_,_,_,e⟩:=x; exact Heap.lt_size e
 | frz ob u=>obtain⟨e,_⟩:=x; exact Heap.lt_size e
 | tbl ps=>obtain⟨_,e,_⟩:=x; exact Heap.lt_size e
 | met f y=>exact Heap.lt_size (show h.get? a=some _ from x)
 | ext φ=>obtain⟨_,⟨_,e⟩,_⟩:=x; exact Heap.lt_size e
theorem Paired.mapP{α β:Type}{F G:α -> β -> Prop}{l₁:List α}{l₂:List β}(h:Paired F l₁ l₂)(f:∀a b,F a b->G a b):Paired G l₁ l₂:=by
 induction h with
 | nil=>exact .nil
 | cons r t ih=>exact .cons (f _ _ r) ih
theorem Cg.stay(x:Cg P w H h a o)(k:∀b u,(b=a\/H b=some (.own a))->h.get? b=some u->h'.get? b=some u)(ho:∀b,H b=some (.own a)->H' b=some (.own a))(ht:∀b xs,H b=some (.tup xs)->H' b=some (.tup xs)):Cg P w H' h' a o:=by
 induction o with
 | lst xs=>obtain⟨z,its,n,r,e⟩:=x; exact⟨z,its,n,r,k _ _ (.inl rfl) e⟩
 | tup xs=>obtain⟨z,its,r,ob,e,c⟩:=x; exact⟨z,its,r,ob,k _ _ (.inl rfl) e,c⟩
 | dK kvs=>obtain⟨z,y,vs,r,ob,es,ep,e,c⟩:=x; exact⟨z,y,vs,r,ob,es,ep,k _ _ (.inl rfl) e,c⟩
 | dT kvs =>
  obtain⟨z,y,xs,r,ob,es,ep,e,c⟩:=x;exact⟨z,y,xs,Paired.mapP r fun p q z=>⟨z.1,⟨z.2.1.1,z.2.1.2.imp fun y yy=>⟨yy.1.mono ht,yy.2⟩⟩,z.2.2⟩,ob,es,ep,k _ _ (.inl rfl) e,c⟩
 | set S n=>obtain⟨ob,es,ep,t,e,c⟩:=x; exact⟨ob,es,ep,t,k _ _ (.inl rfl) e,c⟩
 | ins C dx fs =>
  obtain⟨d,z,ne,e,mA,⟨od,es,ep,e2,c⟩,r⟩:=x;exact⟨ho _ d,z,ne,k _ _ (.inl rfl) e,mA,⟨od,es,ep,k _ _ (.inr d) e2,c⟩,r⟩
 | own y=>obtain⟨ob,e⟩:=x; exact⟨ob,k _ _ (.inl rfl) e⟩
 | xd fs=>obtain⟨mA,⟨od,es,ep,e,c⟩,r⟩:=x; exact⟨mA,⟨od,es,ep,k _ _ (.inl rfl) e,c⟩,r⟩
 | rng lo hi=>obtain⟨t,u,v,e⟩:=x; exact⟨t,u,v,k _ _ (.inl rfl) e⟩
 | frz ob u ih=>obtain⟨e,q⟩:=x; exact⟨k _ _ (.inl rfl) e,ih q⟩
 | tbl ps =>
  obtain⟨qs,e,tr,f⟩:=x;refine⟨qs,k _ _ (.inl rfl) e,tr,fun pos c hc=>?_⟩;obtain⟨c',oc,vs,t,q,e1,e2,e3,e4⟩:=f pos c hc;exact⟨c',oc,vs,t,q,e1,ho _ e2,k _ _ (.inr e2) e3,e4⟩
 | met f y =>
  have e:h.get? a=some (PySem.W.methodObj (.ref f) (.ref y)):=x;show h'.get? a=some (PySem.W.methodObj (.ref f) (.ref y));exact k a _ (.inl rfl) e
 | ext φ=>obtain⟨p,⟨o,e⟩,st⟩:=x; exact⟨st _ _ p fun o q=>k _ _ (.inl rfl) q,⟨o,k _ _ (.inl rfl) e⟩,st⟩
theorem HOk.lt(x:HOk P w H h)(e:H a=some o):a<h.objs.size:=(x a o e).lt
theorem HOk.fresh(x:HOk P w H h)(e:h.objs.size<=a):H a=none:=by
 cases q:H a with
 | none=>rfl
 | some u=>exact absurd (Nat.lt_of_lt_of_le (x.lt q) e) (Nat.lt_irrefl _)
theorem HOk.kept(x:HOk P w H h)(k:∀b u,h.get? b=some u->h'.get? b=some u):HOk P w H h':=fun a o e =>
 (x a o e).stay (fun b u _ q=>k b u q) (fun _ q=>q) fun _ _ q=>q
theorem HOk.laid(x:HOk P w H h)(k:∀b u,h.get? b=some u->h'.get? b=some u)(hp:h.objs.size<=a)(new:Cg P w (upd H a o) h' a o):HOk P w (upd H a o) h':=fun b u e=>by
 have hn:=x.fresh hp;by_cases hb:b=a
 .subst hb; rw[AB] at e; cases e; exact new
 .rw[Au hb] at e
  exact(x b u e).stay (fun c v _ q=>k c v q) (fun c q=>by rw[Au (Du q hn)]; exact q) fun c xs q=>by rw[Au (Du q hn)]; exact q
end
noncomputable def Rd(H:Hp)(a:Addr)(u:HO):Prop:=H a=some u\/∃o,H a=some (.frz o u)
theorem Rd.ok{P:Program}{w:World}{H:Hp}{h:Heap}{a:Addr}{u:HO}(r:Rd H a u)(x:HOk P w H h):Cg P w H h a u:=by
 rcases r with r|⟨o,r⟩
 .exact x a u r
 .obtain⟨_,q⟩:=x a _ r
  exact q
noncomputable def Mut:Option HO->Prop
 | some (.lst _)=>True
 | some (.dK _)=>True
 | some (.dT _)=>True
 | some (.set _ _)=>True
 | some (.ins _ _ _)=>True
 | some (.ext _)=>True
 | _=>False
section
variable{P:Program}{w:World}{H:Hp}{h h':Heap}{x e:Addr}{o':HO}
theorem HOk.write(ok:HOk P w H h)(mu:Mut (H x))(he:e=x\/H e=some (.own x))(k:∀b u,b≠e->h.get? b=some u->h'.get? b=some u)(heo:∃u,h'.get? e=some u)(new:Cg P w (upd H x o') h' x o'):HOk P w (upd H x o') h':=fun b u q=>by
 have nown:∀c y,H c=some (.own y)->c≠x:=fun c y r z=>by subst z; rw[r] at mu; exact mu
 have ntup:∀c xs,H c=some (.tup xs)->c≠x:=fun c xs r z=>by subst z; rw[r] at mu; exact mu
 by_cases hb:b=x
 .subst hb; rw[AB] at q; cases q; exact new
 .rw[Au hb] at q
  by_cases hbe:b=e
  .have q':H b=some (.own x):=by
    rcases he with z|z
    .exact absurd (hbe.trans z) hb
    .rw[hbe]; exact z
   rw[q] at q'; cases q';obtain⟨v,hv⟩:=heo;exact⟨v,by rw[hbe]; exact hv⟩
  .refine(ok b u q).stay (fun c v hc r=>k c v ?_ r) (fun c r=>by rw[Au (nown c b r)]; exact r) fun c xs r=>by rw[Au (ntup c xs r)]; exact r
   rcases hc with rfl|hc
   .exact hbe
   .rintro rfl
    rcases he with z|z
    .exact nown c b hc z
    .rw[hc] at z; cases z; exact hb rfl
end
structure Un (fs ex:List Addr) (H H':Hp) (h h':Heap):Prop where
 keep:∀b o,h.get? b=some o->H b=none->b∉fs->b∉ex->h'.get? b=some o
 slot:∀b o,h.get? b=some o->H b=none->b∈fs->b∉ex->∃sl,h'.get? b=some { o with slots:=sl }
 free:∀b o,h.get? b=some o->H b=none->b∉ex->H' b=none
 there:∀b o,h.get? b=some o->b∉ex->∃o',h'.get? b=some o'
 tups:∀b xs,H b=some (.tup xs)->H' b=some (.tup xs)
 frzs:∀b o u,H b=some (.frz o u)->H' b=some (.frz o u)
 tbls:∀b ps,H b=some (.tbl ps)->∃more,H' b=some (.tbl (ps++more))
section
variable{fs fs' ex ex':List Addr}{H H1 H2:Hp}{h h1 h2 h':Heap}{a x e:Addr}{o:HO}
theorem Un.any(u:Un fs ex H H1 h h1){b:Addr}{ob:Obj}(q:h.get? b=some ob)(n:H b=none)(hx:b∉ex):∃sl,h1.get? b=some { ob with slots:=sl }:=by
 by_cases hb:b∈fs
 .exact u.slot b ob q n hb hx
 .exact⟨ob.slots,u.keep b ob q n hb hx⟩
theorem Un.kept(k:∀b u,h.get? b=some u->h'.get? b=some u):Un fs ex H H h h':=
 ⟨fun b ob q _ _ _=>k b ob q,fun b ob q _ _ _=>⟨ob.slots,k b ob q⟩,fun _ _ _ n _=>n,fun b ob q _=>⟨ob,k b ob q⟩,fun _ _ q=>q,fun _ _ _ q=>q,fun _ ps q=>⟨#[],by rw[q]; simp⟩⟩
theorem Un.refl:Un fs ex H H h h:=Un.kept fun _ _ q=>q
theorem Un.laid(k:∀b u,h.get? b=some u->h'.get? b=some u)(hp:h.objs.size<=a)(hn:H a=none):Un fs ex H (upd H a o) h h' where
 keep:=fun b u q _ _ _=>k b u q
 slot:=fun b u q _ _ _=>⟨u.slots,k b u q⟩
 free:=fun b u q n _=>by rw[Au (Nat.ne_of_lt (Nat.lt_of_lt_of_le (Heap.lt_size q) hp))]; exact n
 there:=fun b u q _=>⟨u,k b u q⟩
 tups:=fun b xs q=>by rw[Au (Du q hn)]; exact q
 frzs:=fun b u xs q=>by rw[Au (Du q hn)]; exact q
 tbls:=fun b ps q=>⟨#[],by rw[Au (Du q hn),q]; simp⟩
theorem Un.write(mu:Mut (H x))(he:e=x\/H e=some (.own x))(k:∀b u,b≠e->h.get? b=some u->h'.get? b=some u)(heo:∃u,h'.get? e=some u):Un fs ex H (upd H x o) h h':=by
 have hx:∀b,H b=none->b≠x:=fun b n z=>by subst z; rw[n] at mu; exact mu
 have hb:∀b,H b=none->b≠e:=fun b n z=>by
  subst z;rcases he with r|r
  .exact hx b n r
  .rw[n] at r; cases r
 have hm:∀b u,H b=some u->¬Mut (some u)->b≠x:=fun b u q nm z=>by subst z; rw[q] at mu; exact nm mu
 refine⟨fun b u q n _ _=>k b u (hb b n) q,fun b u q n _ _=>⟨u.slots,k b u (hb b n) q⟩,fun b u q n _=>by rw[Au (hx b n)]; exact n,fun b u q _=>?_,
  fun b xs q=>by rw[Au (hm b _ q fun z=>z)]; exact q,fun b u xs q=>by rw[Au (hm b _ q fun z=>z)]; exact q,fun b ps q=>⟨#[],by rw[Au (hm b _ q fun z=>z),q]; simp⟩⟩
 by_cases hbe:b=e
 .subst hbe; exact heo
 .exact⟨u,k b u hbe q⟩
end
noncomputable def trk(h:Heap)(H:Hp):List Addr:=(List.range h.objs.size).filter fun a=>(H a).isSome
noncomputable def IX(h:Heap)(H:Hp):Heap:=PySem.W.hideAll h (trk h H)
theorem Oj(h:Heap)(H:Hp):(IX h H).objs.size=h.objs.size:=PySem.W.hideAll_size _ _
theorem PJ{h:Heap}{H:Hp}{b:Addr}{o:Obj}(e:h.get? b=some o)(n:H b=none):(IX h H).get? b=some o:=
 PySem.W.hideAll_get _ e fun hm=>by
  have q:(H b).isSome=true:=(List.mem_filter.mp hm).2;rw[n] at q; simp at q
theorem R8{h:Heap}{H:Hp}{b:Addr}{o:Obj}(e:(IX h H).get? b=some o):h.get? b=some o/\H b=none:=by
 have e':h.get? b=some o:=PySem.W.of_hideAll (trk h H) e;refine⟨e',?_⟩;cases q:H b with
 | none=>rfl
 | some x =>
  have hm:b∈trk h H:=List.mem_filter.mpr ⟨List.mem_range.mpr (Heap.lt_size e'),by simp[q]⟩;have z:(IX h H).get? b=none:=PySem.W.hideAll_none (trk h H) hm;rw[z] at e; cases e
noncomputable def Ru(g h:Heap)(L:Addr):List (Addr×Obj):=(List.range h.objs.size).filterMap fun a=>if a=L\/(g.get? a).isSome=true then none else (h.get? a).map fun o=>(a,o)
noncomputable def rest(g h:Heap)(L d:Addr):List (Addr×Obj):=(Ru g h L).filter fun p=>decide (p.1≠d)
end L2
namespace L2
open PySem PySem.Spec PyProof.Rows
structure Mod (K:Frag) (mg:Str->Option Value) (base:Heap):Prop where
 kin:K.In base
 glob:base.Ns mainGlobals mg
 blt:∃mb,base.Ns builtinsNs mb/\∀x:Str,x ≠ "__name__" -> mb x=bootBuiltins x
 nolimit:base.NoLimit
 bmain:∃bm ob,mg "__builtins__" = some (.ref bm)/\bm≠builtinsNs/\base.get? bm=some ob/\ob.cls=.type "module" /\ ob.dict=some builtinsNs/\ob.data=.plain
structure Cx where
 prog:Program
 w:World
 K:Frag
 mg:Str->Option Value
 base:Heap
 A:Around
 N:List Str
 s₀:Shared
 H₀:Hp
 env:Env
 outer:List Env
 stack:List Env
 ex:List Addr
 fn:Str->Bool
 calm:Bool
 pn:List (Addr×Obj)
 xe:Value->Shared->Prop
noncomputable def frs(l:List Env):List Addr:=l.filterMap (·.frame)
noncomputable abbrev Cx.fs(X:Cx):List Addr:=frs X.outer
noncomputable def Vis(sc:Scope)(x:Str):Prop:=sc.names.lookup x=some .local\/sc.names.lookup x=some .cell\/sc.names.lookup x=some .free
noncomputable def Loc(sc:Scope)(x:Str):Prop:=sc.names.lookup x=some .local\/sc.names.lookup x=some .cell
noncomputable def Look(env:Env)(h:Heap)(m:Str->Option Value)(x:Str)(u:Value):Prop:=
 (env.kindOf x=some .local/\m x=some u)\/((env.kindOf x=some .cell\/env.kindOf x=some .free)/\∃c,env.cells.lookup x=some c/\h.IsCell c (some u))
structure Cx.Ok (X:Cx):Prop where
 mod:Mod X.K X.mg X.base
 kind:X.env.scope.kind=.function
 glob:X.env.globals=mainGlobals
 blt:X.env.builtins=builtinsNs
 above:X.s₀.heap.objs.size<=X.env.locals
 inj:∀x y c,X.env.cells.lookup x=some c->X.env.cells.lookup y=some c->x=y
 has:∀x,(X.env.kindOf x=some .cell\/X.env.kindOf x=some .free)->∃c,X.env.cells.lookup x=some c
 cab:∀x c,X.fn x=true->X.env.cells.lookup x=some c->X.s₀.heap.objs.size<=c
 hd:X.calm=true->X.A.handled=none
 frames:X.A.frames=some X.stack
 stk:X.stack=X.outer\/(X.stack=X.env::X.outer/\X.env.frame=some X.env.locals)
 exf:∀b∈X.ex,b≠X.env.locals/\∀x c,X.env.cells.lookup x=some c->c≠b
 bs:∀b o,X.base.get? b=some o->X.s₀.heap.get? b=some o/\X.H₀ b=none
 bsz:X.base.objs.size<=X.s₀.heap.objs.size
 noex:∀b o,X.base.get? b=some o->b∉X.ex
 exfs:∀b∈X.ex,b∉X.fs
 funs:X.s₀.heap.FunFrames X.base X.outer
 frf:∀b∈X.fs,X.H₀ b=none
 tb:Oc X.K X.H₀
structure Inv (X:Cx) (pins:List (Addr×Obj)) (σ:List (Option V)) (H:Hp) (s:Shared):Prop where
 ok:X.Ok
 os:s.os=X.s₀.os
 bare:AllBare s.gens
 base:Un X.fs X.ex X.H₀ H X.s₀.heap s.heap
 loc:∃m,s.heap.Ns X.env.locals m/\∀(i:Nat) (x:Str) (v:V),X.N[i]? = some x -> σ[i]? = some (some v)->Vis X.env.scope x->∃u,RelV v u/\Look X.env s.heap m x u
 cell:∀x c,X.env.cells.lookup x=some c->∃v,s.heap.IsCell c v
 free:H X.env.locals=none
 freeC:∀x c,X.env.cells.lookup x=some c->H c=none
 pin:∀p∈X.pn++pins,s.heap.get? p.1=some p.2/\H p.1=none/\p.1≠X.env.locals/\p.1∉X.fs/\∀v,p.2.data≠.cell v
 hok:HOk X.prog X.w H s.heap
 len : σ.length=X.N.length
section
variable{X:Cx}{pins:List (Addr×Obj)}{σ:List (Option V)}{H H':Hp}{s:Shared}{h':Heap}
theorem Cx.Ok.nofr(ok:X.Ok){b:Addr}{o:Obj}(e:X.base.get? b=some o):b∉X.fs:=fun hb=>by
 have:=(ok.funs.mem hb).1;rw[e] at this; cases this
theorem Oc.grow{K:Frag}{H H':Hp}(x:Oc K H)(h:∀b ps,H b=some (.tbl ps)->∃more,H' b=some (.tbl (ps++more))):Oc K H':=fun n q hm c P e=>by
 obtain⟨ps,e1,e2⟩:=x n q hm c P e;obtain⟨more,e3⟩:=h P ps e1;refine⟨ps++more,e3,?_⟩;have hl:0<ps.size:=by
  cases hs:ps[0]? with
  | none=>rw[hs] at e2; cases e2
  | some v=>exact(Array.getElem?_eq_some_iff.mp hs).1
 rw[Array.getElem?_append_left hl];exact e2
theorem Inv.tabs(I:Inv X pins σ H s):Oc X.K H:=I.ok.tb.grow I.base.tbls
theorem Inv.bs(I:Inv X pins σ H s):∀b o,X.base.get? b=some o->s.heap.get? b=some o/\H b=none:=fun b o e =>
 ⟨I.base.keep b o (I.ok.bs b o e).1 (I.ok.bs b o e).2 (I.ok.nofr e) (I.ok.noex b o e),I.base.free b o (I.ok.bs b o e).1 (I.ok.bs b o e).2 (I.ok.noex b o e)⟩
theorem Inv.bk(I:Inv X pins σ H s):∀b o,X.base.get? b=some o->s.heap.get? b=some o:=fun b o e=>(I.bs b o e).1
theorem Inv.mod(I:Inv X pins σ H s):Mod X.K X.mg X.base:=I.ok.mod
theorem Inv.kIn(I:Inv X pins σ H s):X.K.In s.heap:=I.ok.mod.kin.keeps I.bk
theorem Inv.lt(I:Inv X pins σ H s):X.env.locals<s.heap.objs.size:=let⟨_,hn,_⟩:=I.loc; hn.lt
theorem Inv.sz(I:Inv X pins σ H s):X.s₀.heap.objs.size<=s.heap.objs.size:=Nat.le_trans I.ok.above (Nat.le_of_lt I.lt)
theorem Inv.nofs(I:Inv X pins σ H s){a:Addr}(h:s.heap.objs.size<=a):a∉X.fs:=fun hb=>by
 obtain⟨_,o,ho,_⟩:=I.ok.funs.mem hb;exact absurd (Nat.lt_of_lt_of_le (Heap.lt_size ho) (Nat.le_trans I.sz h)) (Nat.lt_irrefl _)
theorem Inv.cne(I:Inv X pins σ H s):∀x c,X.env.cells.lookup x=some c->c≠X.env.locals:=fun x c e z=>by
 obtain⟨v,o,ho,hd⟩:=I.cell x c e;obtain⟨m,⟨o',es,ep,ho',hd',_⟩,_⟩:=I.loc;rw[z,ho'] at ho; cases ho; rw[hd'] at hd; cases hd
theorem Inv.funs(I:Inv X pins σ H s):s.heap.FunFrames X.base X.outer:=by
 have all:∀(l:List Env),(∀b∈frs l,b∈X.fs)->X.s₀.heap.FunFrames X.base l->s.heap.FunFrames X.base l:=by
  intro l;induction l with
  | nil=>intro _ _; trivial
  | cons env r ih =>
   intro hs hl;obtain⟨hk,⟨L,o,hf,hn,ho,hd⟩,hr⟩:=hl;have hL:L∈X.fs:=hs L (by unfold frs; rw[List.filterMap_cons,hf]; exact List.mem_cons_self);obtain⟨sl,e⟩:=I.base.slot L o ho (I.ok.frf L hL) hL fun z=>I.ok.exfs L z hL;exact⟨hk,⟨L,_,hf,hn,e,hd⟩,ih (fun b hb=>hs b (by unfold frs; rw[List.filterMap_cons,hf]; exact List.mem_cons_of_mem _ hb)) hr⟩
 exact all X.outer (fun _ hb=>hb) I.ok.funs
theorem Inv.stack(I:Inv X pins σ H s):s.heap.FunFrames X.base X.stack:=by
 rcases I.ok.stk with e|⟨e,hf⟩
 .rw[e]; exact I.funs
 .rw[e]
  obtain⟨m,hn,_⟩:=I.loc;refine .cons (by rw[I.ok.kind]; decide) hf hn ?_ I.funs;exact Heap.get?_none_of_le (Nat.le_trans I.ok.bsz I.ok.above)
theorem Inv.stkSub(I:Inv X pins σ H s):∀b∈frs X.stack,b∈X.env.locals::X.fs:=fun b hb=>by
 rcases I.ok.stk with e|⟨e,hf⟩
 .rw[e] at hb; exact List.mem_cons_of_mem _ hb
 .rw[e] at hb
  unfold frs at hb;rw[List.filterMap_cons,hf] at hb;exact hb
theorem Inv.stkFree(I:Inv X pins σ H s):∀b∈frs X.stack,H b=none:=fun b hb=>by
 rcases List.mem_cons.mp (I.stkSub b hb) with e|hb
 .rw[e]; exact I.free
 .obtain⟨_,o,ho,_⟩:=I.ok.funs.mem hb
  exact I.base.free b o ho (I.ok.frf b hb) fun z=>I.ok.exfs b z hb
theorem Inv.step{g':Array GenState}{t':Nat}{d':Drawn}{ch:List Addr}(I:Inv X pins σ H s)(hch:∀b∈ch,(b∈X.ex\/X.s₀.heap.objs.size<=b)/\b≠X.env.locals/\(∀x c,X.env.cells.lookup x=some c->c≠b)/\∀p∈X.pn++pins,p.1≠b)(keep:∀b o,b≠X.env.locals->b∉X.fs->b∉ch->s.heap.get? b=some o->H b=none->h'.get? b=some o)(slot:∀b o,b≠X.env.locals->b∈X.fs->b∉ch->s.heap.get? b=some o->H b=none->∃sl,h'.get? b=some { o with slots:=sl })(free:∀b o,b∉ch->s.heap.get? b=some o->H b=none->H' b=none)(there:∀b o,b∉ch->s.heap.get? b=some o->∃o',h'.get? b=some o')(tups:∀b xs,H b=some (.tup xs)->H' b=some (.tup xs))(frzs:∀b o u,H b=some (.frz o u)->H' b=some (.frz o u))(tbls:∀b ps,H b=some (.tbl ps)->∃more,H' b=some (.tbl (ps++more)))(ns:∀m,s.heap.Ns X.env.locals m->h'.Ns X.env.locals m)(hok:HOk X.prog X.w H' h')(hg:AllBare g'):
  Inv X pins σ H' { s with heap:=h',gens:=g',drawn:=d',toks:=t' }:=by
 have neL:∀b o,X.s₀.heap.get? b=some o->b≠X.env.locals:=fun b o e=>Nat.ne_of_lt (Nat.lt_of_lt_of_le (Heap.lt_size e) I.ok.above);have neC:∀b o,X.s₀.heap.get? b=some o->b∉X.ex->b∉ch:=fun b o e hx hb=>by
  rcases(hch b hb).1 with z|z
  .exact hx z
  .exact absurd (Nat.lt_of_lt_of_le (Heap.lt_size e) z) (Nat.lt_irrefl _)
 have cellK:∀x c,X.env.cells.lookup x=some c->∀v,s.heap.IsCell c v->h'.IsCell c v:=fun x c e v ⟨o,ho,hd⟩=>by
  have nch:c∉ch:=fun z=>(hch c z).2.2.1 x c e rfl;by_cases hc:c∈X.fs
  .obtain⟨sl,q⟩:=slot c o (I.cne x c e) hc nch ho (I.freeC x c e)
   exact⟨_,q,hd⟩
  .exact⟨o,keep c o (I.cne x c e) hc nch ho (I.freeC x c e),hd⟩
 refine⟨I.ok,I.os,hg,⟨fun b o e n hb hx=>?_,fun b o e n hb hx=>?_,fun b o e n hx=>?_,fun b o e hx=>?_,fun b xs e=>tups b xs (I.base.tups b xs e),fun b o xs e=>frzs b o xs (I.base.frzs b o xs e),fun b ps e=>?_⟩,?_,fun x c e=>?_,?_,fun x c e=>?_,fun p hp=>?_,hok,I.len⟩
 .exact keep b o (neL b o e) hb (neC b o e hx) (I.base.keep b o e n hb hx) (I.base.free b o e n hx)
 .obtain⟨sl,e1⟩:=I.base.slot b o e n hb hx
  obtain⟨sl',e2⟩:=slot b _ (neL b o e) hb (neC b o e hx) e1 (I.base.free b o e n hx);exact⟨sl',e2⟩
 .obtain⟨o',e1⟩:=I.base.there b o e hx
  exact free b o' (neC b o e hx) e1 (I.base.free b o e n hx)
 .obtain⟨o',e1⟩:=I.base.there b o e hx
  exact there b o' (neC b o e hx) e1
 .obtain⟨m1,e1⟩:=I.base.tbls b ps e
  obtain⟨m2,e2⟩:=tbls b _ e1;exact⟨m1++m2,by rw[e2,Array.append_assoc]⟩
 .obtain⟨m,hn,hl⟩:=I.loc
  refine⟨m,ns m hn,fun i x v e1 e2 e3=>?_⟩;obtain⟨u,r,l⟩:=hl i x v e1 e2 e3;refine⟨u,r,?_⟩;rcases l with l|⟨k,c,e,z⟩
  .exact .inl l
  .exact .inr ⟨k,c,e,cellK x c e _ z⟩
 .obtain⟨v,z⟩:=I.cell x c e
  exact⟨v,cellK x c e v z⟩
 .obtain⟨m,⟨o,_,_,ho,_⟩,_⟩:=I.loc
  exact free _ o (fun z=>(hch _ z).2.1 rfl) ho I.free
 .obtain⟨v,o,ho,hd⟩:=I.cell x c e
  exact free c o (fun z=>(hch c z).2.2.1 x c e rfl) ho (I.freeC x c e)
 .obtain⟨e,n,ne,nf,d⟩:=I.pin p hp
  have nch:p.1∉ch:=fun z=>(hch p.1 z).2.2.2 p hp rfl;exact⟨keep p.1 p.2 ne nf nch e n,free p.1 p.2 nch e n,ne,nf,d⟩
theorem Inv.un{t':Nat}(I:Inv X pins σ H s)(u:Un X.fs [] H H' s.heap h')(hok:HOk X.prog X.w H' h'):Inv X pins σ H' { s with heap:=h',toks:=t' }:=by
 obtain⟨m,⟨o,es,ep,ho,r⟩,_⟩:=id I.loc;obtain⟨sl,hL⟩:=u.any ho I.free (by simp);exact I.step (g':=s.gens) (d':=s.drawn) (ch:=[]) (fun _ z=>nomatch z) (fun b o _ hb _ e n=>u.keep b o e n hb (by simp)) (fun b o _ hb _ e n=>u.slot b o e n hb (by simp)) (fun b o _ e n=>u.free b o e n (by simp)) (fun b o _ e=>u.there b o e (by simp)) u.tups u.frzs u.tbls (fun m' hm=>by
  obtain⟨o',es',ep',ho',r'⟩:=hm;rw[ho] at ho'; cases ho';exact⟨_,es',ep',hL,r'⟩) hok I.bare
theorem Inv.call{g':Array GenState}{t':Nat}{d':Drawn}{ch:List Addr}(I:Inv X pins σ H s)(u:Un (frs X.stack) ch H H' s.heap h')(hok:HOk X.prog X.w H' h')(hg:AllBare g')(hch:∀b∈ch,(b∈X.ex\/X.s₀.heap.objs.size<=b)/\b≠X.env.locals/\(∀x c,X.env.cells.lookup x=some c->c≠b)/\∀p∈X.pn++pins,p.1≠b):
  Inv X pins σ H' { s with heap:=h',gens:=g',drawn:=d',toks:=t' }:=by
 obtain⟨m,⟨o,es,ep,ho,r⟩,_⟩:=id I.loc;obtain⟨sl,hL⟩:=u.any ho I.free fun z=>(hch _ z).2.1 rfl;exact I.step (ch:=ch) hch (fun b o hL hb hc e n=>u.keep b o e n (fun z=>(List.mem_cons.mp (I.stkSub b z)).elim hL hb) hc) (fun b o _ _ hc e n=>u.any e n hc) (fun b o hc e n=>u.free b o e n hc) (fun b o hc e=>u.there b o e hc) u.tups u.frzs u.tbls (fun m' hm=>by
  obtain⟨o',es',ep',ho',r'⟩:=hm;rw[ho] at ho'; cases ho';exact⟨_,es',ep',hL,r'⟩) hok hg
theorem Inv.turned{t':Nat}{it:Addr}(I:Inv X pins σ H s)(k:∀b o,b≠it->s.heap.get? b=some o->h'.get? b=some o)(hn:H it=none)(hL:it≠X.env.locals)(h1:it∈X.ex\/X.s₀.heap.objs.size<=it)(h2:∀x c,X.env.cells.lookup x=some c->c≠it)(h3:∀p∈X.pn++pins,p.1≠it):Inv X pins σ H { s with heap:=h',toks:=t' }:=by
 have nit:∀b u,H b=some u->b≠it:=fun b u e z=>by rw[z,hn] at e; cases e
 refine I.step (g':=s.gens) (d':=s.drawn) (ch:=[it]) (fun b hb=>?_) (fun b o _ _ hc e _=>k b o (fun z=>hc (by simp[z])) e) (fun b o _ _ hc e _=>⟨o.slots,k b o (fun z=>hc (by simp[z])) e⟩) (fun _ _ _ _ n=>n)
  (fun b o hc e=>⟨o,k b o (fun z=>hc (by simp[z])) e⟩) (fun _ _ e=>e) (fun _ _ _ e=>e) (fun b ps e=>⟨#[],by rw[e]; simp⟩) (fun m hm=>?_) (fun b u e=>?_) I.bare
 .have e:b=it:=by simpa using hb
  subst e;exact⟨h1,hL,h2,h3⟩
 .obtain⟨o,es,ep,ho,r⟩:=hm
  exact⟨o,es,ep,k _ o (Ne.symm hL) ho,r⟩
 .refine(I.hok b u e).stay (fun c v hc q=>k c v ?_ q) (fun _ q=>q) fun _ _ q=>q
  rcases hc with z|z
  .rw[z]; exact nit b u e
  .exact nit c _ z
theorem Inv.tok(I:Inv X pins σ H s)(t:Nat):Inv X pins σ H { s with toks:=t }:=I.un (h':=s.heap) (t':=t) Un.refl I.hok
theorem Inv.kept{t':Nat}(I:Inv X pins σ H s)(k:∀b u,s.heap.get? b=some u->h'.get? b=some u):Inv X pins σ H { s with heap:=h',toks:=t' }:=I.un (Un.kept k) (I.hok.kept k)
theorem Inv.laid{a:Addr}{o:HO}{t':Nat}(I:Inv X pins σ H s)(k:∀b u,s.heap.get? b=some u->h'.get? b=some u)(hp:s.heap.objs.size<=a)(new:Cg X.prog X.w (upd H a o) h' a o):
  Inv X pins σ (upd H a o) { s with heap:=h',toks:=t' }:=I.un (Un.laid k hp (I.hok.fresh hp)) (I.hok.laid k hp new)
theorem Inv.write{x e:Addr}{o:HO}{t':Nat}(I:Inv X pins σ H s)(mu:Mut (H x))(he:e=x\/H e=some (.own x))(k:∀b u,b≠e->s.heap.get? b=some u->h'.get? b=some u)(heo:∃u,h'.get? e=some u)(new:Cg X.prog X.w (upd H x o) h' x o):Inv X pins σ (upd H x o) { s with heap:=h',toks:=t' }:=I.un (Un.write mu he k heo) (I.hok.write mu he k heo new)
theorem Inv.pins_of{pins':List (Addr×Obj)}(I:Inv X pins σ H s)(h:∀p∈pins',s.heap.get? p.1=some p.2/\H p.1=none/\p.1≠X.env.locals/\p.1∉X.fs/\∀v,p.2.data≠.cell v):Inv X pins' σ H s:=
 ⟨I.ok,I.os,I.bare,I.base,I.loc,I.cell,I.free,I.freeC,fun p hp=>(List.mem_append.mp hp).elim (fun z=>I.pin p (List.mem_append_left _ z)) (h p),I.hok,I.len⟩
theorem LF{N:List Str}(hN:N.Nodup){i j:Nat}{x:Str}(a:N[i]? = some x)(b:N[j]? = some x):i=j:=by
 obtain⟨h1,e1⟩:=List.getElem?_eq_some_iff.mp a;obtain⟨h2,e2⟩:=List.getElem?_eq_some_iff.mp b;exact(List.getElem_inj hN).mp (e1.trans e2.symm)
theorem OX{M:Model}{A:Around}{E:Value->Shared->Prop}{i:Nat}{x:Str}{v:V}{u:Value}{Q:Unit->Shared->Prop}(I:Inv X pins σ H s)(hN:X.N.Nodup)(hi:X.N[i]? = some x)(hx:Loc X.env.scope x)(r:RelV v u)(h:∀s',Inv X pins (σ.set i (some v)) H s'->(∃a,Heap.SameBut a s.heap s'.heap/\(a=X.env.locals\/X.env.cells.lookup x=some a))->Q () s')(hf:X.fn x=true\/X.env.scope.names.lookup x=some .local:=by first|exact .inl rfl|exact .inr rfl|assumption):wpAny M A (storeName X.env x u) Q E s:=by
 obtain⟨m,hn,hl⟩:=id I.loc;have hcls:(X.env.scope.kind==.class || (X.env.scope.kind==.module&&X.env.locals != X.env.globals))=false:=by rw[I.ok.kind]; rfl
 have hiσ:i<σ.length:=by rw[I.len]; exact(List.getElem?_eq_some_iff.mp hi).1
 have cne:=I.cne;have tracked:∀{a:Addr} {h':Heap},(∃o,s.heap.get? a=some o/\H a=none)->Heap.SameBut a s.heap h'->HOk X.prog X.w H h':=fun {a h'} ha hs b ob e=>by
  obtain⟨_,_,hfree⟩:=ha;refine(I.hok b ob e).stay (fun c w' hc q=>(hs.2 c ?_).trans q) (fun _ q=>q) fun _ _ q=>q;rintro rfl;rcases hc with rfl|hc
  .rw[hfree] at e; cases e
  .rw[hfree] at hc; cases hc
 rcases hx with hk|hk
 .refine wpAny_storeName_local hk hn (fun h' hn' hs=>?_) hcls
  obtain⟨oL,_,_,hoL,_⟩:=id hn;refine h _ ⟨I.ok,I.os,I.bare,⟨fun b o e n hb hx=>?_,fun b o e n hb hx=>?_,I.base.free,fun b o e hx=>?_,I.base.tups,I.base.frzs,I.base.tbls⟩,⟨_,hn',fun j y v' e1 e2 e3=>?_⟩,fun y c e=>?_,I.free,I.freeC,fun p hp=>?_,tracked ⟨oL,hoL,I.free⟩ hs,by simpa using I.len⟩ ⟨_,hs,.inl rfl⟩
  .exact(hs.2 b (Nat.ne_of_lt (Nat.lt_of_lt_of_le (Heap.lt_size e) I.ok.above))).trans (I.base.keep b o e n hb hx)
  .obtain⟨sl,e1⟩:=I.base.slot b o e n hb hx
   exact⟨sl,(hs.2 b (Nat.ne_of_lt (Nat.lt_of_lt_of_le (Heap.lt_size e) I.ok.above))).trans e1⟩
  .obtain⟨o',e1⟩:=I.base.there b o e hx
   exact⟨o',(hs.2 b (Nat.ne_of_lt (Nat.lt_of_lt_of_le (Heap.lt_size e) I.ok.above))).trans e1⟩
  .by_cases hj:j=i
   .subst hj
    rw[hi] at e1; cases e1;rw[List.getElem?_set_self hiσ] at e2;cases e2;exact⟨u,r,.inl ⟨hk,by simp⟩⟩
   .rw[List.getElem?_set_ne (Ne.symm hj)] at e2
    obtain⟨u',r',q⟩:=hl j y v' e1 e2 e3;refine⟨u',r',?_⟩;rcases q with ⟨k,e⟩|⟨k,c,e,z⟩
    .refine .inl ⟨k,?_⟩
     have:y≠x:=fun e=>hj (LF hN e1 (e ▸ hi));simp[this,e]
    .exact .inr ⟨k,c,e,z.sameBut hs (cne y c e)⟩
  .obtain⟨w',z⟩:=I.cell y c e
   exact⟨w',z.sameBut hs (cne y c e)⟩
  .obtain⟨e,n,ne,nf,d⟩:=I.pin p hp
   exact⟨(hs.2 p.1 ne).trans e,n,ne,nf,d⟩
 .have hfn:X.fn x=true:=by
   rcases hf with z|z
   .exact z
   .rw[z] at hk; cases hk
  obtain⟨c,hc⟩:=I.ok.has x (.inl hk);obtain⟨w',z⟩:=I.cell x c hc;refine wpAny_storeName_cell I.ok.kind hk hc z (fun h' hc' hs=>?_);obtain⟨oc,hoc,hocd⟩:=id z;refine h { s with heap:=h' } ⟨I.ok,I.os,I.bare,⟨fun b o e n hb hx=>?_,fun b o e n hb hx=>?_,I.base.free,fun b o e hx=>?_,I.base.tups,I.base.frzs,I.base.tbls⟩,⟨m,hn.sameBut hs (Ne.symm (cne x c hc)),fun j y v' e1 e2 e3=>?_⟩,fun y c' e=>?_,I.free,I.freeC,fun p hp=>?_,tracked ⟨oc,hoc,I.freeC x c hc⟩ hs,by simpa using I.len⟩ ⟨c,hs,.inr hc⟩
  .exact(hs.2 b (Nat.ne_of_lt (Nat.lt_of_lt_of_le (Heap.lt_size e) (I.ok.cab x c hfn hc)))).trans (I.base.keep b o e n hb hx)
  .obtain⟨sl,e1⟩:=I.base.slot b o e n hb hx
   exact⟨sl,(hs.2 b (Nat.ne_of_lt (Nat.lt_of_lt_of_le (Heap.lt_size e) (I.ok.cab x c hfn hc)))).trans e1⟩
  .obtain⟨o',e1⟩:=I.base.there b o e hx
   exact⟨o',(hs.2 b (Nat.ne_of_lt (Nat.lt_of_lt_of_le (Heap.lt_size e) (I.ok.cab x c hfn hc)))).trans e1⟩
  .by_cases hj:j=i
   .subst hj
    rw[hi] at e1; cases e1;rw[List.getElem?_set_self hiσ] at e2;cases e2;exact⟨u,r,.inr ⟨.inl hk,c,hc,hc'⟩⟩
   .rw[List.getElem?_set_ne (Ne.symm hj)] at e2
    obtain⟨u',r',q⟩:=hl j y v' e1 e2 e3;refine⟨u',r',?_⟩;rcases q with q|⟨k,c',e,z'⟩
    .exact .inl q
    .refine .inr ⟨k,c',e,z'.sameBut hs ?_⟩
     rintro rfl;exact hj (LF hN e1 (I.ok.inj _ _ _ e hc ▸ hi))
  .by_cases hcc:c'=c
   .subst hcc; exact⟨_,hc'⟩
   .obtain⟨w2,z2⟩:=I.cell y c' e
    exact⟨w2,z2.sameBut hs hcc⟩
  .obtain⟨e,n,ne,nf,d⟩:=I.pin p hp
   refine⟨(hs.2 p.1 ?_).trans e,n,ne,nf,d⟩;intro q;rw[q,hoc] at e;have q':oc=p.2:=Option.some.inj e;exact d w' (by rw[<- q']; exact hocd)
theorem Fy{M:Model}{A:Around}{E:Value->Shared->Prop}{i:Nat}{x:Str}{v:V}{u:Value}{Q:Unit->Shared->Prop}(I:Inv X pins σ H s)(hN:X.N.Nodup)(hi:X.N[i]? = some x)(hx:Loc X.env.scope x)(r:RelV v u)(h:∀s',Inv X pins (σ.set i (some v)) H s'->Q () s')(hf:X.fn x=true\/X.env.scope.names.lookup x=some .local:=by first|exact .inl rfl|exact .inr rfl|assumption):wpAny M A (storeName X.env x u) Q E s:=
 OX I hN hi hx r (fun s' I' _=>h s' I') hf
theorem Inv.call'{s':Shared}{ch:List Addr}(I:Inv X pins σ H s)(ho:s'.os=s.os)(u:Un (frs X.stack) ch H H' s.heap s'.heap)(hok:HOk X.prog X.w H' s'.heap)(hg:AllBare s'.gens)(hch:∀b∈ch,(b∈X.ex\/X.s₀.heap.objs.size<=b)/\b≠X.env.locals/\(∀x c,X.env.cells.lookup x=some c->c≠b)/\∀p∈X.pn++pins,p.1≠b):Inv X pins σ H' s':=by
 obtain⟨h',g',d',t',o'⟩:=s';have e:o'=s.os:=ho;subst e;exact I.call (g':=g') (t':=t') (d':=d') u hok hg hch
end
noncomputable abbrev XK:=Value->Option Addr->Hp->Prop
noncomputable abbrev St:=List (Option V)
noncomputable abbrev VK:=V->Hp->Prop
noncomputable abbrev TE:=St->Hp->VK->Prop
noncomputable abbrev TT:=St->Hp->(Bool->Hp->Prop)->Prop
noncomputable abbrev TA:=St->Hp->(List V->Hp->Prop)->Prop
structure Ends where
 nx:St->Hp->Prop
 rt:VK
 bk:St->Hp->Prop:=fun _ _=>False
 ct:St->Hp->Prop:=fun _ _=>False
noncomputable abbrev TS:=Ends->St->Hp->Prop
noncomputable def EP(X:Cx)(pins:List (Addr×Obj))(σ:St)(Q:VK)(u:Value)(s':Shared):Prop:=∃v H',Inv X pins σ H' s'/\RelV v u/\Q v H'
noncomputable def TP(X:Cx)(pins:List (Addr×Obj))(σ:St)(Q:Bool->Hp->Prop)(b:Bool)(s':Shared):Prop:=∃H',Inv X pins σ H' s'/\Q b H'
noncomputable def AP(X:Cx)(pins:List (Addr×Obj))(σ:St)(Q:List V->Hp->Prop)(us:List Value)(s':Shared):Prop:=∃vs H',Inv X pins σ H' s'/\Vals vs us/\Q vs H'
noncomputable def SP(X:Cx)(pins:List (Addr×Obj))(D:Ends)(f:Flow)(s':Shared):Prop:=
 match f with
 | .next=>∃σ' H',Inv X pins σ' H' s'/\D.nx σ' H'
 | .brk=>∃σ' H',Inv X pins σ' H' s'/\D.bk σ' H'
 | .cont=>∃σ' H',Inv X pins σ' H' s'/\D.ct σ' H'
 | .ret u=>∃v σ' H',Inv X pins σ' H' s'/\RelV v u/\D.rt v H'
noncomputable def PE(X:Cx)(e:Expr)(t:TE):Prop:=
 ∀(pins:List (Addr×Obj)) (s:Shared) (σ:St) (H:Hp) (Q:VK),Inv X pins σ H s->t σ H Q->wpAny (model X.prog X.w) X.A (eval e X.env) (EP X pins σ Q) X.xe s
noncomputable def PT(X:Cx)(e:Expr)(t:TT):Prop:=
 ∀(pins:List (Addr×Obj)) (s:Shared) (σ:St) (H:Hp) (Q:Bool->Hp->Prop),Inv X pins σ H s->t σ H Q->wpAny (model X.prog X.w) X.A (isTrue e X.env (eval e X.env)) (TP X pins σ Q) X.xe s
noncomputable def PW(X:Cx)(e:Expr)(t:TT):Prop:=
 ∀(whole:Sem Value) (pins:List (Addr×Obj)) (s:Shared) (σ:St) (H:Hp) (Q:Bool->Hp->Prop),Inv X pins σ H s->t σ H Q->wpAny (model X.prog X.w) X.A (isTrue e X.env whole) (TP X pins σ Q) X.xe s
theorem PW.pt{X:Cx}{e:Expr}{t:TT}(h:PW X e t):PT X e t:=h _
noncomputable def PA(X:Cx)(es:List Expr)(t:TA):Prop:=
 ∀(pos:Pos) (pins:List (Addr×Obj)) (s:Shared) (σ:St) (H:Hp) (Q:List V->Hp->Prop),Inv X pins σ H s->t σ H Q->wpAny (model X.prog X.w) X.A (spliced (backTo pos (starEach es X.env))) (AP X pins σ Q) X.xe s
noncomputable def PS(X:Cx)(st:Stmt)(t:TS):Prop:=
 ∀(pins:List (Addr×Obj)) (s:Shared) (σ:St) (H:Hp) (D:Ends),Inv X pins σ H s->t D σ H->wpAny (model X.prog X.w) X.A (exec st X.env) (SP X pins D) X.xe s
noncomputable def PSs(X:Cx)(st:List Stmt)(t:TS):Prop:=
 ∀(pins:List (Addr×Obj)) (s:Shared) (σ:St) (H:Hp) (D:Ends),Inv X pins σ H s->t D σ H->wpAny (model X.prog X.w) X.A (execs st X.env) (SP X pins D) X.xe s
theorem thn{α:Type}{t:Sem α}{Q Q':α -> Shared->Prop}{M:Model}{A:Around}{E:Value->Shared->Prop}{s:Shared}(h:wpAny M A t Q E s)(hQ:∀a s,Q a s->Q' a s):wpAny M A t Q' E s:=wpAny_mono h hQ fun _ _ x=>x
end L2
namespace L2
open PySem PySem.Spec PyProof.Rows
section
variable{X:Cx}
noncomputable def L9(i:Nat):TE:=fun σ H Q=>∃v,σ[i]? = some (some v)/\Q v H
noncomputable def tC(v:V):TE:=fun _ H Q=>Q v H
theorem Iy{i:Nat}{x:Str}{pos:Pos}(hN:X.N[i]? = some x)(hv:Vis X.env.scope x)(hd:(x==("__debug__" : Str))=false:=by decide)(hcd:(x==("__classdict__" : Str))=false:=by decide):PE X (.Name x pos) (L9 i):=by
 intro pins s σ H Q I h;obtain⟨v,e,h⟩:=h;obtain⟨m,hn,hl⟩:=I.loc;obtain⟨u,r,l⟩:=hl i x v hN e hv;have fin:EP X pins σ Q u s:=⟨v,H,I,r,h⟩;rcases l with ⟨hk,hm⟩|⟨hk,c,hc,hcell⟩
 .exact wpAny_Name (wpAny_loadName_local I.ok.kind hk hn hm fin) hd
 .rcases hk with hk|hk
  .exact wpAny_Name (wpAny_loadName_cell I.ok.kind hk hc hcell fin) hd
  .exact wpAny_Name (wpAny_loadName_free I.ok.kind hk hc hcell fin hcd) hd
theorem MX{i j pos}:PE X (.Constant (.int i) j pos) (tC (.int i)):=fun _ _ _ H _ I h=>wpAny_Constant_int ⟨.int i,H,I.tok _,⟨_,rfl⟩,h⟩
theorem WI{b j pos}:PE X (.Constant (.bool b) j pos) (tC (.bl b)):=fun _ _ _ H _ I h=>Constant_bool ⟨.bl b,H,I,rfl,h⟩
theorem Vg{j pos}:PE X (.Constant .none j pos) (tC .non):=fun _ _ _ H _ I h=>Constant_none ⟨.non,H,I,rfl,h⟩
theorem Vj{x j pos}:PE X (.Constant (.str x) j pos) (tC (.str x)):=fun _ _ _ H _ I h=>Calls.Constant_str ⟨.str x,H,I.tok _,⟨_,rfl⟩,h⟩
noncomputable def Gl(X:Cx)(x:Str):Prop:=X.env.kindOf x=some .globalImplicit
theorem FJ{E:Value->Shared->Prop}{pins:List (Addr×Obj)}{s:Shared}{σ:St}{H:Hp}{x:Str}{u:Value}{pos:Pos}{Q:Value->Shared->Prop}(I:Inv X pins σ H s)(hg:Gl X x)(hm:X.mg x=some u)(h:Q u s)(hd:(x==("__debug__" : Str))=false:=by decide):wpAny (model X.prog X.w) X.A (eval (.Name x pos) X.env) Q E s:=
 Calls.Name_function_global I.ok.kind hg (Calls.loadGlobal_global (by rw[I.ok.glob]; exact I.mod.glob.keeps I.bk) hm h) hd
theorem Ig{E:Value->Shared->Prop}{pins:List (Addr×Obj)}{s:Shared}{σ:St}{H:Hp}{x:Str}{u:Value}{pos:Pos}{Q:Value->Shared->Prop}(I:Inv X pins σ H s)(hg:Gl X x)(hm:X.mg x=none)(hv:bootBuiltins x=some u)(h:Q u s)(hn:x ≠ "__name__" := by decide)(hd:(x==("__debug__" : Str))=false:=by decide):wpAny (model X.prog X.w) X.A (eval (.Name x pos) X.env) Q E s:=by
 obtain⟨mb,h1,h2⟩:=I.mod.blt;exact Calls.Name_function_global I.ok.kind hg (Calls.loadGlobal_builtin (by rw[I.ok.glob]; exact I.mod.glob.keeps I.bk) hm (by rw[I.ok.blt]; exact h1.keeps I.bk) ((h2 x hn).trans hv) h) hd
theorem Ku{x:Str}{v:V}{u:Value}{pos:Pos}(hg:Gl X x)(hm:X.mg x=some u)(r:RelV v u)(hd:(x==("__debug__" : Str))=false:=by decide):PE X (.Name x pos) (tC v):=
 fun _ _ _ H _ I h=>FJ I hg hm ⟨v,H,I,r,h⟩ hd
theorem FN{x:Str}{v:V}{u:Value}{pos:Pos}(hg:Gl X x)(hm:X.mg x=none)(hv:bootBuiltins x=some u)(r:RelV v u)(hn:x ≠ "__name__" := by decide)(hd:(x==("__debug__" : Str))=false:=by decide):PE X (.Name x pos) (tC v):=
 fun _ _ _ H _ I h=>Ig I hg hm hv ⟨v,H,I,r,h⟩ hn hd
variable{a b:Expr}{ta tb:TE}{pos:Pos}
noncomputable def tB(t:TE):TT:=fun σ H Q=>t σ H fun x H1=>∃c,x=.bl c/\Q c H1
theorem Vr{e:Expr}{t:TE}(h:PE X e t)(he:∀whole,isTrue e X.env whole=(do let v <- whole; standAt e.pos; holding [v] (truthy v)):=by intro _; rfl):PT X e (tB t):=by
 intro pins s σ H Q I hw;refine isTrue_plain (thn (h pins s σ H _ I hw) fun v s1 ⟨x,H1,I1,r1,q1⟩=>?_) (he _);obtain⟨d,rfl,q⟩:=q1;cases r1;exact wpAny_truthy_bool ⟨H1,I1,q⟩
variable{tA tB':TT}{rest:List Expr}
noncomputable def tOr(t u:TT):TT:=fun σ H Q=>t σ H fun c H1=>if c=true then Q true H1 else u σ H1 Q
noncomputable def Xu(t:TT):TT:=fun σ H Q=>t σ H fun c H1=>Q (!c) H1
theorem Vs(ha:PT X a tA):PW X (.BoolOp .Or [a] pos) tA:=by
 intro wh pins s σ H Q I h;refine isTrue_or (thn (ha pins s σ H Q I h) fun c s1 e=>?_);cases c with
 | false=>exact isTrue_or_nil e
 | true=>exact e
theorem WM(ha:PT X a tA)(hb:PW X (.BoolOp .Or (b::rest) pos) tB'):PW X (.BoolOp .Or (a::b::rest) pos) (tOr tA tB'):=by
 intro wh pins s σ H Q I h;refine isTrue_or (thn (ha pins s σ H _ I h) fun c s1 yy=>?_);obtain⟨H1,I1,q1⟩:=yy;cases c with
 | true=>exact⟨H1,I1,q1⟩
 | false=>exact hb wh pins s1 σ H1 Q I1 q1
theorem Vq(ha:PT X a tA):PT X (.UnaryOp .Not a pos) (Xu tA):=by
 intro pins s σ H Q I h;exact isTrue_not (ha pins s σ H (fun c H1=>Q (!c) H1) I h)
noncomputable def W0(ta tb:TE):TE:=fun σ H Q=>ta σ H fun x H1=>∃c,x=.bl c/\if c=true then tb σ H1 Q else Q (.bl false) H1
noncomputable def Xv(ta tb:TE):TE:=fun σ H Q=>ta σ H fun x H1=>∃c,x=.bl c/\if c=true then Q (.bl true) H1 else tb σ H1 Q
noncomputable def W5(ta:TE):TE:=fun σ H Q=>ta σ H fun x H1=>∃c,x=.bl c/\Q (.bl (!c)) H1
theorem Vi{op}{t:TE}(h:PE X a t):PE X (.BoolOp op [a] pos) t:=fun pins s σ H Q I hw=>BoolOp_one (h pins s σ H Q I hw)
theorem U7(ha:PE X a ta)(hb:PE X (.BoolOp .And (b::rest) pos) tb):PE X (.BoolOp .And (a::b::rest) pos) (W0 ta tb):=by
 intro pins s σ H Q I h;refine BoolOp_and (thn (ha pins s σ H _ I h) fun v s1 yy=>?_);obtain⟨x,H1,I1,r1,q1⟩:=yy;obtain⟨c,rfl,q1⟩:=q1;cases r1;refine wpAny_truthy_bool ?_;cases c with
 | true=>exact hb pins s1 σ H1 Q I1 q1
 | false=>exact⟨.bl false,H1,I1,rfl,q1⟩
theorem WK(ha:PE X a ta)(hb:PE X (.BoolOp .Or (b::rest) pos) tb):PE X (.BoolOp .Or (a::b::rest) pos) (Xv ta tb):=by
 intro pins s σ H Q I h;refine BoolOp_or (thn (ha pins s σ H _ I h) fun v s1 yy=>?_);obtain⟨x,H1,I1,r1,q1⟩:=yy;obtain⟨c,rfl,q1⟩:=q1;cases r1;refine wpAny_truthy_bool ?_;cases c with
 | false=>exact hb pins s1 σ H1 Q I1 q1
 | true=>exact⟨.bl true,H1,I1,rfl,q1⟩
theorem Vh(ha:PE X a ta):PE X (.UnaryOp .Not a pos) (W5 ta):=by
 intro pins s σ H Q I h;refine UnaryOp_ (thn (ha pins s σ H _ I h) fun v s1 yy=>?_);obtain⟨x,H1,I1,r1,q1⟩:=yy;obtain⟨c,rfl,q1⟩:=q1;cases r1;exact not_of (wpAny_truthy_bool ⟨.bl (!c),H1,I1,rfl,q1⟩)
end
end L2
namespace L2
open PySem PySem.Spec PyProof.Rows
noncomputable def SqL(K:Frag)(H:Hp)(a:Addr)(xs:List V):Prop:=
 Rd H a (.lst xs) \/
  ∃(o:Obj) (its:Array Value) (n:Nat),K.lookup a=some o/\o.cls=.type "list" /\ o.dict=none/\o.data=.seq its n/\its.size<=sizeLine/\Vals xs its.toList
noncomputable def SqT(K:Frag)(H:Hp)(a:Addr)(xs:List V):Prop:=
 Rd H a (.tup xs) \/
  ∃(o:Obj) (its:Array Value) (n:Nat),K.lookup a=some o/\o.cls=.type "tuple" /\ o.data=.seq its n/\its.size<=sizeLine/\Vals xs its.toList
noncomputable def Xg:Value->Option V
 | .none=>some .non
 | .bool b=>some (.bl b)
 | .int i _=>some (.int i)
 | .str x _=>some (.str x)
 | .bytes b _=>some (.byt b)
 | .float b _=>some (.flt b)
 | .ref a=>some (.ref a)
 | .type n=>some (.ty n)
 | _=>none
theorem RelV.abs{x:V}{u:Value}(r:RelV x u):Xg u=some x:=by
 cases x with
 | non=>cases r; rfl
 | bl _=>cases r; rfl
 | int _=>obtain⟨t,rfl⟩:=r; rfl
 | str _=>obtain⟨t,rfl⟩:=r; rfl
 | byt _=>obtain⟨t,rfl⟩:=r; rfl
 | flt _=>obtain⟨t,rfl⟩:=r; rfl
 | ref _=>cases r; rfl
 | ty _=>cases r; rfl
theorem RelV.inj{x y:V}{u:Value}(r:RelV x u)(q:RelV y u):x=y:=Option.some.inj (r.abs.symm.trans q.abs)
theorem Vals.inj{xs ys:List V}{us:List Value}(h:Vals xs us):Vals ys us->xs=ys:=by
 induction h generalizing ys with
 | nil=>intro q; cases q; rfl
 | cons r t ih =>
  intro q;cases q with
  | cons r' t'=>rw[r.inj r',ih t']
section
variable{X:Cx}{pins:List (Addr×Obj)}{σ:St}{H:Hp}{s:Shared}{a:Addr}{xs ys:List V}
theorem Inv.list(I:Inv X pins σ H s)(h:SqL X.K H a xs):∃its:List Value,Vals xs its/\PlainL s.heap a its.toArray/\xs.length<=sizeLine:=by
 rcases h with h|⟨o,its,n,hk,hc,hd,hs,hz,r⟩
 .obtain⟨z,its,n,r,e⟩:=h.ok I.hok
  exact⟨its,r,⟨_,n,e,rfl,rfl,rfl⟩,z⟩
 .refine⟨its.toList,r,⟨o,n,I.kIn a o hk,hc,hd,by simpa using hs⟩,?_⟩
  have e:=r.length;simp only[Array.length_toList] at e;lia
theorem Inv.tuple(I:Inv X pins σ H s)(h:SqT X.K H a xs):∃its:List Value,Vals xs its/\IsTup s.heap a its.toArray/\xs.length<=sizeLine:=by
 rcases h with h|⟨o,its,n,hk,hc,hs,hz,r⟩
 .obtain⟨z,its,r,p⟩:=h.ok I.hok
  exact⟨its,r,p,z⟩
 .refine⟨its.toList,r,⟨o,I.kIn a o hk,hc,n,by simpa using hs⟩,?_⟩
  have e:=r.length;simp only[Array.length_toList] at e;lia
theorem Inv.list_inj(I:Inv X pins σ H s)(h:SqL X.K H a xs)(h':SqL X.K H a ys):xs=ys:=by
 obtain⟨its,r,⟨o,n,e,_,_,d⟩,_⟩:=I.list h;obtain⟨its',r',⟨o',n',e',_,_,d'⟩,_⟩:=I.list h';rw[e] at e'; cases e';rw[d] at d';injection d' with d1 _;have:its=its':=by simpa using congrArg Array.toList d1
 subst this;exact r.inj r'
theorem Inv.tuple_inj(I:Inv X pins σ H s)(h:SqT X.K H a xs)(h':SqT X.K H a ys):xs=ys:=by
 obtain⟨its,r,⟨o,e,_,n,d⟩,_⟩:=I.tuple h;obtain⟨its',r',⟨o',e',_,n',d'⟩,_⟩:=I.tuple h';rw[e] at e'; cases e';rw[d] at d';injection d' with d1 _;have:its=its':=by simpa using congrArg Array.toList d1
 subst this;exact r.inj r'
end
noncomputable abbrev Cx.wish(X:Cx)(E:Value->Shared->Prop):Cx:={ X with xe:=E }
noncomputable abbrev Cx.nox(X:Cx):Cx:=X.wish fun _ _=>False
theorem Cx.Ok.wish{X:Cx}(ok:X.Ok)(E:Value->Shared->Prop):(X.wish E).Ok:=
 ⟨ok.mod,ok.kind,ok.glob,ok.blt,ok.above,ok.inj,ok.has,ok.cab,ok.hd,ok.frames,ok.stk,ok.exf,ok.bs,ok.bsz,ok.noex,ok.exfs,ok.funs,ok.frf,ok.tb⟩
theorem Cx.Ok.unwish{X:Cx}{E:Value->Shared->Prop}(ok:(X.wish E).Ok):X.Ok:=
 ⟨ok.mod,ok.kind,ok.glob,ok.blt,ok.above,ok.inj,ok.has,ok.cab,ok.hd,ok.frames,ok.stk,ok.exf,ok.bs,ok.bsz,ok.noex,ok.exfs,ok.funs,ok.frf,ok.tb⟩
section
variable{X:Cx}{pins:List (Addr×Obj)}{σ:St}{H:Hp}{s:Shared}{E:Value->Shared->Prop}
theorem Inv.wish(I:Inv X pins σ H s)(E:Value->Shared->Prop):Inv (X.wish E) pins σ H s:=⟨I.ok.wish E,I.os,I.bare,I.base,I.loc,I.cell,I.free,I.freeC,I.pin,I.hok,I.len⟩
theorem Inv.unwish(I:Inv (X.wish E) pins σ H s):Inv X pins σ H s:=⟨I.ok.unwish,I.os,I.bare,I.base,I.loc,I.cell,I.free,I.freeC,I.pin,I.hok,I.len⟩
theorem SP.unwish{D:Ends}{f:Flow}{s':Shared}(h:SP (X.wish E) pins D f s'):SP X pins D f s':=by
 cases f with
 | next=>obtain⟨σ',H',I,q⟩:=h; exact⟨σ',H',I.unwish,q⟩
 | brk=>obtain⟨σ',H',I,q⟩:=h; exact⟨σ',H',I.unwish,q⟩
 | cont=>obtain⟨σ',H',I,q⟩:=h; exact⟨σ',H',I.unwish,q⟩
 | ret u=>obtain⟨v,σ',H',I,r,q⟩:=h; exact⟨v,σ',H',I.unwish,r,q⟩
theorem PSs.nox{st:List Stmt}{t:TS}(h:PSs X.nox st t):PSs X st t:=fun pins s σ H D I hw =>
 wpAny_mono (h pins s σ H D (I.wish _) hw) (fun _ _ q=>q.unwish) fun _ _ z=>False.elim z
end
section
variable{X:Cx}{st:Stmt}{rest:List Stmt}{t u:TS}{e:Expr}{te:TE}{pos:Pos}
noncomputable def Tz:TS:=fun D σ H=>D.nx σ H
noncomputable def Xa(t u:TS):TS:=fun D σ H=>t { D with nx:=u D } σ H
theorem Ss:PSs X [] Tz:=fun _ _ σ H _ I h=>wpAny_execs_nil ⟨σ,H,I,h⟩
theorem LO(h1:PS X st t)(h2:PSs X rest u):PSs X (st::rest) (Xa t u):=by
 intro pins s σ H D I h;refine wpAny_execs_cons (thn (h1 pins s σ H { D with nx:=u D } I h) fun f s1 q=>?_);cases f with
 | next =>
  obtain⟨σ',H',I',q⟩:=q;exact h2 pins s1 σ' H' D I' q
 | ret v=>exact q
 | brk=>exact q
 | cont=>exact q
theorem Su(h1:PS X st t):PSs X [st] t:=by
 intro pins s σ H D I h;refine wpAny_execs_cons (thn (h1 pins s σ H D I h) fun f s1 q=>?_);cases f with
 | next=>exact wpAny_execs_nil q
 | ret v=>exact q
 | brk=>exact q
 | cont=>exact q
theorem Inv.quiet{pins:List (Addr×Obj)}{σ:St}{H:Hp}{s:Shared}(I:Inv X pins σ H s):interactive X.env=false:=by simp[interactive,I.ok.kind]
noncomputable def JB(te:TE):TS:=fun D σ H=>te σ H fun _ H1=>D.nx σ H1
theorem GI(he:PE X e te)(hs:swapsWith e none pos.line X.env=pure false:=by rfl):PS X (.Expr e pos) (JB te):=by
 intro pins s σ H D I h;exact wpAny_Expr_any (thn (he pins s σ H _ I h) fun v s1 ⟨x,H1,I1,r1,q1⟩=>⟨σ,H1,I1,q1⟩) I.quiet hs
noncomputable def W8(te:TE):TS:=fun D σ H=>te σ H D.rt
theorem Vo(he:PE X e te):PS X (.Return (some e) pos) (W8 te):=by
 intro pins s σ H D I h;exact wpAny_Return_some (thn (he pins s σ H _ I h) fun v s1 ⟨x,H1,I1,r1,q1⟩=>⟨x,σ,H1,I1,r1,q1⟩)
noncomputable def VT(c:TT)(t u:TS):TS:=fun D σ H=>c σ H fun b H1=>if b=true then t D σ H1 else u D σ H1
theorem Tp{c:Expr}{a b:List Stmt}{tc:TT}(hc:PT X c tc)(ha:PSs X a t)(hb:PSs X b u):PS X (.If c a b pos) (VT tc t u):=by
 intro pins s σ H D I h;refine wpAny_If (thn (hc pins s σ H _ I h) fun d s1 yy=>?_);obtain⟨H1,I1,q1⟩:=yy;cases d with
 | true=>exact ha pins s1 σ H1 D I1 q1
 | false=>exact hb pins s1 σ H1 D I1 q1
end
noncomputable abbrev TG:=V->St->Hp->(St->Hp->Prop)->Prop
noncomputable abbrev TGs:=List V->St->Hp->(St->Hp->Prop)->Prop
noncomputable def PG(X:Cx)(target:Expr)(t:TG):Prop:=
 ∀(pins:List (Addr×Obj)) (s:Shared) (σ:St) (H:Hp) (v:V) (u:Value) (Q:St->Hp->Prop),Inv X pins σ H s->RelV v u->t v σ H Q ->
  wpAny (model X.prog X.w) X.A (assign target X.env u) (fun _ s'=>∃σ' H',Inv X pins σ' H' s'/\Q σ' H') X.xe s
noncomputable def PGs(X:Cx)(ts:List Expr)(t:TGs):Prop:=
 ∀(pins:List (Addr×Obj)) (s:Shared) (σ:St) (H:Hp) (vs:List V) (us:List Value) (Q:St->Hp->Prop),Inv X pins σ H s->Vals vs us->t vs σ H Q ->
  wpAny (model X.prog X.w) X.A (assignInOrder ((assignEach ts X.env).map (·.2)) us) (fun _ s'=>∃σ' H',Inv X pins σ' H' s'/\Q σ' H') X.xe s
noncomputable abbrev TQ:=V->V->V->Hp->(Hp->Prop)->Prop
noncomputable def Wb(X:Cx)(t:TQ):Prop:=
 ∀(pins:List (Addr×Obj)) (s:Shared) (σ:St) (H:Hp) (o i v:V) (ov iv u:Value) (Q:Hp->Prop),Inv X pins σ H s->RelV o ov->RelV i iv->RelV v u->t o i v H Q ->
  wpAny (model X.prog X.w) X.A (setItem ov iv u) (fun _ s'=>∃H',Inv X pins σ H' s'/\Q H') X.xe s
section
variable{X:Cx}{pos:Pos}
noncomputable def HW(i:Nat):TG:=fun v σ H Q=>Q (σ.set i (some v)) H
theorem HF{i:Nat}{x:Str}(hN:X.N.Nodup)(hi:X.N[i]? = some x)(hx:Loc X.env.scope x)(hf:X.fn x=true\/X.env.scope.names.lookup x=some .local:=by first|exact .inl rfl|exact .inr rfl|assumption):PG X (.Name x pos) (HW i):=by
 intro pins s σ H v u Q I r h;exact wpAny_assign_Name (Fy I hN hi hx r (fun s' I'=>⟨_,H,I',h⟩) hf)
noncomputable def Wn:TGs:=fun vs σ H Q=>vs=[]/\Q σ H
noncomputable def S9(t:TG)(u:TGs):TGs:=fun vs σ H Q=>∃v r,vs=v::r/\t v σ H fun σ' H'=>u r σ' H' Q
theorem NO:PGs X [] Wn:=by
 intro pins s σ H vs us Q I r h;obtain⟨e,h⟩:=h;subst e;cases r;exact assignInOrder_nil ⟨σ,H,I,h⟩
theorem IA{e:Expr}{es:List Expr}{t:TG}{u:TGs}(h1:PG X e t)(h2:PGs X es u)(hs:(assignEach (e::es) X.env).map (·.2)=assign e X.env::(assignEach es X.env).map (·.2):=by rfl):PGs X (e::es) (S9 t u):=by
 intro pins s σ H vs us Q I r h;obtain⟨v,vr,e1,h⟩:=h;subst e1;cases r with
 | cons r rr =>
  rw[hs];refine assignInOrder_cons (thn (h1 pins s σ H _ _ _ I r h) fun _ s1 yy=>?_);obtain⟨σ1,H1,I1,q1⟩:=yy;exact h2 pins s1 σ1 H1 _ _ Q I1 rr q1
noncomputable def Ui(K:Frag)(n:Nat)(t:TGs):TG:=fun v σ H Q=>∃a xs,v=.ref a/\SqT K H a xs/\xs.length=n/\t xs σ H Q
theorem QG{es:List Expr}{k:Nat}{t:TGs}{n:Nat}(hc:X.calm=true)(h:PGs X es t)(hn:(assignEach es X.env).length=n:=by rfl)(hst:(assignEach es X.env).findIdx? (·.1)=none:=by rfl):PG X (.Tuple es k pos) (Ui X.K n t):=by
 intro pins s σ H v u Q I r hw;obtain⟨a,xs,e1,hq,hl,hw⟩:=hw;subst e1;cases r;obtain⟨its,rv,ht,hz⟩:=I.tuple hq;refine assign_Tuple_tuple (I.ok.hd hc) ht (by simp[hn,<- hl,rv.length]) hst fun h' hx=>?_;have I1:Inv X pins σ H { s with heap:=h' }:=I.kept (t':=s.toks) fun b o e=>hx b o (Nat.ne_of_lt (Heap.lt_size e)) e;exact h pins _ σ H xs _ Q I1 (by simpa using rv) hw
noncomputable def Wo(to ti:TE)(t:TQ):TG:=fun v σ H Q=>to σ H fun o H1=>ti σ H1 fun i H2=>t o i v H2 fun H3=>Q σ H3
theorem Vk{o i:Expr}{to ti:TE}{t:TQ}(ho:PE X o to)(hi:PE X i ti)(hs:Wb X t)(ha:∀v,assign (.Subscript o i pos) X.env v=(do
   let ov <- holding [v] (eval o X.env)
   let iv <- holding [v,ov] (eval i X.env)
   standAt pos
   holding [v,ov,iv] (setItem ov iv v)
   release [v,ov,iv] []):=by intro _; rfl):PG X (.Subscript o i pos) (Wo to ti t):=by
 intro pins s σ H v u Q I r h;rw[ha];refine wpAny_bind (wpAny_holding (thn (ho pins s σ H _ I h) fun ov s1 yy=>?_));obtain⟨x,H1,I1,r1,q1⟩:=yy;refine wpAny_bind (wpAny_holding (thn (hi pins s1 σ H1 _ I1 q1) fun iv s2 yy=>?_));obtain⟨y,H2,I2,r2,q2⟩:=yy;refine wpAny_bind (wpAny_standAt (wpAny_bind (wpAny_holding (thn (hs pins s2 σ H2 x y v ov iv u _ I2 r1 r2 r q2) fun _ s3 yy=>?_))));obtain⟨H3,I3,q3⟩:=yy;exact wpAny_release ⟨σ,H3,I3,q3⟩
noncomputable def OY(te:TE)(g:TG):TS:=fun D σ H=>te σ H fun x H1=>g x σ H1 D.nx
theorem QM{tg e:Expr}{te:TE}{g:TG}(he:PE X e te)(hg:PG X tg g)(hs:swapsWithSole [tg] e pos.line X.env=pure false:=by rfl)(hw:swappedStores [tg] e X.env=pure none:=by rfl)(h1:(assignEach [tg] X.env).map (·.2)=[assign tg X.env]:=by rfl):PS X (.Assign [tg] e pos) (OY te g):=by
 intro pins s σ H D I h;refine wpAny_Assign_stores (thn (he pins s σ H _ I h) fun v s1 yy=>?_) hs hw;obtain⟨x,H1,I1,r1,q1⟩:=yy;rw[h1];exact thn (hg pins s1 σ H1 x v _ I1 r1 q1) fun _ s2 q=>q
theorem Vp{i:Nat}{x:Str}{e:Expr}{te:TE}{pos':Pos}(hN:X.N.Nodup)(hi:X.N[i]? = some x)(hx:Loc X.env.scope x)(he:PE X e te)(hs:swapsWith e (some (.Name x pos')) pos.line X.env=pure false:=by rfl)(hf:X.fn x=true\/X.env.scope.names.lookup x=some .local:=by first|exact .inl rfl|exact .inr rfl|assumption):
  PS X (.Assign [.Name x pos'] e pos) (OY te (HW i)):=by
 intro pins s σ H D I h;refine wpAny_Assign_Name (thn (he pins s σ H _ I h) fun v s1 yy=>?_) hs;obtain⟨y,H1,I1,r1,q1⟩:=yy;exact Fy I1 hN hi hx r1 (fun s2 I2=>⟨_,H1,I2,q1⟩) hf
end
structure It where
 go:Nat->Hp->Prop
 yld:Nat->Hp->V->Hp->Prop
 stop:Nat->Hp->Prop
noncomputable def Ep(X:Cx)(pins:List (Addr×Obj))(H:Hp)(b:Addr):Prop:=
 H b=none/\b≠X.env.locals/\b∉X.fs/\(b∈X.ex\/X.s₀.heap.objs.size<=b)/\(∀x c,X.env.cells.lookup x=some c->c≠b)/\∀p∈X.pn++pins,p.1≠b
theorem Inv.fpOk{X:Cx}{pins:List (Addr×Obj)}{σ:St}{H H':Hp}{s:Shared}{b:Addr}(I:Inv X pins σ H s)(hb:s.heap.objs.size<=b)(hn:H' b=none):Ep X pins H' b:=by
 refine⟨hn,Nat.ne_of_gt (Nat.lt_of_lt_of_le I.lt hb),I.nofs hb,.inr (Nat.le_trans I.sz hb),fun x c e z=>?_,fun p hp z=>?_⟩
 .obtain⟨v,q⟩:=I.cell x c e
  exact absurd (Nat.lt_of_lt_of_le q.lt (by rw[z]; exact hb)) (Nat.lt_irrefl _)
 .exact absurd (Nat.lt_of_lt_of_le (Heap.lt_size (I.pin p hp).1) (by rw[z]; exact hb)) (Nat.lt_irrefl _)
structure Turn (P:Program) (w:World) (K:Frag) (tg:Expr) (J:It) (fp:List Addr) (it:Addr) (tn:Nat->Heap->Prop):Prop where
 mem:it∈fp
 obj:∀i h,tn i h->∀b∈fp,∃o,h.get? b=some o/\∀v,o.data≠.cell v
 keep:∀i h h',tn i h->(∀b∈fp,∀o,h.get? b=some o->h'.get? b=some o)->tn i h'
 item:∀(X:Cx),X.prog=P->X.w=w->X.K=K->X.calm=true->∀(i:Nat) (pins:List (Addr×Obj)) (s:Shared) (σ:St) (H:Hp) (E:Value->Shared->Prop),Inv X pins σ H s->(∀b∈fp,Ep X pins H b)->tn i s.heap->J.go i H ->
  wpAny (model P w) X.A (pyNext (.ref it)) (fun r s1=>∃u,r=some u /\
   wpAny (model P w) X.A (letOwnedTupleGo tg (.ref it) u) (fun _ s2=>∃x H',Inv X pins σ H' s2/\RelV x u/\J.yld i H x H'/\tn (i+1) s2.heap/\∀b∈fp,H' b=none) E s1) E s
 done:∀(X:Cx),X.prog=P->X.w=w->X.K=K->X.calm=true->∀(i:Nat) (pins:List (Addr×Obj)) (s:Shared) (σ:St) (H:Hp) (E:Value->Shared->Prop),Inv X pins σ H s->(∀b∈fp,Ep X pins H b)->tn i s.heap->J.stop i H ->
  wpAny (model P w) X.A (pyNext (.ref it)) (fun r s1=>r=none/\Inv X pins σ H s1) E s
 self:∀(A:Around) (i:Nat) (s:Shared) (Q:Value->Shared->Prop) (E:Value->Shared->Prop),tn i s.heap->Q (.ref it) s->wpAny (model P w) A (pyIter (.ref it)) Q E s
noncomputable abbrev TI:=St->Hp->(It->Hp->Prop)->Prop
noncomputable def PIE(X:Cx)(pins:List (Addr×Obj))(σ:St)(tg:Expr)(R:It->Hp->Prop)(itv:Value)(s2:Shared):Prop:=
 ∃(it:Addr) (fp:List Addr) (tn:Nat->Heap->Prop) (J:It) (H':Hp),itv=.ref it/\Inv X pins σ H' s2/\Turn X.prog X.w X.K tg J fp it tn/\tn 0 s2.heap/\(∀b∈fp,Ep X pins H' b)/\R J H'
noncomputable def PI(X:Cx)(tg iter:Expr)(wi:TI):Prop:=
 ∀(pins:List (Addr×Obj)) (s:Shared) (σ:St) (H:Hp) (R:It->Hp->Prop),Inv X pins σ H s->wi σ H R ->
  wpAny (model X.prog X.w) X.A (eval iter X.env) (fun v s1=>wpAny (model X.prog X.w) X.A (pyIter v) (PIE X pins σ tg R) X.xe s1) X.xe s
theorem Ll{M:Model}{A:Around}{E:Value->Shared->Prop}{s:Shared}{tg:Expr}{it:Addr}{u:Value}{o:Obj}{n:String}{vs:Array Value}{Q:Unit->Shared->Prop}(ho:s.heap.get? it=some o)(hc:o.cls=.type n)(hd:o.data=.fields vs)(hn:["enumerate","zip","dict_itemiterator","dict_reverseitemiterator","odict_iterator","itertools.zip_longest","itertools.pairwise"].contains n=false)(hQ:Q () s):wpAny M A (letOwnedTupleGo tg (.ref it) u) Q E s:=by
 unfold letOwnedTupleGo;cases tg<;>first
  | exact wpAny_pure hQ
  | (cases u<;>first
    | exact wpAny_pure hQ
    | (refine wpAny_bind (wpAny_load ho ?_)
       rw[hc,hd];show wpAny M A (if (["enumerate","zip","dict_itemiterator","dict_reverseitemiterator","odict_iterator","itertools.zip_longest","itertools.pairwise"].contains n&&vs[0]? == some (rawInt _))=true then _ else _) Q E s;rw[if_neg (by intro h; rw[hn,Bool.false_and] at h; cases h)];exact wpAny_pure hQ))
noncomputable def Itl(K:Frag)(a:Addr):It:=
 ⟨fun i H=>∃xs x,SqL K H a xs/\xs[i]? = some x,fun i H x H'=>H'=H/\∀xs,SqL K H a xs->xs[i]? = some x,fun i H=>∃xs,SqL K H a xs/\xs.length<=i⟩
noncomputable def Itt(K:Frag)(a:Addr):It:=
 ⟨fun i H=>∃xs x,SqT K H a xs/\xs[i]? = some x,fun i H x H'=>H'=H/\∀xs,SqT K H a xs->xs[i]? = some x,fun i H=>∃xs,SqT K H a xs/\xs.length<=i⟩
noncomputable def Itr(lo:Int)(n:Nat):It:=⟨fun i _=>i<n,fun i H x H'=>H'=H/\x=.int (lo+i),fun i _=>n<=i⟩
theorem O0{P:Program}{w:World}{K:Frag}{tg:Expr}(a it:Addr):Turn P w K tg (Itl K a) [it] it (fun i h=>h.IsListIter it a i) where
 mem:=by simp
 obj:=fun i h st b hb=>by
  have e:b=it:=by simpa using hb
  subst e;obtain⟨o,e,c,d⟩:=st;exact⟨o,e,fun v z=>by rw[d] at z; cases z⟩
 keep:=fun i h h' st k=>st.at fun o e=>k it (by simp) o e
 item:=by
  intro X hP hw hK hc i pins s σ H E I hf st hg;subst hP hw hK;obtain⟨xs,x,hq,hx⟩:=hg;obtain⟨its,rv,p,hz⟩:=I.list hq;obtain⟨u,hu,ru⟩:=rv.get hx;obtain⟨f0,f1,f2,f3,f4,f5⟩:=hf it (by simp);refine wpAny_pyNext_list_item st p.isList (x:=u) (by simpa using hu) fun h' st' sb=>?_;have I1:Inv X pins σ H { s with heap:=h' }:=I.turned (t':=s.toks) (fun b o hb e=>(sb.2 b hb).trans e) f0 f1 f3 f4 f5;obtain⟨o,e,c,d⟩:=id st';exact⟨u,rfl,Ll (s:={ s with heap:=h' }) e c d (by decide) ⟨x,H,I1,ru,⟨rfl,fun ys hy=>by rw[I.list_inj hy hq]; exact hx⟩,st',fun b hb=>(hf b hb).1⟩⟩
 done:=by
  intro X hP hw hK hc i pins s σ H E I hf st hg;subst hP hw hK;obtain⟨xs,hq,hx⟩:=hg;obtain⟨its,rv,p,hz⟩:=I.list hq;obtain⟨f0,f1,f2,f3,f4,f5⟩:=hf it (by simp);have hl:=rv.length;exact wpAny_pyNext_list_end (I.ok.hd hc) st p.isList (by simp; lia) fun h' eb=>⟨rfl,I.turned (t':=s.toks) (fun b o hb e=>eb b o hb e) f0 f1 f3 f4 f5⟩
 self:=fun _ _ _ _ _ st h=>wpAny_pyIter_listiter st h
theorem Ng{P:Program}{w:World}{K:Frag}{tg:Expr}(a it:Addr):Turn P w K tg (Itt K a) [it] it (fun i h=>h.IsTupleIter it a i) where
 mem:=by simp
 obj:=fun i h st b hb=>by
  have e:b=it:=by simpa using hb
  subst e;obtain⟨o,e,c,d⟩:=st;exact⟨o,e,fun v z=>by rw[d] at z; cases z⟩
 keep:=fun i h h' st k=>st.at fun o e=>k it (by simp) o e
 item:=by
  intro X hP hw hK hc i pins s σ H E I hf st hg;subst hP hw hK;obtain⟨xs,x,hq,hx⟩:=hg;obtain⟨its,rv,p,hz⟩:=I.tuple hq;obtain⟨u,hu,ru⟩:=rv.get hx;obtain⟨f0,f1,f2,f3,f4,f5⟩:=hf it (by simp);refine wpAny_pyNext_tuple_item st (show s.heap.IsTuple a its.toArray from p) (x:=u) (by simpa using hu) fun h' st' sb=>?_;have I1:Inv X pins σ H { s with heap:=h' }:=I.turned (t':=s.toks) (fun b o hb e=>(sb.2 b hb).trans e) f0 f1 f3 f4 f5;obtain⟨o,e,c,d⟩:=id st';exact⟨u,rfl,Ll (s:={ s with heap:=h' }) e c d (by decide) ⟨x,H,I1,ru,⟨rfl,fun ys hy=>by rw[I.tuple_inj hy hq]; exact hx⟩,st',fun b hb=>(hf b hb).1⟩⟩
 done:=by
  intro X hP hw hK hc i pins s σ H E I hf st hg;subst hP hw hK;obtain⟨xs,hq,hx⟩:=hg;obtain⟨its,rv,p,hz⟩:=I.tuple hq;obtain⟨f0,f1,f2,f3,f4,f5⟩:=hf it (by simp);have hl:=rv.length;exact wpAny_pyNext_tuple_end (I.ok.hd hc) st (show s.heap.IsTuple a its.toArray from p) (by simp; lia) fun h' eb=>⟨rfl,I.turned (t':=s.toks) (fun b o hb e=>eb b o hb e) f0 f1 f3 f4 f5⟩
 self:=fun _ _ _ _ _ st h=>wpAny_pyIter_tupleiter st h
theorem Nf{P:Program}{w:World}{K:Frag}{tg:Expr}(it:Addr)(lo:Int)(n:Nat):Turn P w K tg (Itr lo n) [it] it (fun i h=>IsRangeIter h it (lo+(i:Nat)*1) ((n:Int)-(i:Nat)) 1) where
 mem:=by simp
 obj:=fun i h st b hb=>by
  have e:b=it:=by simpa using hb
  subst e;exact⟨_,st,fun v z=>by
   have z':Data.fields _=Data.cell v:=z;cases z'⟩
 keep:=fun i h h' st k=>k it (by simp) _ st
 item:=by
  intro X hP hw hK hc i pins s σ H E I hf st hg;subst hP hw hK;obtain⟨f0,f1,f2,f3,f4,f5⟩:=hf it (by simp);have W:=Walks.range (prog:=X.prog) (w:=X.w) (I.ok.hd hc) it lo 1 n;refine W.item i s _ _ hg st fun v h' tk hv st' kk=>?_;obtain⟨t,rfl⟩:=hv;have I1:Inv X pins σ H { s with heap:=h',toks:=tk }:=I.turned (fun b o hb e=>kk b o (by simpa using hb) e) f0 f1 f3 f4 f5;refine⟨_,rfl,Ll (s:={ s with heap:=h',toks:=tk }) (n := "range_iterator") st' rfl rfl (by decide) ⟨.int (lo+i),H,I1,⟨t,?_⟩,⟨rfl,rfl⟩,st',fun b hb=>(hf b hb).1⟩⟩;rw[Int.mul_one]
 done:=by
  intro X hP hw hK hc i pins s σ H E I hf st hg;subst hP hw hK;obtain⟨f0,f1,f2,f3,f4,f5⟩:=hf it (by simp);exact wpAny_pyNext_range_end (I.ok.hd hc) st (by have:n<=i:=hg; lia) fun h' eb=>⟨rfl,I.turned (t':=s.toks) (fun b o hb e=>eb b o hb e) f0 f1 f3 f4 f5⟩
 self:=fun _ _ _ _ _ st h=>wpAny_pyIter_rangeiter st h
end L2
namespace L2
open PySem PySem.Spec PyProof.Rows
section
variable{X:Cx}{tg:Expr}
theorem QR{pins:List (Addr×Obj)}{σ:St}{H:Hp}{s:Shared}{R:It->Hp->Prop}{E:Value->Shared->Prop}{lo hi:Int}{t u v:Tok}{tk:Nat}(I:Inv X pins σ H s)(h1 : -(2 ^ 62)<=lo)(h2:lo<2 ^ 62)(h3 : -(2 ^ 62)<=hi)(h4:hi<2 ^ 62)(q:R (Itr lo (hi-lo).toNat) H):wpAny (model X.prog X.w) X.A (pyIter (.ref s.heap.objs.size)) (PIE X pins σ tg R) E { s with heap:=s.heap.push { cls:=.type "range",data:=.fields #[.int lo t,.int hi u,.int 1 v] },toks:=tk }:=by
 refine wpAny_pyIter_range (IsRange.new ..) (small_one h1 h2 h3 h4) ?_;have I1:Inv X pins σ H { s with heap:=s.heap.push { cls:=.type "range",data:=.fields #[.int lo t,.int hi u,.int 1 v] },toks:=tk }:=I.kept fun b o e=>Heap.get?_push_of_some _ e;refine⟨(s.heap.push { cls:=.type "range",data:=.fields #[.int lo t,.int hi u,.int 1 v] }).objs.size,[(s.heap.push { cls:=.type "range",data:=.fields #[.int lo t,.int hi u,.int 1 v] }).objs.size],_,_,H,rfl,
  I1.kept (t':=tk) fun b o e=>Heap.get?_push_of_some _ e,Nf _ lo (hi-lo).toNat,?_,fun b hb=>?_,q⟩
 .have e1:lo+((0:Nat):Int)*1=lo:=by simp
  have e2:(((hi-lo).toNat:Nat):Int)-((0:Nat):Int)=Builtin.Range.rangeSize lo hi 1:=by rw[rangeSize_one]; split<;>lia
  show IsRangeIter _ _ (lo+((0:Nat):Int)*1) ((((hi-lo).toNat:Nat):Int)-((0:Nat):Int)) 1;rw[e1,e2];exact Heap.get?_push_size _ rfl
 .have e:b=(s.heap.push { cls:=.type "range",data:=.fields #[.int lo t,.int hi u,.int 1 v] }).objs.size:=by simpa using hb
  subst e;exact I1.fpOk (Nat.le_refl _) (I1.hok.fresh (Nat.le_refl _))
noncomputable def PL(ta:TA):TI:=fun σ H R=>ta σ H fun vs H1=>∃j:Int,vs=[.int j]/\-(2 ^ 62)<=j/\j<2 ^ 62/\R (Itr 0 j.toNat) H1
theorem OJ{a:Expr}{ta:TA}{p pos:Pos}(hg:Gl X "range")(hm:X.mg "range" = none)(ha:PA X [a] ta)(hs:starEach [a] X.env=[(false,eval a X.env)]:=by rfl):PI X tg (.Call (.Name "range" p) [a] [] pos) (PL ta):=by
 intro pins s σ H R I h;refine Call_ (Ig I hg hm boot_range (PyProof.Rows.callWith_type1 (thn (ha pos pins s σ H _ I h) fun us s1 ⟨vs,H1,I1,r1,q1⟩=>?_) hs rfl));obtain⟨j,e,q1,q2,q⟩:=q1;subst e;cases r1 with
 | cons r rr =>
  cases rr;obtain⟨t,rfl⟩:=r;exact call_range_1 (QR I1 (by lia) (by lia) q1 q2 (by simpa using q))
noncomputable def W3(wi:TI)(g:TG)(tb:TS):TS:=fun D σ H=>wi σ H fun J H1=>∃W:Nat->Nat->St->Hp->Prop,(∃m,W 0 m σ H1)/\∀i m σ H,W i m σ H ->
 (J.stop i H/\D.nx σ H)\/(J.go i H/\∃N:St->Hp->Prop,(∀σ' H',N σ' H'->∃m',m'<m/\W (i+1) m' σ' H')/\∀x H',J.yld i H x H'->g x σ H' fun σ2 H2=>tb { D with nx:=N,ct:=N,bk:=D.nx } σ2 H2)
noncomputable def G9(fp:List Addr)(h:Heap):List (Addr×Obj):=fp.filterMap fun b=>(h.get? b).map fun o=>(b,o)
theorem Dt{fp:List Addr}{h:Heap}{b:Addr}{o:Obj}(hb:b∈fp)(e:h.get? b=some o):(b,o)∈G9 fp h:=List.mem_filterMap.mpr ⟨b,hb,by rw[e]; rfl⟩
theorem OA{fp:List Addr}{h:Heap}{p:Addr×Obj}(hp:p∈G9 fp h):p.1∈fp/\h.get? p.1=some p.2:=by
 obtain⟨b,hb,e⟩:=List.mem_filterMap.mp hp;cases q:h.get? b with
 | none=>rw[q] at e; cases e
 | some o =>
  rw[q] at e;have e':(b,o)=p:=Option.some.inj e;subst e';exact⟨hb,q⟩
theorem Inv.pinned{pins:List (Addr×Obj)}{σ:St}{H:Hp}{s:Shared}{fp:List Addr}(I:Inv X pins σ H s)(hf:∀b∈fp,Ep X pins H b)(ho:∀b∈fp,∃o,s.heap.get? b=some o/\∀v,o.data≠.cell v):Inv X (pins++G9 fp s.heap) σ H s:=
 I.pins_of fun p hp=>(List.mem_append.mp hp).elim (fun z=>I.pin p (List.mem_append_right _ z)) fun z=>by
  obtain⟨hb,e⟩:=OA z;obtain⟨f0,f1,f2,_⟩:=hf p.1 hb;obtain⟨o,e',d⟩:=ho p.1 hb;rw[e] at e'; cases e';exact⟨e,f0,f1,f2,d⟩
theorem Inv.unpinned{pins pl:List (Addr×Obj)}{σ:St}{H:Hp}{s:Shared}(I:Inv X (pins++pl) σ H s):Inv X pins σ H s:=I.pins_of fun p hp=>I.pin p (List.mem_append_right _ (List.mem_append_left _ hp))
theorem Vn{iter:Expr}{body:List Stmt}{wi:TI}{g:TG}{tb:TS}{pos:Pos}(hp:PassesOwn (model X.prog X.w) X.A X.env X.xe)(hc:X.calm=true)(hi:PI X tg iter wi)(hg:PG X tg g)(hb:PSs X body tb)(hs:∀x,foldedSetIterable iter X.env x=pure x:=by intro _; rfl):PS X (.For tg iter body [] pos) (W3 wi g tb):=by
 intro pins s σ H D I h;refine wpAny_For (thn (hi pins s σ H _ I h) fun v s1 h1=>thn h1 fun itv s2 h2=>?_) hs;obtain⟨it,fp,tn,J,H2,e,I2,T,st2,f2,W,⟨m0,w0⟩,turn⟩:=h2;subst e
 -- what stays true of the iterator's objects through the loop
 have stat:∀{H':Hp},(∀b∈fp,H' b=none)->∀b∈fp,Ep X pins H' b:=fun hn b hb=>⟨hn b hb,(f2 b hb).2⟩;refine codeAny_forLoop_any (fun n s'=>∃i σ' H',Inv X pins σ' H' s'/\tn i s'.heap/\(∀b∈fp,H' b=none)/\W i n σ' H') ?_ m0 ⟨0,σ,H2,I2,st2,fun b hb=>(f2 b hb).1,w0⟩;rintro n s3 ⟨i,σ3,H3,I3,st3,fr3,w3⟩;rcases turn i n σ3 H3 w3 with ⟨stop,qn⟩|⟨go,N,hN,step⟩
 .refine wpAny_passesOwn hp (thn (T.done X rfl rfl rfl hc i pins s3 σ3 H3 X.xe I3 (stat fr3) st3 stop) fun r s4 yy=>?_)
  obtain⟨hr,I4⟩:=yy;subst hr;exact wpAny_execs_nil ⟨σ3,H3,I4,qn⟩
 .refine wpAny_passesOwn hp (thn (T.item X rfl rfl rfl hc i pins s3 σ3 H3 X.xe I3 (stat fr3) st3 go) fun r s4 yy=>?_)
  obtain⟨u,hr,h4⟩:=yy;subst hr;refine wpAny_passesOwn hp (thn h4 fun _ s5 yy=>?_);obtain⟨x,H5,I5,r5,y5,st5,fr5⟩:=yy;have I5':=I5.pinned (stat fr5) (T.obj _ _ st5);refine wpAny_passesOwn hp (thn (hg _ s5 σ3 H5 x u _ I5' r5 (step x H5 y5)) fun _ s6 yy=>?_);obtain⟨σ6,H6,I6,q6⟩:=yy;refine wpAny_passesOwn hp (thn (hb _ s6 σ6 H6 _ I6 q6) fun f s7 q7=>?_);have again:∀{σ7:St} {H7:Hp},Inv X (pins++G9 fp s5.heap) σ7 H7 s7->N σ7 H7->∃m,m<n/\∃i σ' H',Inv X pins σ' H' s7/\tn i s7.heap/\(∀b∈fp,H' b=none)/\W i m σ' H':=fun {σ7 H7} I7 n7=>by
   obtain⟨m',hm,w7⟩:=hN σ7 H7 n7;refine⟨m',hm,i+1,σ7,H7,I7.unpinned,T.keep _ _ _ st5 fun b hb o e=>(I7.pin (b,o) (List.mem_append_right _ (List.mem_append_right _ (Dt hb e)))).1,fun b hb=>?_,w7⟩;obtain⟨o,e,d⟩:=T.obj _ _ st5 b hb;exact(I7.pin (b,o) (List.mem_append_right _ (List.mem_append_right _ (Dt hb e)))).2.1
  cases f with
  | next=>obtain⟨σ7,H7,I7,n7⟩:=q7; exact again I7 n7
  | cont=>obtain⟨σ7,H7,I7,n7⟩:=q7; exact again I7 n7
  | brk=>obtain⟨σ7,H7,I7,q7⟩:=q7; exact⟨σ7,H7,I7.unpinned,q7⟩
  | ret v=>obtain⟨x7,σ7,H7,I7,r7,q7⟩:=q7; exact⟨x7,σ7,H7,I7.unpinned,r7,q7⟩
end
end L2
namespace L2
open PySem PySem.Spec PyProof.Rows
noncomputable abbrev R2:=V->V->Hp->VK->Prop
noncomputable def OpR(X:Cx)(f:Value->Value->Sem Value)(r:R2):Prop:=
 ∀(pins:List (Addr×Obj)) (s:Shared) (σ:St) (H:Hp) (x y:V) (v u:Value) (Q:VK),Inv X pins σ H s->RelV x v->RelV y u->r x y H Q ->
  wpAny (model X.prog X.w) X.A (f v u) (EP X pins σ Q) X.xe s
noncomputable def UnR(X:Cx)(f:Value->Sem Value)(r:V->Hp->VK->Prop):Prop:=
 ∀(pins:List (Addr×Obj)) (s:Shared) (σ:St) (H:Hp) (x:V) (v:Value) (Q:VK),Inv X pins σ H s->RelV x v->r x H Q ->
  wpAny (model X.prog X.w) X.A (f v) (EP X pins σ Q) X.xe s
noncomputable def B1(X:Cx)(f:Value)(r:List V->Hp->VK->Prop):Prop:=
 ∀(pins:List (Addr×Obj)) (s:Shared) (σ:St) (H:Hp) (xs:List V) (us:List Value) (Q:VK),Inv X pins σ H s->Vals xs us->r xs H Q ->
  wpAny (model X.prog X.w) X.A (call f us) (EP X pins σ Q) X.xe s
noncomputable def tOp(r:R2)(ta tb:TE):TE:=fun σ H Q=>ta σ H fun x H1=>tb σ H1 fun y H2=>r x y H2 Q
noncomputable def tUn(r:V->Hp->VK->Prop)(ta:TE):TE:=fun σ H Q=>ta σ H fun x H1=>r x H1 Q
noncomputable def rI(C:Int->Int->Prop)(g:Int->Int->V):R2:=fun x y H Q=>∃i j,x=.int i/\y=.int j/\C i j/\Q (g i j) H
noncomputable def rI0(g:Int->Int->V):R2:=fun x y H Q=>∃i j,x=.int i/\y=.int j/\Q (g i j) H
noncomputable def rU(g:Int->V):V->Hp->VK->Prop:=fun x H Q=>∃i,x=.int i/\Q (g i) H
section
variable{X:Cx}{a b c:Expr}{ta tb tc:TE}{pos:Pos}
theorem T1(ha:PE X a ta)(hb:PE X b tb){pins:List (Addr×Obj)}{s:Shared}{σ:St}{H:Hp}{R:V->V->Hp->Prop}(I:Inv X pins σ H s)(h:ta σ H fun x H1=>tb σ H1 fun y H2=>R x y H2){Q:Value->Shared->Prop}{f:Value->Value->Sem Value}(hf:∀v u s2 x y H2,Inv X pins σ H2 s2->RelV x v->RelV y u->R x y H2->wpAny (model X.prog X.w) X.A (f v u) Q X.xe s2):
  wpAny (model X.prog X.w) X.A (eval a X.env) (fun v s₁=>wpAny (model X.prog X.w) X.A (eval b X.env) (fun u s₂=>wpAny (model X.prog X.w) X.A (f v u) Q X.xe s₂) X.xe s₁) X.xe s:=by
 refine thn (ha pins s σ H _ I h) fun v s1 yy=>?_;obtain⟨x,H1,I1,r1,q1⟩:=yy;refine thn (hb pins s1 σ H1 _ I1 q1) fun u s2 yy=>?_;obtain⟨y,H2,I2,r2,q2⟩:=yy;exact hf v u s2 x y H2 I2 r1 r2 q2
theorem WJ{op:Operator}{r:R2}(ho:OpR X (binaryOp op) r)(ha:PE X a ta)(hb:PE X b tb):PE X (.BinOp a op b pos) (tOp r ta tb):=by
 intro pins s σ H Q I h;exact wpAny_BinOp (T1 ha hb I h fun v u s2 x y H2 I2 rx ry q=>ho pins s2 σ H2 x y v u Q I2 rx ry q)
theorem WL{op:UnaryOp}{r:V->Hp->VK->Prop}(ho:UnR X (unaryOp op) r)(ha:PE X a ta):PE X (.UnaryOp op a pos) (tUn r ta):=by
 intro pins s σ H Q I h;exact UnaryOp_ (thn (ha pins s σ H _ I h) fun v s1 ⟨x,H1,I1,r1,q1⟩=>ho pins s1 σ H1 x v Q I1 r1 q1)
theorem opI{f:Value->Value->Sem Value}{C:Int->Int->Prop}{g:Int->Int->Int}(rule:∀(i j:Int) (t u:Tok) (s:Shared) (Q:Value->Shared->Prop) (E:Value->Shared->Prop),C i j->Q (.int (g i j) s.toks) { s with toks:=s.toks+1 }->wpAny (model X.prog X.w) X.A (f (.int i t) (.int j u)) Q E s):
  OpR X f (rI C fun i j=>.int (g i j)):=by
 intro pins s σ H x y v u Q I rx ry h;obtain⟨i,j,rfl,rfl,hc,q⟩:=h;obtain⟨t,rfl⟩:=rx;obtain⟨t',rfl⟩:=ry;exact rule i j t t' s _ _ hc ⟨.int (g i j),H,I.tok _,⟨_,rfl⟩,q⟩
theorem Si{f:Value->Value->Sem Value}{g:Int->Int->Int}(rule:∀(i j:Int) (t u:Tok) (s:Shared) (Q:Value->Shared->Prop) (E:Value->Shared->Prop),Q (.int (g i j) s.toks) { s with toks:=s.toks+1 }->wpAny (model X.prog X.w) X.A (f (.int i t) (.int j u)) Q E s):
  OpR X f (rI0 fun i j=>.int (g i j)):=by
 intro pins s σ H x y v u Q I rx ry h;obtain⟨i,j,rfl,rfl,q⟩:=h;obtain⟨t,rfl⟩:=rx;obtain⟨t',rfl⟩:=ry;exact rule i j t t' s _ _ ⟨.int (g i j),H,I.tok _,⟨_,rfl⟩,q⟩
theorem Sf{f:Value->Value->Sem Value}{g:Int->Int->Bool}(rule:∀(i j:Int) (t u:Tok) (s:Shared) (Q:Value->Shared->Prop) (E:Value->Shared->Prop),Q (.bool (g i j)) s->wpAny (model X.prog X.w) X.A (f (.int i t) (.int j u)) Q E s):
  OpR X f (rI0 fun i j=>.bl (g i j)):=by
 intro pins s σ H x y v u Q I rx ry h;obtain⟨i,j,rfl,rfl,q⟩:=h;obtain⟨t,rfl⟩:=rx;obtain⟨t',rfl⟩:=ry;exact rule i j t t' s _ _ ⟨.bl (g i j),H,I,rfl,q⟩
theorem fdB{x y:Int}(h:y.natAbs<1099511627776):Builtin.divisionGoesByPylong x y=false:=PyProof.noPylong_of_log2 (by
 by_cases h0:y.natAbs=0
 .rw[h0]; decide
 .have h1:y.natAbs<2 ^ 40:=by simpa using h
  have:=(Nat.log2_lt h0).mpr h1;omega)
noncomputable def TM(i j:Int):Prop:=0<j/\j<1099511627776
noncomputable def Ob(i j:Int):Prop:=0<=j/\j<=1000000/\i.natAbs<2 ^ 64
noncomputable def Rr(i j:Int):Prop:=(-(2 ^ 64)<i/\i<2 ^ 64)\/(-(2 ^ 64)<j/\j<2 ^ 64)
theorem Rr.ok{i j:Int}(h:Rr i j):IntMulOk i j:=by
 rcases h with ⟨h1,h2⟩|⟨h1,h2⟩
 .exact .of_left (intBits_le_64 h1 h2)
 .exact .of_right (intBits_le_64 h1 h2)
theorem Nh(k:Nat):(0:Int)<=2 ^ k:=by
 rw[two_pow_cast];exact Int.natCast_nonneg _
theorem U1:OpR X (binaryOp .Add) (rI0 fun i j=>.int (i+j)):=Si fun _ _ _ _ _ _ _ q=>add_int q
theorem G8:OpR X (binaryOp .Sub) (rI0 fun i j=>.int (i-j)):=Si fun _ _ _ _ _ _ _ q=>sub_int q
theorem Kr:OpR X (binaryOp .Mult) (rI Rr fun i j=>.int (i*j)):=opI fun _ _ _ _ _ _ _ hc q=>mul_int q hc.ok
theorem NK:OpR X (binaryOp .FloorDiv) (rI TM fun i j=>.int (i / j)):=opI fun i j _ _ _ _ _ hc q=>by
 have h1:(0:Int)<j:=hc.1;have h2:j<1099511627776:=hc.2;exact floordiv_int (by lia) (by rw[Int.fdiv_eq_ediv_of_nonneg i (by lia)]; exact q) (.inl (fdB (by lia)))
theorem Iq:OpR X (binaryOp .Mod) (rI (fun _ j=>0<j) fun i j=>.int (i % j)):=opI fun i j _ _ _ _ _ hc q=>by
 have h1:(0:Int)<j:=hc;exact mod_int' (by lia) (by rw[Int.fmod_eq_emod_of_nonneg i (by lia)]; exact q)
theorem MU:OpR X (binaryOp .Pow) (rI Ob fun i j=>.int (i ^ j.toNat)):=opI fun _ _ _ _ _ _ _ hc q=>pow_int_small hc.1 hc.2.1 hc.2.2 q
theorem MV:OpR X (binaryOp .LShift) (rI Ob fun i j=>.int (i*2 ^ j.toNat)):=opI fun _ _ _ _ _ _ _ hc q=>lshift_int_small hc.1 hc.2.1 hc.2.2 q
theorem U5:OpR X (binaryOp .RShift) (rI (fun _ j=>0<=j) fun i j=>.int (i / 2 ^ j.toNat)):=opI fun i j _ _ _ _ _ hc q =>
 rshift_int hc (by rw[Int.fdiv_eq_ediv_of_nonneg i (Nh _)]; exact q)
theorem U2:OpR X (binaryOp .BitAnd) (rI0 fun i j=>.int (Builtin.bitAnd i j)):=Si fun _ _ _ _ _ _ _ q=>and_int q
theorem WG:OpR X (binaryOp .BitOr) (rI0 fun i j=>.int (Builtin.bitOr i j)):=Si fun _ _ _ _ _ _ _ q=>or_int q
theorem unI{f:Value->Sem Value}{g:Int->Int}(rule:∀(i:Int) (t:Tok) (s:Shared) (Q:Value->Shared->Prop) (E:Value->Shared->Prop),Q (.int (g i) s.toks) { s with toks:=s.toks+1 }->wpAny (model X.prog X.w) X.A (f (.int i t)) Q E s):
  UnR X f (rU fun i=>.int (g i)):=by
 intro pins s σ H x v Q I rx h;obtain⟨i,rfl,q⟩:=h;obtain⟨t,rfl⟩:=rx;exact rule i t s _ _ ⟨.int (g i),H,I.tok _,⟨_,rfl⟩,q⟩
theorem KY:UnR X (unaryOp .USub) (rU fun i=>.int (-i)):=unI fun _ _ _ _ _ q=>neg_int q
end
noncomputable def VF:V->V->Bool
 | .non,.non=>true | .non,.int _=>true | .int _,.non=>true | .non,.bl _=>true | .bl _,.non=>true | .non,.str _=>true | .str _,.non=>true
 | .int _,.int _=>true | .bl _,.bl _=>true | .str _,.str _=>true | .byt _,.byt _=>true
 | .int _,.str _=>true | .str _,.int _=>true | .bl _,.str _=>true | .str _,.bl _=>true
 | _,_=>false
section
variable{X:Cx}{a b c:Expr}{ta tb tc:TE}{pos:Pos}
theorem J0{pins:List (Addr×Obj)}{σ:St}{H:Hp}{s:Shared}{Q:VK}{k k':Bool}(I:Inv X pins σ H s)(q:Q (.bl k) H)(e:k=k'):EP X pins σ Q (.bool k') s:=by
 subst e;exact⟨.bl k,H,I,rfl,q⟩
theorem WE:OpR X (compareOp .Lt) (rI0 fun i j=>.bl (decide (i<j))):=Sf fun _ _ _ _ _ _ _ q=>lt_int q
theorem WD:OpR X (compareOp .LtE) (rI0 fun i j=>.bl (decide (i<=j))):=Sf fun _ _ _ _ _ _ _ q=>le_int q
theorem Tj:OpR X (compareOp .Gt) (rI0 fun i j=>.bl (decide (j<i))):=Sf fun _ _ _ _ _ _ _ q=>gt_int q
theorem WC:OpR X (compareOp .GtE) (rI0 fun i j=>.bl (decide (j<=i))):=Sf fun _ _ _ _ _ _ _ q=>ge_int q
theorem OF:OpR X (compareOp .Lt) (fun x y H Q=>∃i j,x=.str i/\y=.str j/\Q (.bl (decide (i.cps.toList<j.cps.toList))) H):=by
 intro pins s σ H x y v u Q I rx ry h;obtain⟨i,j,rfl,rfl,q⟩:=h;obtain⟨t,rfl⟩:=rx;obtain⟨t',rfl⟩:=ry;exact lt_str (J0 I q rfl)
theorem OD:OpR X (compareOp .In) (fun x y H Q=>∃i j,x=.str i/\y=.str j/\Q (.bl (!(Builtin.Str.occurrences j i 0 j.length 1).isEmpty)) H):=by
 intro pins s σ H x y v u Q I rx ry h;obtain⟨i,j,rfl,rfl,q⟩:=h;obtain⟨t,rfl⟩:=rx;obtain⟨t',rfl⟩:=ry;exact in_str (J0 I q rfl)
theorem Qw:OpR X (compareOp .Is) (fun x y H Q=>y=.non/\Q (.bl (decide (x=.non))) H):=by
 intro pins s σ H x y v u Q I rx ry h;obtain⟨rfl,q⟩:=h;cases ry;refine is_none_gen (J0 I q ?_);cases x<;>first
  | (cases rx; rfl)
  | (obtain⟨t,rfl⟩:=rx; rfl)
theorem OpR.or{f:Value->Value->Sem Value}{r r':R2}(h:OpR X f r)(h':OpR X f r'):OpR X f (fun x y H Q=>r x y H Q\/r' x y H Q):=by
 intro pins s σ H x y v u Q I rx ry q;rcases q with q|q
 .exact h pins s σ H x y v u Q I rx ry q
 .exact h' pins s σ H x y v u Q I rx ry q
theorem A8(b:Expr){op:CmpOp}(h:op≠.In:=by decide)(h2:op≠.NotIn:=by decide):behindInMarks op b=false:=by
 have e1:(op==CmpOp.In)=false:=by cases op<;>first|rfl|exact absurd rfl h
 have e2:(op==CmpOp.NotIn)=false:=by cases op<;>first|rfl|exact absurd rfl h2
 cases b with
 | Set elts k pos =>
  show(k==0&&(op==.In || op==.NotIn)&&elts.all (constantsAlone 8))=false;rw[e1,e2,Bool.or_self,Bool.and_false,Bool.false_and]
 | _=>rfl
theorem Sn{op:CmpOp}{r:R2}(ho:OpR X (compareOp op) r)(ha:PE X a ta)(hb:PE X b tb)(hm:behindInMarks op b=false):PE X (.Compare a [op] [b] pos) (tOp r ta tb):=by
 intro pins s σ H Q I h;exact wpAny_Compare1 (T1 ha hb I h fun v u s2 x y H2 I2 rx ry q=>ho pins s2 σ H2 x y v u Q I2 rx ry q) hm
noncomputable def TB(t:TE):TT:=fun σ H Q=>t σ H fun x H'=>∃k,x=.bl k/\Q k H'
theorem Sv{op:CmpOp}{r:R2}(ho:OpR X (compareOp op) r)(ha:PE X a ta)(hb:PE X b tb)(hm:behindInMarks op b=false):PT X (.Compare a [op] [b] pos) (TB (tOp r ta tb)):=by
 intro pins s σ H Q I h;refine wpAny_isTrue_Compare1 (thn (ha pins s σ H _ I h) fun v s1 yy=>?_) hm;obtain⟨x,H1,I1,r1,q1⟩:=yy;refine thn (hb pins s1 σ H1 _ I1 q1) fun u s2 yy=>?_;obtain⟨y,H2,I2,r2,q2⟩:=yy;refine thn (ho pins s2 σ H2 x y v u _ I2 r1 r2 q2) fun c s3 yy=>?_;obtain⟨z,H3,I3,r3,k,e,q3⟩:=yy;subst e;cases r3;exact wpAny_truthy_bool ⟨H3,I3,q3⟩
noncomputable def Nc(r r':R2)(ta tb tc:TE):TE:=fun σ H Q=>ta σ H fun x H1=>tb σ H1 fun y H2=>r x y H2 fun z H3=>∃k,z=.bl k /\
 (if k=true then tc σ H3 fun w' H4=>r' y w' H4 Q else Q (.bl false) H3)
theorem QC{op op':CmpOp}{r r':R2}(ho:OpR X (compareOp op) r)(ho':OpR X (compareOp op') r')(ha:PE X a ta)(hb:PE X b tb)(hc:PE X c tc)(hm:lastMarks [op,op'] [b,c]=false:=by with_unfolding_all rfl):PE X (.Compare a [op,op'] [b,c] pos) (Nc r r' ta tb tc):=by
 intro pins s σ H Q I h;refine Compare_chain (thn (ha pins s σ H _ I h) fun v s1 yy=>?_) hm;obtain⟨x,H1,I1,r1,q1⟩:=yy;refine chain_link (thn (hb pins s1 σ H1 _ I1 q1) fun u s2 yy=>?_);obtain⟨y,H2,I2,r2,q2⟩:=yy;refine thn (ho pins s2 σ H2 x y v u _ I2 r1 r2 q2) fun d s3 yy=>?_;obtain⟨z,H3,I3,r3,k,e,q3⟩:=yy;subst e;cases r3;refine wpAny_truthy_bool ?_;cases k with
 | false=>exact ite_ff ⟨.bl false,H3,I3,rfl,q3⟩
 | true=>exact ite_tt (chain_last (thn (hc pins s3 σ H3 _ I3 q3) fun w' s4 ⟨z',H4,I4,r4,q4⟩=>ho' pins s4 σ H4 y z' u w' Q I4 r2 r4 q4))
theorem QO{op op':CmpOp}{r r':R2}(ho:OpR X (compareOp op) r)(ho':OpR X (compareOp op') r')(ha:PE X a ta)(hb:PE X b tb)(hc:PE X c tc)(hm:lastMarks [op,op'] [b,c]=false:=by with_unfolding_all rfl):PT X (.Compare a [op,op'] [b,c] pos) (TB (Nc r r' ta tb tc)):=by
 intro pins s σ H Q I h;refine isTrue_chain (thn (ha pins s σ H _ I h) fun v s1 yy=>?_) hm;obtain⟨x,H1,I1,r1,q1⟩:=yy;refine test_link (thn (hb pins s1 σ H1 _ I1 q1) fun u s2 yy=>?_);obtain⟨y,H2,I2,r2,q2⟩:=yy;refine thn (ho pins s2 σ H2 x y v u _ I2 r1 r2 q2) fun d s3 yy=>?_;obtain⟨z,H3,I3,r3,k,e,q3⟩:=yy;subst e;cases r3;refine wpAny_truthy_bool ?_;cases k with
 | false =>
  obtain⟨k',e',q'⟩:=q3;cases e';exact ite_ff ⟨H3,I3,q'⟩
 | true =>
  refine ite_tt (test_last (thn (hc pins s3 σ H3 _ I3 q3) fun w' s4 ⟨z',H4,I4,r4,q4⟩=>thn (ho' pins s4 σ H4 y z' u w' _ I4 r2 r4 q4) fun d' s5 yy=>?_));obtain⟨z2,H5,I5,r5,k2,e2,q5⟩:=yy;subst e2;cases r5;exact wpAny_truthy_bool ⟨H5,I5,q5⟩
theorem G4:(sizeLine:Nat)<2 ^ 63:=by rw[sizeLine_eq]; decide
theorem MP:OpR X (binaryOp .Add) (fun x y H Q=>∃i j,x=.str i/\y=.str j/\i.length+j.length<=sizeLine/\Q (.str (i++j)) H):=by
 intro pins s σ H x y v u Q I rx ry h;obtain⟨i,j,rfl,rfl,hz,q⟩:=h;obtain⟨t,rfl⟩:=rx;obtain⟨t',rfl⟩:=ry;exact add_str (fun t' tk=>⟨.str (i++j),H,I.tok _,⟨_,rfl⟩,q⟩) hz
theorem vals1{x:V}{us:List Value}(r:Vals [x] us):∃u,us=[u]/\RelV x u:=by
 cases r with
 | cons r1 r2=>cases r2; exact⟨_,rfl,r1⟩
theorem vals2{x y:V}{us:List Value}(r:Vals [x,y] us):∃u w',us=[u,w']/\RelV x u/\RelV y w':=by
 cases r with
 | cons r1 r2 =>
  cases r2 with
  | cons r3 r4=>cases r4; exact⟨_,_,rfl,r1,r3⟩
theorem K8:B1 X (.builtin "abs") (fun xs H Q=>∃i,xs=[.int i]/\Q (.int (if i<0 then -i else i)) H):=by
 intro pins s σ H xs us Q I r h;obtain⟨i,rfl,q⟩:=h;obtain⟨u,rfl,t,rfl⟩:=vals1 r;exact call_abs_int fun u tk=>⟨.int (if i<0 then -i else i),H,I.tok _,⟨_,rfl⟩,q⟩
theorem Of(hc:X.calm=true):B1 X (.builtin "max") (fun xs H Q=>∃i j,xs=[.int i,.int j]/\Q (.int (if j > i then j else i)) H):=by
 intro pins s σ H xs us Q I r h;obtain⟨i,j,rfl,q⟩:=h;obtain⟨u,w',rfl,⟨t,rfl⟩,⟨t',rfl⟩⟩:=vals2 r;refine max_two_ints (I.ok.hd hc) fun h' tk k=>⟨_,H,I.kept k,?_,q⟩;by_cases hj:j > i
 .rw[if_pos hj,if_pos hj]; exact⟨_,rfl⟩
 .rw[if_neg hj,if_neg hj]; exact⟨_,rfl⟩
theorem Og(hc:X.calm=true):B1 X (.builtin "min") (fun xs H Q=>∃i j,xs=[.int i,.int j]/\Q (.int (if j<i then j else i)) H):=by
 intro pins s σ H xs us Q I r h;obtain⟨i,j,rfl,q⟩:=h;obtain⟨u,w',rfl,⟨t,rfl⟩,⟨t',rfl⟩⟩:=vals2 r;refine min_two_ints (I.ok.hd hc) fun h' tk k=>⟨_,H,I.kept k,?_,q⟩;by_cases hj:j<i
 .rw[if_pos hj,if_pos hj]; exact⟨_,rfl⟩
 .rw[if_neg hj,if_neg hj]; exact⟨_,rfl⟩
end
end L2
namespace L2
open PySem PySem.Spec PyProof.Rows
structure ObjM (h:Heap) (x dx C:Addr) (mA:Str->Option Value):Prop where
 obj:h.get? x=some (PySem.W.instObj C dx)
 ns:h.Ns1 dx mA
 ne:dx≠x
theorem Ox{h:Heap}{dx:Addr}{mA:Str->Option Value}(n:h.Ns1 dx mA):∃od,h.get? dx=some od/\∀name,PySem.W.lookIn name od=some (mA name):=by
 obtain⟨o,es,ep,ho,hd,hk,_,hm⟩:=n;refine⟨o,ho,fun name=>?_⟩;have e:=hm name;unfold nsFind findBy at e;rw[<- Array.find?_toList] at e;unfold PySem.W.lookIn;rw[hd];dsimp only;split
 .rename_i y q
  rw[q] at e;exact congrArg some e
 .rename_i q
  rw[q] at e;have a:es.toList.any (·.refKey)=false:=by
   rw[List.any_eq_false];intro y hy;obtain⟨z,t,hkey⟩:=hk y (Array.mem_toList_iff.mp hy);simp[DictEntry.refKey,hkey]
  have a':¬es.toList.any (·.refKey)=true:=by rw[a]; exact Bool.false_ne_true
  rw[if_neg a'];exact congrArg some e
theorem ObjM.look{h:Heap}{x dx C:Addr}{mA:Str->Option Value}(I:ObjM h x dx C mA):∃od,PySem.W.InstAt h x (PySem.W.instObj C dx) C (some od)/\∀name,PySem.W.lookIn name od=some (mA name):=
 let⟨od,ho,hl⟩:=Ox I.ns
 ⟨od,⟨I.obj,rfl,rfl,ho⟩,hl⟩
section
variable{P:Program}{w:World}{H H':Hp}{h h':Heap}{a C dx:Addr}{fs fs':List (Str×V)}
theorem RK(hok:HOk P w H h)(e:H a=some (.ins C dx fs)):∃mA,ObjM h a dx C mA/\(∀f,TN (fs.lookup f) (mA f))/\PySem.Within mA (fs.map (·.1))/\fs.length<=1000/\H dx=some (.own a):=by
 obtain⟨d,z,ne,ob,mA,n,r,q⟩:=(show Cg P w H h a (.ins C dx fs) from hok a _ e);exact⟨mA,⟨ob,n,ne⟩,r,q,z,d⟩
end
structure Cls (K:Frag) (C:Addr):Prop where
 pg:PySem.W.plainGet K C Str.empty=true
 hd:PySem.W.hasDictIn K C=true
 po:PySem.W.plainOver K C=true
 sa:PySem.W.findIn K (.ref C) "__setattr__" = some (some (.builtin "object.__setattr__"))
theorem Cls.get{K:Frag}{C:Addr}(c:Cls K C)(f:Str):PySem.W.plainGet K C f=true:=c.pg
section
variable{X:Cx}{pins:List (Addr×Obj)}{σ:St}{H:Hp}{s:Shared}{A:Around}{E:Value->Shared->Prop}{Q:Value->Shared->Prop}{c:Value}{b:Bool}
inductive TyOf (K:Frag) (H:Hp):V->Value->Prop where
 | non:TyOf K H .non (.type "NoneType")
 | bl (x:Bool):TyOf K H (.bl x) (.type "bool")
 | int (i:Int):TyOf K H (.int i) (.type "int")
 | str (x:Str):TyOf K H (.str x) (.type "str")
 | flt (x:UInt64):TyOf K H (.flt x) (.type "float")
 | lst {a:Addr} {xs:List V} (e:H a=some (.lst xs)):TyOf K H (.ref a) (.type "list")
 | frz {a:Addr} {o:Obj} {xs:List V} (e:H a=some (.frz o (.lst xs))):TyOf K H (.ref a) (.type "list")
 | tup {a:Addr} {xs:List V} (e:H a=some (.tup xs)):TyOf K H (.ref a) (.type "tuple")
 | dK {a:Addr} {kvs:List (Key×V)} (e:H a=some (.dK kvs)):TyOf K H (.ref a) (.type "dict")
 | dT {a:Addr} {kvs:List (D×V)} (e:H a=some (.dT kvs)):TyOf K H (.ref a) (.type "dict")
 | ins {a C dx:Addr} {fs:List (Str×V)} (e:H a=some (.ins C dx fs)) (cl:Cls K C) (ha:PySem.W.findIn K (.ref C) "__class__" = some (some (.builtin "object.__class__")))
   (hn:PySem.W.specialIn K (.builtin "object.__class__") "__get__" = some (some (.builtin "getset_descriptor.__get__"))) (htk:PySem.W.takesIn K (.builtin "object.__class__")=some true)
   (hm:PySem.W.mroIn K C (.type "object")=some true):TyOf K H (.ref a) (.ref C)
theorem Om{x:V}{u t:Value}(I:Inv X pins σ H s)(rx:RelV x u)(ty:TyOf X.K H x t)(e:PySem.W.kitOne X.K t c=some b)(h:∀tk,Q (.bool b) { s with toks:=tk }):
  wpAny (model X.prog X.w) A (call (.builtin "isinstance") [u,c]) Q E s:=by
 cases ty with
 | non=>cases (show u=Value.none from rx); exact PySem.W.kia_one PySem.W.kitx_none I.kIn True.intro e (fun z=>nomatch z) h
 | bl y=>cases (show u=Value.bool y from rx); exact PySem.W.kia_one PySem.W.kitx_bool I.kIn True.intro e (fun z=>nomatch z) h
 | int i=>obtain⟨t,q⟩:=(show ∃t,u=Value.int i t from rx); cases q; exact PySem.W.kia_one PySem.W.kitx_int I.kIn True.intro e (fun z=>nomatch z) h
 | str y=>obtain⟨t,q⟩:=(show ∃t,u=Value.str y t from rx); cases q; exact PySem.W.kia_one PySem.W.kitx_str I.kIn True.intro e (fun z=>nomatch z) h
 | flt y=>obtain⟨t,q⟩:=(show ∃t,u=Value.float y t from rx); cases q; exact PySem.W.kia_one PySem.W.kitx_float I.kIn True.intro e (fun z=>nomatch z) h
 | @lst a xs ea =>
  cases (show u=Value.ref a from rx);obtain⟨_,_,n,_,h1⟩:=(show Cg X.prog X.w H s.heap a (.lst xs) from I.hok a _ ea);exact PySem.W.kia_one PySem.W.kitx_list I.kIn ⟨_,h1,rfl⟩ e (fun z=>nomatch z) h
 | @frz a ob xs ea =>
  cases (show u=Value.ref a from rx);obtain⟨_,_,_,n,_,h1⟩:=(show Cg X.prog X.w H s.heap a (.frz ob (.lst xs)) from I.hok a _ ea);exact PySem.W.kia_one PySem.W.kitx_list I.kIn ⟨_,h1,rfl⟩ e (fun z=>nomatch z) h
 | @tup a xs ea =>
  cases (show u=Value.ref a from rx);obtain⟨_,_,_,p⟩:=(show Cg X.prog X.w H s.heap a (.tup xs) from I.hok a _ ea);obtain⟨o,h1,h2,_⟩:=p;exact PySem.W.kia_one PySem.W.kitx_tuple I.kIn ⟨o,h1,h2⟩ e (fun z=>nomatch z) h
 | @dK a kvs ea =>
  cases (show u=Value.ref a from rx);obtain⟨_,_,vs,_,p⟩:=(show Cg X.prog X.w H s.heap a (.dK kvs) from I.hok a _ ea);obtain⟨o,es,ep,h1,h2,_⟩:=p;exact PySem.W.kia_one PySem.W.kitx_dict I.kIn ⟨o,h1,h2.1⟩ e (fun z=>nomatch z) h
 | @dT a kvs ea =>
  cases (show u=Value.ref a from rx);obtain⟨_,_,xs,_,o,es,ep,h1,h2,_⟩:=(show Cg X.prog X.w H s.heap a (.dT kvs) from I.hok a _ ea);exact PySem.W.kia_one PySem.W.kitx_dict I.kIn ⟨o,h1,h2.1⟩ e (fun z=>nomatch z) h
 | @ins a C dx fs ea cl ha hn htk hm =>
  cases (show u=Value.ref a from rx);obtain⟨mA,O,_⟩:=RK I.hok ea;obtain⟨od,J,_⟩:=O.look;exact PySem.W.kia_one (PySem.W.kitx_own (cl.get _) cl.hd ha hn htk hm) I.kIn J e (fun z=>nomatch z) h
end
end L2
namespace L2
open PySem PySem.Spec PyProof.Rows
structure Room (k:Nat) (A:Around):Prop where
 hd:A.handled=none
 dp:A.depth+3*k+5<recursionLimit
 un:A.units+16*k+200<cLine
theorem Room.mono{j k:Nat}{A:Around}(r:Room k A)(h:j<=k):Room j A:=⟨r.hd,by have:=r.dp; lia,by have:=r.un; lia⟩
theorem Room.deeper{k:Nat}{A:Around}(r:Room (k+1) A)(env:Env):Room k (A.deeper env):=
 ⟨r.hd,by have:=r.dp; show A.depth+1+3*k+5<_; lia,by have:=r.un; show A.units+3+16*k+200<_; lia⟩
theorem Room.depth{k:Nat}{A:Around}(r:Room k A):A.depth<recursionLimit:=by have:=r.dp; lia
theorem Room.units{k:Nat}{A:Around}(r:Room k A):A.units+64<cLine:=by have:=r.un; lia
noncomputable def FT:TA:=fun _ H Q=>Q [] H
noncomputable def Ce(ta:TE)(tr:TA):TA:=fun σ H Q=>ta σ H fun x H1=>tr σ H1 fun xs H2=>Q (x::xs) H2
section
variable{X:Cx}{e:Expr}{es:List Expr}{te:TE}{t:TA}{pos:Pos}
theorem Eo:PA X [] FT:=fun _ _ _ _ H Q I h=>Calls.spliced_nil ⟨[],H,I,.nil,h⟩
theorem CL(ha:PE X e te)(hr:PA X es t)(hs:starEach (e::es) X.env=(false,eval e X.env)::starEach es X.env:=by rfl):PA X (e::es) (Ce te t):=by
 intro pos pins s σ H Q I h;rw[hs];show wpAny _ _ (spliced ((false,eval e X.env)::backTo pos (starEach es X.env))) _ _ s;refine Calls.spliced_cons (thn (ha pins s σ H _ I h) fun u s1 yy=>?_);obtain⟨x,H1,I1,r1,q1⟩:=yy;exact thn (hr pos pins s1 σ H1 _ I1 q1) fun us s2 ⟨xs,H2,I2,r2,q2⟩=>⟨x::xs,H2,I2,.cons r1 r2,q2⟩
noncomputable def V4(t:TA):TE:=fun σ H Q=>t σ H fun xs H1=>xs.length<=sizeLine/\∀p,H1 p=none->Q (.ref p) (upd H1 p (.tup xs))
noncomputable def W4(t:TA):TE:=fun σ H Q=>t σ H fun xs H1=>xs.length<=sizeLine/\∀p,H1 p=none->Q (.ref p) (upd H1 p (.lst xs))
theorem QE{x1}(h:PA X es t):PE X (.Tuple es x1 pos) (V4 t):=by
 intro pins s σ H Q I hq;refine wpAny_Tuple_spliced (thn (h pos pins s σ H _ I hq) fun us s1 ⟨xs,H1,I1,r,z,q⟩=>⟨by rw[<- r.length]; exact z,?_⟩);have hf:H1 s1.heap.objs.size=none:=I1.hok.fresh (Nat.le_refl _);refine⟨.ref s1.heap.objs.size,upd H1 s1.heap.objs.size (.tup xs),I1.laid (t':=s1.toks) (fun b u e=>Heap.get?_push_of_some _ e) (Nat.le_refl _) ?_,rfl,q _ hf⟩;exact⟨z,us,r,⟨_,Heap.get?_push_size _ rfl,rfl,_,rfl⟩⟩
theorem Vf(h:PA X es t):PE X (.List es pos) (W4 t):=by
 intro pins s σ H Q I hq;refine wpAny_List_spliced (thn (h pos pins s σ H _ I hq) fun us s1 ⟨xs,H1,I1,r,z,q⟩=>⟨by rw[<- r.length]; exact z,?_⟩);have hf:H1 s1.heap.objs.size=none:=I1.hok.fresh (Nat.le_refl _);refine⟨.ref s1.heap.objs.size,upd H1 s1.heap.objs.size (.lst xs),I1.laid (t':=s1.toks) (fun b u e=>Heap.get?_push_of_some _ e) (Nat.le_refl _) ?_,rfl,q _ hf⟩;exact⟨z,us,0,r,Heap.get?_push_size _ rfl⟩
end
noncomputable abbrev Sp:=List V->Hp->VK->XK->Prop
noncomputable abbrev CXT:=List Env->Hp->Shared->XK->Value->Shared->Prop
structure Env0 (P:Program) (w:World) (K:Frag) (mg:Str->Option Value) (base:Heap) (A:Around) (outer:List Env) (s:Shared) (H:Hp):Prop where
 frames:A.frames=some outer
 mod:Mod K mg base
 bs:∀b o,base.get? b=some o->s.heap.get? b=some o/\H b=none
 bsz:base.objs.size<=s.heap.objs.size
 funs:s.heap.FunFrames base outer
 frf:∀b∈frs outer,H b=none
 hok:HOk P w H s.heap
 bare:AllBare s.gens
 tb:Oc K H
noncomputable def CE(outer:List Env)(P:Program)(w:World)(H:Hp)(s:Shared)(Q:VK)(u:Value)(s':Shared):Prop:=
 ∃v H',s'.os=s.os/\AllBare s'.gens/\Un (frs outer) [] H H' s.heap s'.heap/\HOk P w H' s'.heap/\RelV v u/\Q v H'
noncomputable def CR(CX:CXT)(outer:List Env)(P:Program)(w:World)(H:Hp)(s:Shared)(Q:VK)(E:XK)(r:Result)(s':Shared):Prop:=
 match r with
 | .ok (.ret u)=>CE outer P w H s Q u s'
 | .ok _=>False
 | .error e=>CX outer H s E e s'
structure FnOk (P:Program) (w:World) (K:Frag) (mg:Str->Option Value) (base:Heap) (CX:CXT) (k:Nat) (f:Addr) (fd:FuncData) (ps:List Str) (sp:Sp):Prop where
 len:∀vs H Q E,sp vs H Q E->vs.length=ps.length
 run:∀(A:Around) (outer:List Env) (s:Shared) (H:Hp) (args:Args) (us:List Value) (vs:List V) (Q:VK) (E:XK),Room k A->Env0 P w K mg base A outer s H->BindsTo s fd args (ps.zip us)->Vals vs us->sp vs H Q E ->
  codeAny (model P w) A (.call (.ref f) args) (CR CX outer P w H s Q E) s
theorem FnOk.mono{P:Program}{w:World}{K:Frag}{mg:Str->Option Value}{base:Heap}{CX:CXT}{j k:Nat}{f:Addr}{fd:FuncData}{ps:List Str}{sp:Sp}(F:FnOk P w K mg base CX j f fd ps sp)(h:j<=k):
  FnOk P w K mg base CX k f fd ps sp:=⟨F.len,fun A outer s H args us vs Q E hr=>F.run A outer s H args us vs Q E (hr.mono h)⟩
section
variable{X:Cx}{pins:List (Addr×Obj)}{σ:St}{H:Hp}{s s':Shared}
theorem Inv.env0(I:Inv X pins σ H s):Env0 X.prog X.w X.K X.mg X.base X.A X.stack s H:=
 ⟨I.ok.frames,I.ok.mod,I.bs,Nat.le_trans I.ok.bsz I.sz,I.stack,I.stkFree,I.hok,I.bare,I.tabs⟩
theorem Inv.after{Q:VK}{u:Value}(I:Inv X pins σ H s)(h:CE X.stack X.prog X.w H s Q u s'):EP X pins σ Q u s':=by
 obtain⟨v,H',os,bare,un,hok,r,q⟩:=h;obtain⟨hh,g,d,t,os'⟩:=s';obtain rfl:os'=s.os:=os;exact⟨v,H',I.call (h':=hh) (g':=g) (d':=d) (t':=t) (ch:=[]) un hok bare (fun b z=>absurd z (by simp)),r,q⟩
end
noncomputable def Jz(sp:Sp)(dvs:List V)(E:XK)(t:TA):TE:=fun σ H Q=>t σ H fun vs H1=>sp (vs++dvs) H1 Q E
noncomputable def Binds(K:Frag)(fd:FuncData)(ps:List Str)(ds:List Value):Prop:=
 ∀(s:Shared) (us:List Value),K.In s.heap->(us++ds).length=ps.length->BindsTo s fd ⟨us,[]⟩ (ps.zip (us++ds))
theorem Binds.all{K:Frag}{fd:FuncData}{ps:List Str}(h:∀us:List Value,us.length=ps.length->bindArgs fd ⟨us,[]⟩=pure (ps.zip us)):Binds K fd ps []:=fun s us _ hl=>by
 rw[List.append_nil] at hl |-;exact .of_eq (h us hl)
noncomputable def Passes(CX:CXT)(X:Cx)(E:XK):Prop:=∀(pins:List (Addr×Obj)) (σ:St) (H:Hp) (s:Shared) (e:Value) (s':Shared),Inv X pins σ H s->CX X.stack H s E e s'->X.xe e s'
section
variable{X:Cx}{CX:CXT}{k:Nat}{f C:Addr}{fd:FuncData}{ps:List Str}{sp:Sp}{dvs:List V}{ds:List Value}{E:XK}{x m:Str}{p pos apos:Pos}{e o:Expr}{es:List Expr}{ta:TE}{t:TA}
theorem VA{pins:List (Addr×Obj)}{σ:St}{H:Hp}{s:Shared}{Q:VK}{us:List Value}{vs:List V}(F:FnOk X.prog X.w X.K X.mg X.base CX k f fd ps sp)(hr:Room k X.A)(hb:Binds X.K fd ps ds)(hd:Vals dvs ds)(hx:Passes CX X E)(I:Inv X pins σ H s)(r:Vals vs us)(h:sp (vs++dvs) H Q E):wpAny (model X.prog X.w) X.A (call (.ref f) us) (EP X pins σ Q) X.xe s:=by
 have r2:Vals (vs++dvs) (us++ds):=r.append hd;have hl:(us++ds).length=ps.length:=by rw[<- r2.length]; exact F.len _ _ _ _ h
 refine wpAny_call (codeAny_mono (F.run X.A X.stack s H ⟨us,[]⟩ (us++ds) (vs++dvs) Q E hr I.env0 (hb s us I.kIn hl) r2 h) fun r s' hq=>?_);cases r with
 | error e=>exact hx pins σ H s e s' I hq
 | ok fl =>
  cases fl with
  | ret u=>exact I.after hq
  | next=>exact False.elim hq
  | brk=>exact False.elim hq
  | cont=>exact False.elim hq
theorem Sm(F:FnOk X.prog X.w X.K X.mg X.base CX k f fd ps sp)(hr:Room k X.A)(hg:Gl X x)(hm:X.mg x=some (.ref f))(hk:PySem.W.keepIn X.K (.ref f)=true)(hb:Binds X.K fd ps ds)(hd:Vals dvs ds)(hx:Passes CX X E)(ha:PA X (e::es) t)(hdb:(x==("__debug__" : Str))=false:=by decide)(he:starEach (e::es) X.env=(false,eval e X.env)::starEach es X.env:=by rfl)(hpl:(backTo pos (starEach es X.env)).any (·.1)=false:=by rfl):
  PE X (.Call (.Name x p) (e::es) [] pos) (Jz sp dvs E t):=by
 intro pins s σ H Q I h;refine wpAny_Call_Name_kw (FJ I hg hm ?_ hdb);refine PySem.W.callWith_K (h₀:=X.base) I.ok.mod.kin hk (thn (ha pos pins s σ H _ I h) fun us s1 ⟨vs,H1,I1,r,q⟩=>⟨I1.kIn,?_⟩) he hpl;exact VA F hr hb hd hx I1 r q
end
structure FnScope (N P:List Str) (sc:Scope):Prop where
 kind:sc.kind=.function
 co:sc.isCoroutine=false
 gen:sc.isGenerator=false
 nd:N.Nodup
 pre:N.take P.length=P
 par:∀x∈P,sc.names.lookup x=some .local\/sc.names.lookup x=some .cell
 nofree:∀y∈sc.names,y.2≠.free
theorem Jm{kindOf:Str->Option NameKind}{x:Str}:∀{binds:List (Str×Value)} {m:Str->Option Value},(∀v,(x,v)∉binds)->bindL kindOf binds m x=m x
 | [],_,_=>rfl
 | (n,v)::r,m,h=>by
  unfold bindL;rw[Jm fun w hw=>h w (List.mem_cons_of_mem _ hw)];split
  .have:x≠n:=by rintro rfl; exact h v List.mem_cons_self
   simp[this]
  .rfl
theorem Jk{kindOf:Str->Option NameKind}{x:Str}:∀{binds:List (Str×Value)} {m:Str->Option Value},(∀v,(x,v)∉binds)->bindC kindOf binds m x=m x
 | [],_,_=>rfl
 | (n,v)::r,m,h=>by
  unfold bindC;rw[Jk fun w hw=>h w (List.mem_cons_of_mem _ hw)];split
  .rfl
  .have:x≠n:=by rintro rfl; exact h v List.mem_cons_self
   simp[this]
theorem Jl{kindOf:Str->Option NameKind}{x:Str}{v:Value}:∀{P:List Str} {vs:List Value} {i:Nat} {m:Str->Option Value},P.Nodup->P[i]? = some x->vs[i]? = some v->kindOf x=some .local ->
  bindL kindOf (P.zip vs) m x=some v
 | [],_,_,_,_,h,_,_=>by simp at h
 | _::_,[],_,_,_,_,h,_=>by simp at h
 | p::P,w::vs,0,m,nd,h1,h2,hk=>by
  simp at h1 h2; subst h1; subst h2;show bindL kindOf ((p,w)::P.zip vs) m p=_;unfold bindL;rw[Jm fun v hv=>(List.nodup_cons.mp nd).1 (List.of_mem_zip hv).1,if_pos hk];simp
 | p::P,w::vs,i+1,m,nd,h1,h2,hk=>by
  show bindL kindOf ((p,w)::P.zip vs) m x=_;unfold bindL;exact Jl (i:=i) (List.nodup_cons.mp nd).2 (by simpa using h1) (by simpa using h2) hk
theorem Jj{kindOf:Str->Option NameKind}{x:Str}{v:Value}:∀{P:List Str} {vs:List Value} {i:Nat} {m:Str->Option Value},P.Nodup->P[i]? = some x->vs[i]? = some v->kindOf x≠some .local ->
  bindC kindOf (P.zip vs) m x=some v
 | [],_,_,_,_,h,_,_=>by simp at h
 | _::_,[],_,_,_,_,h,_=>by simp at h
 | p::P,w::vs,0,m,nd,h1,h2,hk=>by
  simp at h1 h2; subst h1; subst h2;show bindC kindOf ((p,w)::P.zip vs) m p=_;unfold bindC;rw[Jk fun v hv=>(List.nodup_cons.mp nd).1 (List.of_mem_zip hv).1,if_neg hk];simp
 | p::P,w::vs,i+1,m,nd,h1,h2,hk=>by
  show bindC kindOf ((p,w)::P.zip vs) m x=_;unfold bindC;exact Jj (i:=i) (List.nodup_cons.mp nd).2 (by simpa using h1) (by simpa using h2) hk
noncomputable def start(N:List Str)(vs:List V):St:=vs.map some++List.replicate (N.length-vs.length) none
noncomputable def A7(CX:CXT)(P:Program)(w:World)(K:Frag)(mg:Str->Option Value)(base:Heap)(N:List Str)(qual:Str)(scope:Scope)(f:Addr)(cd:Value)(A:Around)(outer:List Env)(s:Shared)(H:Hp)(E:XK):Cx where
 prog:=P
 w:=w
 K:=K
 mg:=mg
 base:=base
 A:=A.deeper (envOfC qual scope s.heap.objs.size f cd)
 N:=N
 s₀:=s
 H₀:=H
 env:=envOfC qual scope s.heap.objs.size f cd
 outer:=outer
 stack:=envOfC qual scope s.heap.objs.size f cd::outer
 ex:=[]
 calm:=true
 fn:=fun _=>true
 pn:=[]
 xe:=fun e s'=>wpAny (model P w) (A.deeper (envOfC qual scope s.heap.objs.size f cd)) (leaving (envOfC qual scope s.heap.objs.size f cd) e) (fun _ s''=>CX outer H s E e s'') (fun e' s''=>CX outer H s E e' s'') s'
theorem K9{sc:Scope}{n:Nat}{x:Str}(h:sc.names.lookup x=some .cell):∃c,(cellsFrom n sc.names []).lookup x=some c:=by
 have q:=PySem.W.cellsFrom_some sc.names n [] (.inl h);exact Option.isSome_iff_exists.mp q
theorem G0{CX:CXT}{P:Program}{w:World}{K:Frag}{mg:Str->Option Value}{base:Heap}{N ps:List Str}{qual:Str}{scope:Scope}{f:Addr}{cd:Value}{A:Around}{outer:List Env}{s s1:Shared}{H:Hp}{E:XK}{us:List Value}{vs:List V}(S:FnScope N ps scope)(hd:A.handled=none)(e0:Env0 P w K mg base A outer s H)(hl:vs.length=ps.length)(r:Vals vs us)(x:InCallC s s.heap.objs.size (bindL (envOfC qual scope s.heap.objs.size f cd).kindOf (ps.zip us) fun _=>none) (cellsFrom (s.heap.objs.size+1) scope.names []) (bindC (envOfC qual scope s.heap.objs.size f cd).kindOf (ps.zip us) fun _=>none) s1):
  Inv (A7 CX P w K mg base N qual scope f cd A outer s H E) [] (start N vs) H s1:=by
 have hpl:ps.length<=N.length:=by have:=congrArg List.length S.pre; rw[List.length_take] at this; lia
 obtain⟨h1,tk,rfl,hk⟩:=x.done;have noA:∀b:Addr,b∉(A7 CX P w K mg base N qual scope f cd A outer s H E).ex:=fun b z=>absurd (show b∈([]:List Addr) from z) (by simp);refine⟨⟨e0.mod,S.kind,rfl,rfl,Nat.le_refl _,fun y z c h1 h2=>?_,fun y hy=>?_,fun y c _ h=>?_,fun _=>hd,Around.frames_deeper e0.frames,.inr ⟨rfl,rfl⟩,fun b z=>absurd z (noA b),e0.bs,e0.bsz,fun b _ _=>noA b,fun b z=>absurd z (noA b),e0.funs,e0.frf,e0.tb⟩,
  rfl,e0.bare,Un.kept hk,⟨_,x.toInCall.ns,fun i y v h1 h2 h3=>?_⟩,fun y c h=>⟨_,x.cell y c h⟩,e0.hok.fresh (Nat.le_refl _),fun y c h=>?_,fun p hp=>absurd (show p∈([]:List (Addr×Obj)) from hp) (by simp),e0.hok.kept hk,?_⟩
 .exact name_of_addr x.apart (PySem.mem_of_lookup h1) (PySem.mem_of_lookup h2)
 .have hy:scope.names.lookup y=some .cell\/scope.names.lookup y=some .free:=hy
  rcases hy with hy|hy
  .exact K9 hy
  .exact absurd rfl (S.nofree _ (PySem.mem_of_lookup hy))
 .exact Nat.le_of_lt (x.above y c (PySem.mem_of_lookup h))
 .have hi:i<vs.length:=by
   unfold start at h2;by_cases hi:i<vs.length
   .exact hi
   .rw[List.getElem?_append_right (by simpa using hi)] at h2
    rw[List.getElem?_replicate] at h2;split at h2<;>cases h2
  have ha:vs[i]? = some v:=by
   unfold start at h2;rw[List.getElem?_append_left (by simpa using hi),List.getElem?_map] at h2;cases e:vs[i]? with
   | none=>rw[e] at h2; cases h2
   | some a=>rw[e] at h2; cases h2; rfl
  obtain⟨u,hu,rv⟩:=r.get ha;have hp:ps[i]? = some y:=by
   rw[<- S.pre,List.getElem?_take_of_lt (by lia)]; exact h1
  have ndP:ps.Nodup:=by rw[<- S.pre]; exact S.nd.sublist (List.take_sublist _ _)
  refine⟨u,rv,?_⟩;rcases S.par y (List.mem_of_getElem? hp) with k|k
  .exact .inl ⟨k,Jl ndP hp hu k⟩
  .obtain⟨c,e⟩:=K9 (n:=s.heap.objs.size+1) k
   refine .inr ⟨.inl k,c,e,?_⟩;have q:=x.cell y c e;rw[Jj ndP hp hu (by show scope.names.lookup y≠_; rw[k]; decide)] at q;exact q
 .exact e0.hok.fresh (Nat.le_of_lt (x.above y c (PySem.mem_of_lookup h)))
 .unfold start
  show _=N.length;rw[List.length_append,List.length_map,List.length_replicate];lia
theorem Py{CX:CXT}{P:Program}{w:World}{K:Frag}{mg:Str->Option Value}{base:Heap}{k:Nat}{f:Addr}{name qual:Str}{params:Arguments}{body:List Stmt}{scope:Scope}{dV kV doc pm cdv ct oc:Value}{an od:Option Addr}{osl:Array (Option Value)}{N ps:List Str}{sp:Sp}(lk:K.lookup f=some ⟨oc,od,.func (PySem.W.fnOf name qual params body scope dV kV doc pm an cdv ct),osl⟩)(hcd:PySem.W.codeIn K cdv qual=true)(S:FnScope N ps scope)(len:∀vs H Q E,sp vs H Q E->vs.length=ps.length)(hbody:∀(A:Around) (outer:List Env) (s:Shared) (H:Hp) (vs:List V) (Q:VK) (E:XK),Room k (A.deeper (envOfC qual scope s.heap.objs.size f cdv))->sp vs H Q E ->
   ∃t,PSs (A7 CX P w K mg base N qual scope f cdv A outer s H E) body t/\t { nx:=fun _ H'=>Q .non H',rt:=Q } (start N vs) H):
  FnOk P w K mg base CX (k+1) f (PySem.W.fnOf name qual params body scope dV kV doc pm an cdv ct) ps sp:=by
 refine⟨len,fun A outer s H args us vs Q E hr e0 hb r hsp=>?_⟩;have hl:=len _ _ _ _ hsp;have KX:K.In s.heap:=e0.mod.kin.keeps fun b o e=>(e0.bs b o e).1;have lim:s.heap.NoLimit:=e0.mod.nolimit.keeps fun b o e=>(e0.bs b o e).1;have hkind:∀y∈ps.zip us,scope.names.lookup y.1=some .local\/(scope.names.lookup y.1=some .cell/\((cellsFrom (s.heap.objs.size+1) scope.names []).lookup y.1).isSome=true):=fun⟨n,v⟩ hy=>by
  rcases S.par n (List.of_mem_zip hy).1 with q|q
  .exact .inl q
  .exact .inr ⟨q,PySem.W.cellsFrom_some _ _ _ (.inl q)⟩
 refine codeAny_call_function hr.depth (KX _ _ lk) rfl S.co S.gen rfl (PySem.W.codeRec_of KX hcd) (hb _ _ _ _ ?_);refine wpAny_newFunctionEnv_cells S.kind hkind fun env he s1 x=>?_;subst he;refine⟨lim.keeps x.toInCall.keep,codeAny_func ?_⟩;obtain⟨t,ht,hq⟩:=hbody A outer s H vs Q E (hr.deeper _) hsp;have I:Inv (A7 CX P w K mg base N qual scope f cdv A outer s H E) [] (start N vs) H s1:=G0 S hr.hd e0 hl r x;refine wpAny_mono (ht [] s1 (start N vs) H _ I hq) (fun fl s' hs=>?_) fun e s' hs=>hs;have fin:∀{σ':St} {H':Hp} {v:V} {u:Value},Inv (A7 CX P w K mg base N qual scope f cdv A outer s H E) [] σ' H' s'->RelV v u->Q v H'->CE outer P w H s Q u s':=
  fun {σ' H' v u} J rv q=>⟨v,H',J.os,J.bare,J.base,J.hok,rv,q⟩
 cases fl with
 | ret u =>
  obtain⟨v,σ',H',J,rv,q⟩:=hs;exact fin J rv q
 | next =>
  obtain⟨σ',H',J,q⟩:=hs;exact fin (v:=V.non) (u:=Value.none) J rfl q
 | brk =>
  obtain⟨_,_,_,q⟩:=hs;exact False.elim q
 | cont =>
  obtain⟨_,_,_,q⟩:=hs;exact False.elim q
end L2
namespace L2
open PySem PySem.Spec PyProof.Rows
section
variable{X:Cx}{x:Str}{p pos:Pos}{e:Expr}{es:List Expr}{t:TA}{id T:String}{r:List V->Hp->VK->Prop}
noncomputable def tCB(r:List V->Hp->VK->Prop)(t:TA):TE:=fun σ H Q=>t σ H fun vs H1=>r vs H1 Q
theorem Iv(hc:B1 X (.builtin id) r)(hg:Gl X x)(hm:X.mg x=none)(hv:bootBuiltins x=some (.builtin id))(ha:PA X (e::es) t)(hn:x ≠ "__name__" := by decide)(hdb:(x==("__debug__" : Str))=false:=by decide)(he:starEach (e::es) X.env=(false,eval e X.env)::starEach es X.env:=by rfl)(hpl:(backTo pos (starEach es X.env)).any (·.1)=false:=by rfl):PE X (.Call (.Name x p) (e::es) [] pos) (tCB r t):=by
 intro pins s σ H Q I h;refine wpAny_Call_Name_kw (Ig I hg hm hv ?_ hn hdb);exact PyProof.Rows.callWith_builtin1 (thn (ha pos pins s σ H _ I h) fun us s1 ⟨vs,H1,I1,r1,q1⟩=>hc pins s1 σ H1 vs us Q I1 r1 q1) he hpl
theorem OI(hc:B1 X (.type T) r)(hg:Gl X x)(hm:X.mg x=none)(hv:bootBuiltins x=some (.type T))(ha:PA X (e::es) t)(hn:x ≠ "__name__" := by decide)(hdb:(x==("__debug__" : Str))=false:=by decide)(he:starEach (e::es) X.env=(false,eval e X.env)::starEach es X.env:=by rfl)(hpl:(backTo pos (starEach es X.env)).any (·.1)=false:=by rfl):PE X (.Call (.Name x p) (e::es) [] pos) (tCB r t):=by
 intro pins s σ H Q I h;refine wpAny_Call_Name_kw (Ig I hg hm hv ?_ hn hdb);exact PyProof.Rows.callWith_type1 (thn (ha pos pins s σ H _ I h) fun us s1 ⟨vs,H1,I1,r1,q1⟩=>hc pins s1 σ H1 vs us Q I1 r1 q1) he hpl
end
end L2
namespace HT
open PySem PyProof.Rows
section
variable{prog:Program}{w:World}{A:Around}{E:Value->Shared->Prop}{s:Shared}
noncomputable def sIx(n d:Nat):Option Int->Nat
 | none=>d
 | some v=>if v<0 then (v+(n:Int)).toNat else min v.toNat n
theorem LW(n d:Nat):sIx n d none=d:=rfl
theorem NV(n d k:Nat):sIx n d (some (k:Int))=min k n:=by
 show(if (k:Int)<0 then ((k:Int)+(n:Int)).toNat else min (k:Int).toNat n)=min k n;rw[if_neg (by lia),Int.toNat_natCast]
end
end HT
namespace L2
open PySem PySem.Spec PyProof.Rows
noncomputable abbrev TO:=St->Hp->(Option Int->Hp->Prop)->Prop
noncomputable def PO(X:Cx)(e:Option Expr)(t:TO):Prop:=
 ∀(pins:List (Addr×Obj)) (s:Shared) (σ:St) (H:Hp) (Q:Option Int->Hp->Prop),Inv X pins σ H s->t σ H Q ->
  wpAny (model X.prog X.w) X.A (evalPart e X.env) (fun u s'=>∃o H',Inv X pins σ H' s'/\IsPart u o/\Q o H') X.xe s
noncomputable def SW:TO:=fun _ H Q=>Q none H
noncomputable def W6(t:TE):TO:=fun σ H Q=>t σ H fun x H1=>∃i,x=.int i/\Q (some i) H1
section
variable{X:Cx}{e:Expr}{te:TE}{lo hi:Option Expr}{tl th:TO}{pos p2:Pos}
theorem NP:PO X none SW:=by
 intro pins s σ H Q I h;rw[evalPart_none];exact wpAny_pure ⟨none,H,I,.none,h⟩
theorem NQ(h:PE X e te):PO X (some e) (W6 te):=by
 intro pins s σ H Q I hw;rw[evalPart_some];refine thn (h pins s σ H _ I hw) fun u s1 yy=>?_;obtain⟨x,H1,I1,r1,q1⟩:=yy;obtain⟨i,rfl,q⟩:=q1;obtain⟨t,rfl⟩:=r1;exact⟨some i,H1,I1,.int i t,q⟩
noncomputable def SlR(X:Cx)(r:V->Option Int->Option Int->Hp->VK->Prop):Prop:=
 ∀(pins:List (Addr×Obj)) (s:Shared) (σ:St) (H:Hp) (x:V) (v vl vu:Value) (lo hi:Option Int) (sl:Addr) (Q:VK),Inv X pins σ H s->RelV x v->s.heap.IsSliceOf sl vl vu .none->IsPart vl lo->IsPart vu hi->r x lo hi H Q ->
  ∃T id,typeLookup (.type T) "__getitem__" = pure (some (.builtin id))/\s.TypeIs v T/\wpAny (model X.prog X.w) X.A (getItem v (.ref sl)) (EP X pins σ Q) X.xe s
noncomputable def tSl(r:V->Option Int->Option Int->Hp->VK->Prop)(te:TE)(tl th:TO):TE:=fun σ H Q=>te σ H fun x H1=>tl σ H1 fun l H2=>th σ H2 fun u H3=>r x l u H3 Q
theorem LN{r:V->Option Int->Option Int->Hp->VK->Prop}(hr:SlR X r)(he:PE X e te)(hl:PO X lo tl)(hu:PO X hi th):PE X (.Subscript e (.Slice lo hi none p2) pos) (tSl r te tl th):=by
 intro pins s σ H Q I h;refine Subscript_ (thn (he pins s σ H _ I h) fun v s1 yy=>?_);obtain⟨x,H1,I1,r1,q1⟩:=yy;refine wpAny_Slice (thn (hl pins s1 σ H1 _ I1 q1) fun vl s2 ⟨l,H2,I2,pl,q2⟩=>thn (hu pins s2 σ H2 _ I2 q2) fun vu s3 yy=>?_);obtain⟨u,H3,I3,pu,q3⟩:=yy;rw[evalPart_none];refine wpAny_pure ?_;have I4:Inv X pins σ H3 { s3 with heap:=s3.heap.push { cls:=.type "slice",data:=.fields #[vl,vu,.none] } }:=I3.kept (t':=s3.toks) fun b ob q=>Heap.get?_push_of_some _ q;obtain⟨T,id,hT,ht,hg⟩:=hr pins { s3 with heap:=s3.heap.push { cls:=.type "slice",data:=.fields #[vl,vu,.none] } } σ H3 x v vl vu l u s3.heap.objs.size Q I4 r1 (Heap.IsSliceOf.new ..) pl pu q3;show wpAny (model X.prog X.w) X.A (subscriptTail e (.Slice lo hi none p2) v (.ref s3.heap.objs.size)) (EP X pins σ Q) X.xe { s3 with heap:=s3.heap.push { cls:=.type "slice",data:=.fields #[vl,vu,.none] } };exact tail_any (ops:=[.ref s3.heap.objs.size,v]) ht hT hg (by with_unfolding_all rfl)
noncomputable def Oh(xs:List V)(lo hi:Option Int):List V:=(xs.drop (HT.sIx xs.length 0 lo)).take (HT.sIx xs.length xs.length hi-HT.sIx xs.length 0 lo)
theorem E9(xs:List V)(lo hi:Option Int):(Oh xs lo hi).length<=xs.length:=by
 unfold Oh;rw[List.length_take,List.length_drop];lia
end
end L2
namespace L2
open PySem PySem.Spec PyProof.Rows
noncomputable def ixN(n:Nat)(i:Int):Option Nat:=if 0<=i then (if i<n then some i.toNat else none) else if -(n:Int)<=i then some (i+n).toNat else none
noncomputable def atI{α:Type}(xs:List α)(i:Int):Option α:=(ixN xs.length i).bind fun j=>xs[j]?
theorem Ny{n:Nat}{i:Int}{j:Nat}(h:ixN n i=some j):seqIndex? i n=some j/\j<n/\-(n:Int)<=i/\i<n:=by
 unfold ixN at h;by_cases h0:0<=i
 .rw[if_pos h0] at h
  by_cases h1:i<n
  .rw[if_pos h1] at h
   have e:i.toNat=j:=Option.some.inj h;exact⟨by rw[seqIndex_of h0 h1,e],by lia,by lia,h1⟩
  .rw[if_neg h1] at h; cases h
 .rw[if_neg h0] at h
  by_cases h1 : -(n:Int)<=i
  .rw[if_pos h1] at h
   have e:(i+n).toNat=j:=Option.some.inj h;exact⟨by rw[seqIndex_neg (by lia) h1,e],by lia,h1,by lia⟩
  .rw[if_neg h1] at h; cases h
theorem Cb{α:Type}{xs:List α}{i:Int}{v:α}(h:atI xs i=some v):∃j,seqIndex? i xs.length=some j/\xs[j]? = some v/\j<xs.length/\-(xs.length:Int)<=i/\i<xs.length:=by
 unfold atI at h;cases e:ixN xs.length i with
 | none=>rw[e] at h; cases h
 | some j =>
  rw[e] at h;obtain⟨h1,h2,h3,h4⟩:=Ny e;exact⟨j,h1,h,h2,h3,h4⟩
theorem JJ{α:Type}{xs:List α}{j:Nat}{v:α}(h:xs[j]? = some v):atI xs (j:Int)=some v:=by
 have hj:j<xs.length:=(List.getElem?_eq_some_iff.mp h).1;have e:ixN xs.length (j:Int)=some j:=by
  unfold ixN;rw[if_pos (by lia),if_pos (by lia)]; simp
 unfold atI; rw[e]; exact h
noncomputable def Nk(b:Expr):Prop:=∀o i,subscripted b false o i=operate [o,i] (getItem o i)
noncomputable def IxR(X:Cx)(r:R2):Prop:=
 ∀(value slice:Expr) (pins:List (Addr×Obj)) (s:Shared) (σ:St) (H:Hp) (x y:V) (v u:Value) (Q:VK),Inv X pins σ H s->RelV x v->RelV y u->r x y H Q ->
  subscripted slice false v u=operate [v,u] (getItem v u)->wpAny (model X.prog X.w) X.A (subscriptTail value slice v u) (EP X pins σ Q) X.xe s
noncomputable def MtR(X:Cx)(id:String)(r:V->List V->Hp->VK->Prop):Prop:=
 ∀(pins:List (Addr×Obj)) (s:Shared) (σ:St) (H:Hp) (x:V) (xs:List V) (v:Value) (us:List Value) (Q:VK),Inv X pins σ H s->RelV x v->Vals xs us->r x xs H Q ->
  wpAny (model X.prog X.w) X.A (call (.builtin id) (v::us)) (EP X pins σ Q) X.xe s
section
variable{X:Cx}{a b:Expr}{ta tb:TE}{pos:Pos}
theorem IxR.or{r r':R2}(h:IxR X r)(h':IxR X r'):IxR X (fun x y H Q=>r x y H Q\/r' x y H Q):=by
 intro value slice pins s σ H x y v u Q I rx ry q hs;rcases q with q|q
 .exact h value slice pins s σ H x y v u Q I rx ry q hs
 .exact h' value slice pins s σ H x y v u Q I rx ry q hs
theorem Tn{r:R2}(hr:IxR X r)(ha:PE X a ta)(hb:PE X b tb)(hs:Nk b):PE X (.Subscript a b pos) (tOp r ta tb):=by
 intro pins s σ H Q I h;exact Subscript_ (T1 ha hb I h fun v u s2 x y H2 I2 rx ry q=>hr a b pins s2 σ H2 x y v u Q I2 rx ry q (hs _ _))
noncomputable def WQ(K:Frag):R2:=fun x y H Q=>∃p xs i v,x=.ref p/\y=.int i/\SqL K H p xs/\atI xs i=some v/\Q v H
noncomputable def WS(K:Frag):R2:=fun x y H Q=>∃p xs i v,x=.ref p/\y=.int i/\SqT K H p xs/\atI xs i=some v/\Q v H
noncomputable def WR:R2:=fun x y H Q=>∃z i c,x=.str z/\y=.int i/\z.length<=sizeLine/\atI z.cps.toList i=some c/\Q (.str ⟨#[c]⟩) H
theorem RQ:IxR X (WQ X.K):=by
 intro value slice pins s σ H x y v u Q I rx ry h hs;obtain⟨p,xs,i,z,rfl,rfl,hq,he,q⟩:=h;cases rx;obtain⟨t,rfl⟩:=ry;obtain⟨its,r,pl,hz⟩:=I.list hq;obtain⟨j,h1,h2,h3,h4,h5⟩:=Cb he;obtain⟨w,ew,rw'⟩:=r.get h2;have hl:=r.length;have hn:=G4;have fin:EP X pins σ Q w s:=⟨z,H,I,rw',q⟩;by_cases h0:0<=i
 .have hj:i.toNat=j:=by
   rw[seqIndex_of h0 h5] at h1;exact Option.some.inj h1
  exact item_listR pl.isList h0 (by lia) (by rw[hj]; simpa using ew) fin hs
 .have hj:(i+(its.toArray.size:Int)).toNat=j:=by
   rw[seqIndex_neg (by lia) h4] at h1;rw[List.size_toArray,<- hl];exact Option.some.inj h1
  exact subscriptTail_builtinR (x:=w) pl.isList.typeIs slot_list_getitem.lookup
   (wpAny_getItem_list_neg (Q:=fun r s'=>r=w/\EP X pins σ Q r s') pl.isList (by lia) (by rw[List.size_toArray]<;>lia) (by lia) (by rw[hj]; simpa using ew) ⟨rfl,fin⟩) hs
theorem Ut:IxR X (WS X.K):=by
 intro value slice pins s σ H x y v u Q I rx ry h hs;obtain⟨p,xs,i,z,rfl,rfl,hq,he,q⟩:=h;cases rx;obtain⟨t,rfl⟩:=ry;obtain⟨its,r,pl,hz⟩:=I.tuple hq;obtain⟨j,h1,h2,h3,h4,h5⟩:=Cb he;obtain⟨w,ew,rw'⟩:=r.get h2;have hl:=r.length;have hn:=G4;have fin:EP X pins σ Q w s:=⟨z,H,I,rw',q⟩;exact subscriptTail_builtinR (x:=w) pl.typeIs slot_tuple_getitem.lookup
  (getItem_tuple (j:=j) (Q:=fun r s'=>r=w/\EP X pins σ Q r s') pl (by lia) (by lia) (by rw[List.size_toArray,<- hl]; exact h1) (by simpa using ew) ⟨rfl,fin⟩) hs
theorem Us:IxR X WR:=by
 intro value slice pins s σ H x y v u Q I rx ry h hs;obtain⟨z,i,c,rfl,rfl,hz,he,q⟩:=h;obtain⟨t,rfl⟩:=rx;obtain⟨t',rfl⟩:=ry;obtain⟨j,h1,h2,h3,h4,h5⟩:=Cb he;have hl:z.cps.toList.length=z.length:=by simp[Str.length]
 rw[hl] at h1 h4 h5;have hn:=G4;exact tail_any (typeIs_str s z t) slot_str_getitem.lookup (getItem_str (c:=c) (by
  have e1:decide (i < -(2 ^ 63:Int))=false:=decide_eq_false (by lia);have e2:decide (i ≥ 2 ^ 63)=false:=decide_eq_false (by lia);rw[e1,e2,Bool.or_false]) (by rw[h1]; simpa using h2) ⟨.str ⟨#[c]⟩,H,I.tok _,⟨_,rfl⟩,q⟩) hs
noncomputable def rIx(K:Frag):R2:=fun x y H Q=>WQ K x y H Q\/WS K x y H Q\/WR x y H Q
theorem Av:IxR X (rIx X.K):=RQ.or (Ut.or Us)
theorem MG(its:List Value)(n j:Nat)(u:Value):Obj.mapSeq (·.setIfInBounds j u) { cls:=.type "list",data:=.seq its.toArray n }={ cls:=.type "list",data:=.seq (its.set j u).toArray n }:=by
 simp[Obj.mapSeq]
theorem Inv.lst{pins:List (Addr×Obj)}{σ:St}{H:Hp}{s:Shared}{p:Addr}{xs:List V}(I:Inv X pins σ H s)(h:H p=some (.lst xs)):
  ∃(its:List Value) (n:Nat),Vals xs its/\s.heap.get? p=some { cls:=.type "list",data:=.seq its.toArray n }/\xs.length<=sizeLine:=by
 obtain⟨z,its,n,r,e⟩:=I.hok p _ h;exact⟨its,n,r,e,z⟩
theorem Inv.lstUpd{pins:List (Addr×Obj)}{σ:St}{H:Hp}{s:Shared}{p:Addr}{xs ys:List V}{its its':List Value}{n n':Nat}{f:Obj->Obj}(I:Inv X pins σ H s)(h:H p=some (.lst xs))(ho:s.heap.get? p=some { cls:=.type "list",data:=.seq its.toArray n })(hf:f { cls:=.type "list",data:=.seq its.toArray n }={ cls:=.type "list",data:=.seq its'.toArray n' })(r:Vals ys its')(hz:ys.length<=sizeLine)(t:Nat):
  Inv X pins σ (upd H p (.lst ys)) { s with heap:=s.heap.update p f,toks:=t }:=by
 have e:(s.heap.update p f).get? p=some { cls:=.type "list",data:=.seq its'.toArray n' }:=by
  rw[Heap.get?_update_self f ho (by rw[hf]<;>rfl),hf]
 refine I.write (x:=p) (e:=p) (by rw[h]; trivial) (.inl rfl) (fun b u hb q=>(Heap.get?_update_other _ _ (Ne.symm hb)).trans q) ⟨_,e⟩ ?_;exact⟨hz,its',n',r,e⟩
noncomputable def Tu:V->V->V->Hp->(Hp->Prop)->Prop:=fun o i v H Q=>∃p xs k j,o=.ref p/\i=.int k/\H p=some (.lst xs)/\ixN xs.length k=some j/\Q (upd H p (.lst (xs.set j v)))
theorem set_list:Wb X Tu:=by
 intro pins s σ H o i v ov iv u Q I ro ri rv h;obtain⟨p,xs,k,j,rfl,rfl,hp,hj,q⟩:=h;cases ro;obtain⟨t,rfl⟩:=ri;obtain⟨its,n,r,ho,hz⟩:=I.lst hp;obtain⟨h1,h2,h3,h4⟩:=Ny hj;have hl:=r.length;have hn:=G4;have I':Inv X pins σ (upd H p (.lst (xs.set j v))) { s with heap:=s.heap.update p (Obj.mapSeq (·.setIfInBounds j u)) }:=
  I.lstUpd hp ho (MG its n j u) (r.set rv j) (by rw[List.length_set]; exact hz) s.toks
 by_cases h0:0<=k
 .have hk:k.toNat=j:=by
   rw[seqIndex_of h0 h4] at h1;exact Option.some.inj h1
  exact PySem.W.ki_setAt ho h0 (by lia) (by rw[List.size_toArray,<- hl]; exact h4) (by rw[hk]; exact⟨_,I',q⟩)
 .have hk:(k+(its.toArray.size:Int)).toNat=j:=by
   rw[seqIndex_neg (by lia) h3] at h1;rw[List.size_toArray,<- hl];exact Option.some.inj h1
  exact PySem.W.ki_setBack ho (by lia) (by rw[List.size_toArray,<- hl]; exact h3) (by lia) (by rw[hk]; exact⟨_,I',q⟩)
theorem KL(lo hi:Option Int)(n:Nat):(sliceBounds lo hi none n).1=((HT.sIx n 0 lo:Nat):Int)/\(sliceBounds lo hi none n).2.1=((HT.sIx n n hi:Nat):Int)/\(sliceBounds lo hi none n).2.2=1:=by
 refine⟨?_,?_,rfl⟩
 .cases lo with
  | none=>simp[sliceBounds,HT.sIx]
  | some i =>
   simp only[sliceBounds,HT.sIx,Option.getD_none,show(1:Int) > 0 by decide,if_true];by_cases h:i<0
   .simp only[h,if_true]<;>lia
   .simp only[h,if_false]<;>lia
 .cases hi with
  | none=>simp[sliceBounds,HT.sIx]
  | some i =>
   simp only[sliceBounds,HT.sIx,Option.getD_none,show(1:Int) > 0 by decide,if_true];by_cases h:i<0
   .simp only[h,if_true]<;>lia
   .simp only[h,if_false]<;>lia
theorem Jh(its:List Value)(lo hi:Option Int):slicePick its.toArray lo hi none=((its.drop (HT.sIx its.length 0 lo)).take (HT.sIx its.length its.length hi-HT.sIx its.length 0 lo)).toArray:=by
 obtain⟨h1,h2,h3⟩:=KL lo hi its.toArray.size;unfold slicePick;rw[h1,h2,h3];simp only[sliceRange_one,pick_run,List.size_toArray]<;>rfl
noncomputable def Vv(K:Frag):V->Option Int->Option Int->Hp->VK->Prop:=fun x lo hi H Q=>∃a xs,x=.ref a/\SqL K H a xs/\∀p,H p=none->Q (.ref p) (upd H p (.lst (Oh xs lo hi)))
theorem N0:SlR X (Vv X.K):=by
 intro pins s σ H x v vl vu lo hi sl Q I rx hs pl pu h;obtain⟨a,xs,rfl,hx,q⟩:=h;cases rx;obtain⟨its,r,ht,hz⟩:=I.list hx;have hlen:=r.length;refine⟨"list",_,slot_list_getitem.lookup,ht.isList.typeIs,?_⟩;refine wpAny_getItem_list_slice ht.isList hs pl pu .none (by simp) ?_ (by rw[List.size_toArray]<;>lia);rw[Jh,<- hlen];refine⟨.ref s.heap.objs.size,_,I.laid (t':=s.toks) (o:=.lst (Oh xs lo hi)) (fun b ob q=>Heap.get?_push_of_some _ q) (Nat.le_refl _) ?_,rfl,q _ (I.hok.fresh (Nat.le_refl _))⟩;exact⟨Nat.le_trans (E9 xs lo hi) hz,_,0,(r.drop (HT.sIx xs.length 0 lo)).take (HT.sIx xs.length xs.length hi-HT.sIx xs.length 0 lo),Heap.get?_push_size _ rfl⟩
noncomputable def FY:V->Bool
 | .non=>true
 | .bl _=>true
 | .int _=>true
 | .str _=>true
 | _=>false
noncomputable def eqV:V->V->Bool
 | .non,.non=>true
 | .bl a,.bl b=>a==b
 | .bl a,.int b=>(if a then 1 else 0)==b
 | .int a,.bl b=>a==(if b then 1 else 0)
 | .int a,.int b=>a==b
 | .str a,.str b=>a==b
 | _,_=>false
theorem T8{A:Around}{s:Shared}{y x:V}{u v:Value}(ry:RelV y u)(rx:RelV x v)(fy:FY y=true)(fx:FY x=true):SeqAt.EqAt A s u v (eqV y x):=by
 cases y with
 | non =>
  cases ry;cases x with
  | non=>cases rx; exact SeqAt.EqAt.same _
  | bl b=>cases rx; exact SeqAt.EqAt.none_bool b
  | int b=>obtain⟨t,rfl⟩:=rx; exact SeqAt.EqAt.none_int b t
  | str b=>obtain⟨t,rfl⟩:=rx; exact SeqAt.EqAt.none_str b t
  | _=>exact absurd (show false=true from fx) Bool.false_ne_true
 | bl a =>
  cases ry;cases x with
  | non=>cases rx; exact SeqAt.EqAt.bool_none a
  | bl b=>cases rx; exact SeqAt.EqAt.bool_bool a b
  | int b=>obtain⟨t,rfl⟩:=rx; exact SeqAt.EqAt.bool_int a b t
  | str b=>obtain⟨t,rfl⟩:=rx; exact SeqAt.EqAt.bool_str a b t
  | _=>exact absurd (show false=true from fx) Bool.false_ne_true
 | int a =>
  obtain⟨t',rfl⟩:=ry;cases x with
  | non=>cases rx; exact SeqAt.EqAt.int_none a t'
  | bl b=>cases rx; exact SeqAt.EqAt.int_bool a t' b
  | int b=>obtain⟨t,rfl⟩:=rx; exact SeqAt.EqAt.int_int a t' b t
  | str b=>obtain⟨t,rfl⟩:=rx; exact SeqAt.EqAt.int_str a t' b t
  | _=>exact absurd (show false=true from fx) Bool.false_ne_true
 | str a =>
  obtain⟨t',rfl⟩:=ry;cases x with
  | non=>cases rx; exact SeqAt.EqAt.str_none a t'
  | bl b=>cases rx; exact SeqAt.EqAt.str_bool a t' b
  | int b=>obtain⟨t,rfl⟩:=rx; exact SeqAt.EqAt.str_int a t' b t
  | str b=>obtain⟨t,rfl⟩:=rx; exact SeqAt.EqAt.str_str a t' b t
  | _=>exact absurd (show false=true from fx) Bool.false_ne_true
 | _=>exact absurd (show false=true from fy) Bool.false_ne_true
noncomputable def eqU(x:V)(u:Value):Bool:=match u with
 | .none=>eqV .non x
 | .bool b=>eqV (.bl b) x
 | .int i _=>eqV (.int i) x
 | .str z _=>eqV (.str z) x
 | _=>false
theorem Pr{x y:V}{u:Value}(r:RelV y u)(f:FY y=true):eqU x u=eqV y x:=by
 cases y with
 | non=>cases r; rfl
 | bl b=>cases r; rfl
 | int i=>obtain⟨t,rfl⟩:=r; rfl
 | str z=>obtain⟨t,rfl⟩:=r; rfl
 | _=>exact absurd (show false=true from f) Bool.false_ne_true
theorem Nl{x:V}{xs:List V}{us:List Value}(h:Vals xs us):xs.all FY=true->us.any (eqU x)=xs.any fun y=>eqV y x:=by
 induction h with
 | nil=>exact fun _=>rfl
 | cons r t ih =>
  intro f;rw[List.all_cons,Bool.and_eq_true] at f;rw[List.any_cons,List.any_cons,Pr r f.1,ih f.2]
theorem Ih{A:Around}{s:Shared}{x:V}{v:Value}(rx:RelV x v)(fx:FY x=true):∀{xs:List V} {us:List Value},Vals xs us->xs.all FY=true->∀u∈us,SeqAt.EqAt A s u v (eqU x u)
 | _,_,.nil,_=>fun u hu=>by cases hu
 | y::xs,u::us,.cons r t,f=>fun u' hu=>by
  rw[List.all_cons,Bool.and_eq_true] at f;rcases List.mem_cons.mp hu with rfl|hu
  .rw[Pr r f.1]; exact T8 r rx f.1 fx
  .exact Ih rx fx t f.2 u' hu
noncomputable def inV(x:V)(xs:List V):Bool:=xs.any fun y=>eqV y x
noncomputable def rIn(K:Frag)(neg:Bool):R2:=fun x y H Q=>∃p xs,y=.ref p/\(SqL K H p xs\/SqT K H p xs)/\FY x=true/\xs.all FY=true/\Q (.bl (if neg then !inV x xs else inV x xs)) H
theorem OB:OpR X (compareOp .In) (rIn X.K false):=by
 intro pins s σ H x y v u Q I rx ry h;obtain⟨p,xs,rfl,hq,fx,fs,q⟩:=h;cases ry;rcases hq with hq|hq
 .obtain⟨its,r,pl,hz⟩:=I.list hq
  refine SeqAt.in_listAt (eqU x) pl.isList (fun w hw=>Ih rx fx r fs w (by simpa using hw)) ⟨.bl _,H,I,rfl,?_⟩;rw[show its.toArray.any (eqU x)=its.any (eqU x) by simp,Nl r fs];exact q
 .obtain⟨its,r,pl,hz⟩:=I.tuple hq
  refine SeqAt.in_tupleAt (eqU x) pl (fun w hw=>Ih rx fx r fs w (by simpa using hw)) ⟨.bl _,H,I,rfl,?_⟩;rw[show its.toArray.any (eqU x)=its.any (eqU x) by simp,Nl r fs];exact q
theorem JM:B1 X (.builtin "len") (fun xs H Q=>∃p ys,xs=[.ref p]/\(SqL X.K H p ys\/SqT X.K H p ys)/\Q (.int ys.length) H):=by
 intro pins s σ H xs us Q I r h;obtain⟨p,ys,rfl,hq,q⟩:=h;obtain⟨u,rfl,rx⟩:=vals1 r;cases rx;have hn:=G4;rcases hq with hq|hq
 .obtain⟨its,r',pl,hz⟩:=I.list hq
  have hlen:=r'.length;exact Calls.call_len_list pl.isList (by simp only[List.size_toArray]<;>lia) ⟨.int ys.length,H,I.tok _,⟨s.toks+1,by rw[List.size_toArray,hlen]⟩,q⟩
 .obtain⟨its,r',pl,hz⟩:=I.tuple hq
  have hlen:=r'.length;exact len_tuple pl (by simp only[List.size_toArray]<;>lia) ⟨.int ys.length,H,I.tok _,⟨s.toks+1,by rw[List.size_toArray,hlen]⟩,q⟩
theorem JN:B1 X (.builtin "len") (fun xs H Q=>∃z,xs=[.str z]/\z.length<=sizeLine/\Q (.int z.length) H):=by
 intro pins s σ H xs us Q I r h;obtain⟨z,rfl,hz,q⟩:=h;obtain⟨u,rfl,t,rfl⟩:=vals1 r;have hn:=G4;exact len_str (by lia) ⟨.int z.length,H,I.tok _,⟨_,rfl⟩,q⟩
theorem B1.or{f:Value}{r r':List V->Hp->VK->Prop}(h:B1 X f r)(h':B1 X f r'):B1 X f (fun xs H Q=>r xs H Q\/r' xs H Q):=by
 intro pins s σ H xs us Q I rs q;rcases q with q|q
 .exact h pins s σ H xs us Q I rs q
 .exact h' pins s σ H xs us Q I rs q
theorem JO:B1 X (.type "list") (fun xs H Q=>∃p ys,xs=[.ref p]/\(SqL X.K H p ys\/SqT X.K H p ys)/\∀l,H l=none->Q (.ref l) (upd H l (.lst ys))):=by
 intro pins s σ H xs us Q I r h;obtain⟨p,ys,rfl,hq,q⟩:=h;obtain⟨u,rfl,rx⟩:=vals1 r;cases rx;have fin:∀(its:List Value),Vals ys its->ys.length<=sizeLine->∀(h':Heap) (c':Nat),(∀b o',s.heap.get? b=some o'->h'.get? b=some o') ->
   h'.get? s.heap.objs.size=some { cls:=.type "list",dict:=none,data:=.seq its.toArray c',slots:=#[] }->EP X pins σ Q (.ref s.heap.objs.size) { s with heap:=h' }:=fun its r' hz h' c' kp e =>
  ⟨.ref s.heap.objs.size,_,I.laid (t':=s.toks) kp (Nat.le_refl _) (show Cg X.prog X.w _ h' _ (.lst ys) from⟨hz,its,c',r',e⟩),rfl,q _ (I.hok.fresh (Nat.le_refl _))⟩
 rcases hq with hq|hq
 .obtain⟨its,r',pl,hz⟩:=I.list hq
  have hlen:=r'.length;obtain⟨o,ho,hc,n,hd⟩:=pl.isList;exact call_list_seq p (.inl rfl) ho hc hd (fun h' c' kp e=>fin its r' hz h' c' kp e) (by simp only[List.size_toArray]<;>lia)
 .obtain⟨its,r',pl,hz⟩:=I.tuple hq
  have hlen:=r'.length;obtain⟨o,ho,hc,n,hd⟩:=pl;exact call_list_seq p (.inr rfl) ho hc hd (fun h' c' kp e=>fin its r' hz h' c' kp e) (by simp only[List.size_toArray]<;>lia)
noncomputable def tyV(K:Frag)(T:String)(x:V)(H:Hp):Prop:=match x with
 | .str _=>T = "str"
 | .int _=>T = "int"
 | .ref p=>(T = "list" /\ ∃xs,SqL K H p xs)\/(T = "tuple" /\ ∃o,K.lookup p=some o/\o.cls=.type "tuple" /\ o.dict=none) \/
   (T = "dict" /\ ((∃kvs,H p=some (.dK kvs))\/∃kvs,H p=some (.dT kvs)))\/(T = "set" /\ ∃S n,H p=some (.set S n))
 | _=>False
theorem V5{pins:List (Addr×Obj)}{σ:St}{H:Hp}{s:Shared}{T:String}{x:V}{v:Value}(I:Inv X pins σ H s)(r:RelV x v)(ty:tyV X.K T x H):
  s.TypeIs v T/\∀a,v=.ref a->∃ob,s.heap.get? a=some ob/\ob.dict=none:=by
 cases x with
 | str z =>
  obtain⟨t,rfl⟩:=r;cases (show T = "str" from ty);exact⟨typeIs_str s z t,fun _ e=>nomatch e⟩
 | int i =>
  obtain⟨t,rfl⟩:=r;cases (show T = "int" from ty);exact⟨typeIs_int s i t,fun _ e=>nomatch e⟩
 | ref p =>
  cases r;rcases ty with ⟨rfl,xs,hq⟩|⟨rfl,o,hk,hc,hd⟩|⟨rfl,hk⟩|⟨rfl,S,n,hk⟩
  .obtain⟨its,_,pl,_⟩:=I.list hq
   refine⟨pl.isList.typeIs,fun a e=>?_⟩;cases e;obtain⟨o,n,e,c,hd,_⟩:=pl;exact⟨o,e,hd⟩
  .refine⟨⟨o,I.kIn p o hk,hc⟩,fun a e=>?_⟩
   cases e;exact⟨o,I.kIn _ o hk,hd⟩
  .have z:∃o,s.heap.get? p=some o/\o.ExactDict:=by
    rcases hk with ⟨kvs,hk⟩|⟨kvs,hk⟩
    .obtain⟨_,_,_,_,o,_,_,e,ex,_⟩:=I.hok p _ hk
     exact⟨o,e,ex⟩
    .obtain⟨_,_,_,_,o,_,_,e,ex,_⟩:=I.hok p _ hk
     exact⟨o,e,ex⟩
   obtain⟨o,e,ex⟩:=z;refine⟨⟨o,e,ex.1⟩,fun a e2=>?_⟩;cases e2;exact⟨o,e,ex.2.1⟩
  .obtain⟨o,_,_,_,e,ex,_⟩:=I.hok p _ hk
   refine⟨⟨o,e,ex.1⟩,fun a e2=>?_⟩;cases e2;exact⟨o,e,ex.2.1⟩
 | _=>exact False.elim ty
noncomputable def tBM(K:Frag)(T:String)(r:V->List V->Hp->VK->Prop)(to:TE)(t:TA):TE:=fun σ H Q=>to σ H fun x H1=>tyV K T x H1/\t σ H1 fun xs H2=>r x xs H2 Q
variable{o e:Expr}{es:List Expr}{to:TE}{t:TA}{name:Str}{apos cpos:Pos}{T id:String}{r:V->List V->Hp->VK->Prop}
theorem LM(pa:PlainAttrs T)(slot:Slot T name id)(hty:typeOf (.builtin id)=pure (.type "method_descriptor"))(hm:MtR X id r)(ho:PE X o to)(ha:PA X (e::es) t)(hbase:attributeBase o name X.env (eval o X.env)=eval o X.env:=by rfl)(hfew:((backTo cpos (starEach (e::es) X.env)).all (fun x=>!x.1)&&(backToKw cpos (keywordEach [] X.env)).all (fun x=>x.1.isSome)
   && decide ((e::es).length+([]:List Keyword).length+(if ([]:List Keyword).isEmpty then 0 else 1)<30))=true:=by rfl)(hline:(apos.endLine==cpos.line)=true:=by rfl)(hs:starEach (e::es) X.env=(false,eval e X.env)::starEach es X.env:=by rfl)(hplain:(backTo cpos (starEach es X.env)).any (·.1)=false:=by rfl):
  PE X (.Call (.Attribute o name apos) (e::es) [] cpos) (tBM X.K T r to t):=by
 intro pins s σ H Q I h;refine wpAny_Call_method_late hbase hfew hline rfl (thn (ho pins s σ H _ I h) fun v s1 yy=>?_);obtain⟨x,H1,I1,r1,ty,q1⟩:=yy;obtain⟨h1,h2⟩:=V5 I1 r1 ty;refine⟨T,id,pa,slot,hty,h1,h2,?_⟩;have hA:=ha cpos pins s1 σ H1 _ I1 q1;rw[hs] at hA |-;refine Calls.callWith_builtin (by show(false || (backTo cpos (starEach es X.env)).any (·.1))=false; rw[hplain]<;>rfl) (Calls.evalArgs_plain ?_);exact thn hA fun us s2 ⟨vs,H2,I2,r2,q2⟩=>hm pins s2 σ H2 x vs v us Q I2 r1 r2 q2
/- xs.append(e),list.index on a module's tuple .. are MtR facts of 06m -/
end
end L2
namespace L2
open PySem PySem.Spec PyProof.Rows
noncomputable def MtM(X:Cx)(id:String)(r:V->List V->Hp->VK->Prop):Prop:=
 ∀(pins:List (Addr×Obj)) (s:Shared) (σ:St) (H:Hp) (x:V) (xs:List V) (v:Value) (us:List Value) (Q:VK),Inv X pins σ H s->RelV x v->Vals xs us->r x xs H Q ->
  wpAny (model X.prog X.w) X.A (call (.builtin id) (v::us)) (EP X pins σ Q) X.xe s
theorem Vals.one{x:V}{us:List Value}(h:Vals [x] us):∃u,us=[u]/\RelV x u:=by
 cases h with
 | cons r t=>cases t; exact⟨_,rfl,r⟩
theorem Vals.two{x y:V}{us:List Value}(h:Vals [x,y] us):∃u v,us=[u,v]/\RelV x u/\RelV y v:=by
 cases h with
 | cons r t =>
  obtain⟨v,rfl,q⟩:=Vals.one t;exact⟨_,_,rfl,r,q⟩
theorem Vals.reverse{xs:List V}{us:List Value}(h:Vals xs us):Vals xs.reverse us.reverse:=by
 induction h with
 | nil=>exact .nil
 | cons r t ih=>rw[List.reverse_cons,List.reverse_cons]; exact Vals.append ih (.cons r .nil)
theorem Vals.rep{xs:List V}{us:List Value}(h:Vals xs us):∀k:Nat,Vals (List.replicate k xs).flatten (List.replicate k us).flatten
 | 0=>.nil
 | k+1=>by
  rw[List.replicate_succ,List.replicate_succ,List.flatten_cons,List.flatten_cons];exact Vals.append h (Vals.rep h k)
theorem foldl_rep(its:List Value):∀(k:Nat) (acc:List Value),
  List.foldl (fun x1 x2=>x1++x2) acc.toArray (List.replicate k its.toArray)=(acc++(List.replicate k its).flatten).toArray
 | 0,acc=>by simp
 | k+1,acc=>by
  have e:acc.toArray++its.toArray=(acc++its).toArray:=by simp
  have e2:(acc++its)++(List.replicate k its).flatten=acc++(List.replicate (k+1) its).flatten:=by
   rw[List.replicate_succ,List.flatten_cons,List.append_assoc]
  rw[<- e2,<- foldl_rep its k (acc++its),<- e,List.replicate_succ,List.foldl_cons]
section
variable{X:Cx}{pins:List (Addr×Obj)}{σ:St}{H:Hp}{s:Shared}{l b:Addr}{xs ys zs:List V}
theorem Inv.lset{its its':List Value}{n:Nat}{f:Array Value->Array Value}{t':Nat}(I:Inv X pins σ H s)(hH:H l=some (.lst xs))(e:s.heap.get? l=some { cls:=.type "list",data:=.seq its.toArray n })(hf:f its.toArray=its'.toArray)(hv:Vals ys its')(hz:ys.length<=sizeLine):
  Inv X pins σ (upd H l (.lst ys)) { s with heap:=s.heap.update l (Obj.mapSeq f),toks:=t' }:=by
 have q:=PySem.IsL.update e f;rw[hf] at q;refine I.write (x:=l) (e:=l) (by rw[hH]; exact trivial) (.inl rfl) (fun b' u hb hu=>(Heap.get?_update_other s.heap (Obj.mapSeq f) (Ne.symm hb)).trans hu) ⟨_,q⟩ ?_;exact⟨hz,its',_,hv,q⟩
theorem Inv.lnew{its:List Value}{t':Nat}(I:Inv X pins σ H s)(hv:Vals ys its)(hz:ys.length<=sizeLine):
  Inv X pins σ (upd H s.heap.objs.size (.lst ys)) { s with heap:=s.heap.push { cls:=.type "list",data:=.seq its.toArray },toks:=t' }:=
 I.laid (fun _ _ q=>Heap.get?_push_of_some _ q) (Nat.le_refl _) ⟨hz,its,0,hv,Heap.get?_push_size _ rfl⟩
theorem Inv.fresh(I:Inv X pins σ H s):H s.heap.objs.size=none:=I.hok.fresh (Nat.le_refl _)
theorem Inv.lstM(I:Inv X pins σ H s)(hH:H l=some (.lst xs)):xs.length<=sizeLine/\∃(its:List Value) (n:Nat),Vals xs its/\xs.length=its.length/\s.heap.get? l=some { cls:=.type "list",data:=.seq its.toArray n }:=by
 obtain⟨z,its,n,r,e⟩:=I.hok l _ hH;exact⟨z,its,n,r,r.length,e⟩
theorem LG{n:Nat}(h:n<=sizeLine):Builtin.List.listTooLong n=false:=by
 unfold Builtin.List.listTooLong;exact decide_eq_false (by lia)
end
section
variable{X:Cx}
noncomputable def Ky:V->List V->Hp->VK->Prop:=fun x vs H Q=>∃l xs y,x=.ref l/\vs=[y]/\H l=some (.lst xs)/\xs.length<sizeLine/\Q .non (upd H l (.lst (xs++[y])))
theorem FK:MtM X "list.append" Ky:=by
 intro pins s σ H x vs v us Q I rx rv h;obtain⟨l,xs,y,rfl,rfl,hH,hz,q⟩:=h;cases rx;obtain⟨u,rfl,ru⟩:=rv.one;obtain⟨z,its,n,r,hl,e⟩:=I.lstM hH;refine call_meets F.slot_list_append ⟨_,e,rfl⟩ F.entry_list_append (F.args_list_append_2 _ _) (PySem.list_append l its.toArray n u (by rw[List.size_toArray]; lia)) ⟨e,?_⟩;refine⟨.non,_,I.lset (its':=its++[u]) hH e (by simp) (r.append (.cons ru .nil)) ?_,rfl,q⟩;rw[List.length_append,List.length_singleton];lia
noncomputable def NR:V->List V->Hp->VK->Prop:=fun x vs H Q=>∃l b xs zs,x=.ref l/\vs=[.ref b]/\H l=some (.lst xs)/\H b=some (.lst zs)/\xs.length+zs.length<=sizeLine/\Q .non (upd H l (.lst (xs++zs)))
theorem Oz:MtM X "list.extend" NR:=by
 intro pins s σ H x vs v us Q I rx rv h;obtain⟨l,b,xs,zs,rfl,rfl,hH,hB,hz,q⟩:=h;cases rx;obtain⟨u,rfl,ru⟩:=rv.one;cases ru;obtain⟨z,its,n,r,hl,e⟩:=I.lstM hH;obtain⟨z2,its2,n2,r2,hl2,e2⟩:=I.lstM hB;have hsz:its.toArray.size+its2.toArray.size<=sizeLine:=by rw[List.size_toArray,List.size_toArray]; lia
 have hlong:¬(!its.toArray.isEmpty&&Builtin.List.listTooLong (its.toArray.size+its2.toArray.size))=true:=by
  rw[LG hsz,Bool.and_false];exact Bool.false_ne_true
 refine call_meets F.slot_list_extend ⟨_,e,rfl⟩ F.entry_list_extend (F.args_list_extend_2 _ _)
  (AutoSeq1.list_extend_list_list_0 l its.toArray n b its2.toArray n2 hlong (by rw[List.size_toArray]; lia) (by lia)) ⟨e,e2,?_⟩
 refine⟨.non,_,I.lset (its':=its++its2) hH e (by simp) (r.append r2) ?_,rfl,q⟩;rw[List.length_append];lia
noncomputable def Vt:R2:=fun x y H Q=>∃l b xs zs,x=.ref l/\y=.ref b/\H l=some (.lst xs)/\H b=some (.lst zs)/\xs.length+zs.length<=sizeLine/\∀p,H p=none->Q (.ref p) (upd H p (.lst (xs++zs)))
theorem U3:OpR X (binaryOp .Add) Vt:=by
 intro pins s σ H x y v u Q I rx ry h;obtain⟨l,b,xs,zs,rfl,rfl,hH,hB,hz,q⟩:=h;cases rx;cases ry;obtain⟨z,its,n,r,hl,e⟩:=I.lstM hH;obtain⟨z2,its2,n2,r2,hl2,e2⟩:=I.lstM hB;refine PySem.P.add_list e e2 ?_ (by rw[List.size_toArray,List.size_toArray]; lia);have ea:its.toArray++its2.toArray=(its++its2).toArray:=by simp
 rw[ea];exact⟨.ref _,_,I.lnew (t':=s.toks) (r.append r2) (by rw[List.length_append]; lia),rfl,q _ I.fresh⟩
noncomputable def WU:R2:=fun x y H Q=>∃l k xs,x=.ref l/\y=.int k/\H l=some (.lst xs)/\-(2 ^ 63)<=k/\k<2 ^ 63/\xs.length*k.toNat<=sizeLine /\
 ∀p,H p=none->Q (.ref p) (upd H p (.lst (List.replicate k.toNat xs).flatten))
theorem len_rep{α:Type}(xs:List α)(k:Nat):(List.replicate k xs).flatten.length=k*xs.length:=by
 induction k with
 | zero=>simp
 | succ k ih=>rw[List.replicate_succ,List.flatten_cons,List.length_append,ih,Nat.succ_mul,Nat.add_comm]
theorem Qx:OpR X (binaryOp .Mult) WU:=by
 intro pins s σ H x y v u Q I rx ry h;obtain⟨l,k,xs,rfl,rfl,hH,h1,h2,hz,q⟩:=h;cases rx;obtain⟨t,rfl⟩:=ry;obtain⟨z,its,n,r,hl,e⟩:=I.lstM hH;have hlen:its.toArray.size*k.toNat<=sizeLine:=by rw[List.size_toArray,<- hl]; exact hz
 have hcap:¬its.toArray.size*k.toNat > (2 ^ 63-1) / 8:=by
  have:(sizeLine:Nat)<=(2 ^ 63-1) / 8:=by decide
  lia
 have hfit:¬(!Builtin.List.listFitsIndex k)=true:=by
  rw[fitsIndex_both h1 h2];exact Bool.false_ne_true
 have hlong:¬Builtin.List.listTooLong (its.toArray.size*k.toNat)=true:=by
  rw[LG hlen];exact Bool.false_ne_true
 have hnew:List.foldl (fun x1 x2=>x1++x2) #[] (List.replicate (if its.toArray.isEmpty=true then 0 else k.toNat) its.toArray)=(List.replicate k.toNat its).flatten.toArray:=by
  have f0:∀m:Nat,List.foldl (fun x1 x2=>x1++x2) #[] (List.replicate m its.toArray)=(List.replicate m its).flatten.toArray:=fun m=>by
   have:=foldl_rep its m [];rw[List.nil_append] at this;exact this
  rw[f0];cases its with
  | nil=>simp
  | cons a r'=>rw[if_neg (by simp)]
 refine wpAny_binaryOp_repeat_ref (T := "list") (U := "int") (by decide) ⟨_,e,rfl⟩ (fun s'=>typeIs_int s' k t) noFill_list_mul F.fills_int_mul F.slot_int_rmul repeat_list F.slot_int_index.lookup
  (call_meets F.slot_int_rmul (typeIs_int s k t) F.entry_int_rmul (F.args_int_rmul_2 _ _) (int___rmul___int_list k t l its.toArray n)
   ⟨e,rfl,⟨_,e,rfl⟩,call_meets F.slot_list_mul ⟨_,e,rfl⟩ F.entry_list_mul (F.args_list_mul_2 _ _) (AutoListH.list___mul___list_int_3 l its.toArray n k t hfit hcap hlong) ⟨e,?_⟩⟩)
 rw[hnew];exact⟨.ref _,_,I.lnew (t':=s.toks) (r.rep k.toNat) (by rw[len_rep,Nat.mul_comm]; exact hz),rfl,q _ I.fresh⟩
end
end L2
namespace Att
open PySem PySem.W PySem.Calls PyProof.Rows
theorem Hx{P:Params}{h:Heap}:∀(ns:List Int) (vs:List Value),WellAll P h vs (ns.map WData.int)->IntsAre vs ns:=by
 intro ns;induction ns with
 | nil =>
  intro vs w;rw[List.map_nil] at w;cases w;exact .nil
 | cons n ns ih =>
  intro vs w;rw[List.map_cons] at w;cases w with
  | cons a b =>
   cases a;exact .cons _ _ (ih _ b)
theorem OU{l:OpenLaw}{n:Nat}(hn:l.most=some n){P:Params}{h:Heap}{args:List WData}{vals:List Value}(hpre:l.row.toRowW.claim.pre args=true)(hwl:WellAll P h vals args):
  ∃a vs ns,vals=[Value.ref a]/\args=[WData.list (ns.map WData.int)]/\h.get? a=some { cls:=.type "list",data:=.seq vs.toArray }/\IntsAre vs ns/\ns.length<=n:=by
 have hsh:WShape.hasAll [] args [.list .int]=true:=(pre_splitW hpre).1;have hc:l.pre.holds [] { args:=args }=true:=(pre_splitW hpre).2;obtain⟨d,r,rfl,h1,h2⟩:=hasAllW_cons hsh;obtain rfl:=hasAllW_nil h2;obtain⟨xs,rfl,h3⟩:=hasW_list h1;obtain⟨ns,rfl⟩:=items_int h3;have hlen:ns.length<=n:=by
  unfold OpenLaw.pre at hc;have h4:(WTm.not (.lt (.lit (.int (n:Int))) (.len (.arg 0)))).holds [] { args:=[.list (ns.map .int)] }=true:=by
   have h4:=(holds_andW hc).1;rw[hn] at h4;exact h4
  have h5:=condW_of h4 (w_not (w_lt w_lit (w_len_list (w_arg rfl))));rw[List.length_map] at h5;refine Nat.le_of_not_lt fun q=>?_;have q':(n:Int)<((ns.length:Nat):Int):=by lia
  first
   | (rw[decide_eq_true q'] at h5; exact absurd h5 (by decide))
   | (simp at h5; lia)
 cases hwl with
 | cons w1 w2 =>
  cases w2;cases w1 with
  | list ho hall=>exact⟨_,_,ns,rfl,rfl,ho,Hx ns _ hall,hlen⟩
theorem OK(l:OpenLaw)(args:List WData):l.row.toRowW.claim.post args (.bool true) args=true:=
 postW_of (r:=l.row.toRowW) (X:=(true==true))
  (show WShape.has [] (.bool true) .bool=true by first|rfl|decide|simp[WShape.has,WShape.arms,WShape.armsAll])
  (show(WTm.eq .res (.lit (.bool true))).value [] { args:=args,res:=some (.bool true),after:=args }=some (.bool (true==true)) from w_eq_bool (w_res rfl) w_lit) rfl
theorem K4{l:OpenLaw}{n:Nat}{q:Program}{loose:List Str}{XP:(Str->Option Value)->Heap->Prop}{YP:World->Heap->Prop}{d:DefRec}(hn:l.most=some n)(hdf:d.params.defaults=[])(call:∀(w:World) (s₀ s₁:Shared) (mg mb:Str->Option Value) (fa:Addr) (o:Obj) (pm cd doc:Value) (a:Addr) (vs:List Value) (ns:List Int),
   Ground q loose [] XP w s₀ mg mb s₁.heap->YP w s₁.heap ->
   s₁.heap.get? fa=some o->o.data=.func (docDef d.name d.params d.body d.scope pm cd doc)->s₁.heap.CodeRec cd d.name->mg d.name=some (.ref fa) ->
   s₁.heap.get? a=some { cls:=.type "list",data:=.seq vs.toArray }->IntsAre vs ns->ns.length<=n->s₁.gens = #[] ->
   codeAny (model l.prog w) callerA (.call (.ref fa) ⟨[.ref a],[]⟩) (fun r s'=>r=.ok (.ret (.bool true))/\OldK s₁.heap s'.heap/\s'.os=s₁.os/\AllBare s'.gens) s₁):
  WalkO q loose XP YP l.row.toRowW d [] (fun f vs=>PySem.call f vs):=by
 intro w s₀ s₁ mg mb G Y fa o pm cd doc dV kV ho hd hcd hD hmg hg args vals as hpre hlay hrd hwl hlo;obtain rfl:dV=.none:=Dflts.none hD hdf;obtain rfl:kV=.none:=Dflts.noKw hD;obtain⟨a,vs,ns,rfl,rfl,hobj,hints,hlen⟩:=OU hn hpre hwl;refine enter_call (codeAny_mono (call w s₀ s₁ mg mb fa o pm cd doc a vs ns G Y ho (fd_plain hd) hcd hmg hobj hints hlen hg) fun r s' hq=>?_);obtain⟨rfl,h2,h3,h4⟩:=hq;exact⟨.inl ⟨.bool true,.bool true,[],rfl,fun _=>rfl,.bool true,OK l _,fun _=>⟨List.Pairwise.nil,fun _ hm=>(nomatch hm)⟩⟩,h2,h3,h4⟩
end Att
namespace L2
open PySem PySem.Spec PyProof.Rows
theorem O1{vs:List Value}{ns:List Int}(h:IntsAre vs ns):Vals (ns.map V.int) vs:=by
 induction h with
 | nil=>exact .nil
 | cons n t h ih=>exact .cons ⟨t,rfl⟩ ih
noncomputable def Rt(H:Hp):Prop:=∀b,H b=none\/(∃o xs,H b=some (.frz o (.lst xs)))\/∃ps,H b=some (.tbl ps)
noncomputable def GN(K:Frag)(b:Addr):Prop:=∃q:Str,∃n:Str,(n,q)∈Ie/\∃c,PySem.W.tabIn K n=some (c,b)
noncomputable def QP(K:Frag)(b:Addr):Str:=by classical exact if h:GN K b then Classical.choose h else Bt
noncomputable def O3(K:Frag):Prop:=∀(n q n' q':Str) (c c' b:Addr),(n,q)∈Ie->(n',q')∈Ie->PySem.W.tabIn K n=some (c,b)->PySem.W.tabIn K n'=some (c',b)->q=q'
theorem WN{K:Frag}(U:O3 K){n q:Str}{c b:Addr}(hm:(n,q)∈Ie)(e:PySem.W.tabIn K n=some (c,b)):QP K b=q:=by
 have h:GN K b:=⟨q,n,hm,c,e⟩;unfold QP;rw[dif_pos h];obtain⟨n',hm',c',e'⟩:=Classical.choose_spec h;exact U _ _ _ _ _ _ _ hm' hm e' e
noncomputable def S0(K:Frag)(H:Hp):Hp:=fun b=>by classical exact if GN K b then some (.tbl #[.str (QP K b) 0]) else H b
theorem S1{K:Frag}{H:Hp}{b:Addr}(h:GN K b):S0 K H b=some (.tbl #[.str (QP K b) 0]):=if_pos h
theorem Ma{K:Frag}{H:Hp}{b:Addr}(h:¬GN K b):S0 K H b=H b:=if_neg h
theorem Qk{P:Program}{w:World}{K:Frag}{mg mb:Str->Option Value}{CX:CXT}{k:Nat}{fa a:Addr}{fd:FuncData}{x:Str}{sp:Sp}{s₁:Shared}{vs:List Value}{ns:List Int}(KX:K.In s₁.heap)(hns:s₁.heap.Ns mainGlobals mg)(hb:s₁.heap.Ns builtinsNs mb)(hbb:∀x:Str,x ≠ "__name__" -> mb x=bootBuiltins x)(hlim:s₁.heap.NoLimit)(hg:s₁.gens = #[])(ha:s₁.heap.get? a=some { cls:=.type "list",data:=.seq vs.toArray })(hi:IntsAre vs ns)(hl:ns.length<=sizeLine)(hr:Room k callerA)(F:∀base:Heap,K.In base->base.Ns mainGlobals mg->FnOk P w K mg base CX k fa fd [x] sp)(hbind:∀(s:Shared) (u:Value),BindsTo s fd ⟨[u],[]⟩ [(x,u)])(hsp:∀H:Hp,Rt H->SqL K H a (ns.map V.int)->sp [.ref a] H (fun v _=>v=.bl true) fun _ _ _=>False)(hCX:∀H e s',CX [] H s₁ (fun _ _ _=>False) e s'->False)(hT:∀(n q:Str),(n,q)∈Ie->∀c b,PySem.W.tabIn K n=some (c,b)->PySem.W.CodeHd s₁.heap c b/\s₁.heap.get? b=some { cls:=.none,data:=.fields #[] }/\K.lookup b=none)(hU:O3 K)(hbm:∃bm ob,mg "__builtins__" = some (.ref bm)/\bm≠builtinsNs/\s₁.heap.get? bm=some ob/\ob.cls=.type "module" /\ ob.dict=some builtinsNs/\ob.data=.plain):
  codeAny (model P w) callerA (.call (.ref fa) ⟨[.ref a],[]⟩) (fun r s'=>r=.ok (.ret (.bool true))/\OldK s₁.heap s'.heap/\s'.os=s₁.os/\AllBare s'.gens) s₁:=by
 have rv:=O1 hi;have lenV:=hi.length;have naT:¬GN K a:=fun⟨q,n,hm,c,e⟩=>by
  obtain⟨_,e2,_⟩:=hT n q hm c a e;rw[ha] at e2; cases e2
 have core:∀H₁:Hp,(∀b,H₁ b=none\/∃o xs,H₁ b=some (.frz o (.lst xs)))->SqL K (S0 K H₁) a (ns.map V.int)->HOk P w H₁ s₁.heap->(∀b,H₁ b≠none->b=a)->(H₁ a≠none->K.lookup a=none) ->
   codeAny (model P w) callerA (.call (.ref fa) ⟨[.ref a],[]⟩) (fun r s'=>r=.ok (.ret (.bool true))/\OldK s₁.heap s'.heap/\s'.os=s₁.os/\AllBare s'.gens) s₁:=by
  intro H₁ hO₁ hS hok₁ hA₁ hK₁;generalize hH:S0 K H₁=H at hS;have hin:∀{b},GN K b->H b=some (.tbl #[.str (QP K b) 0]):=fun h=>by rw[<- hH]; exact S1 h
  have hout:∀{b},¬GN K b->H b=H₁ b:=fun h=>by rw[<- hH]; exact Ma h
  have hO:Rt H:=fun b=>by
   by_cases q:GN K b
   .exact .inr (.inr ⟨_,hin q⟩)
   .rw[hout q]
    exact(hO₁ b).imp id .inl
  have hok:HOk P w H s₁.heap:=fun b u e=>by
   by_cases q:GN K b
   .rw[hin q] at e; cases e
    obtain⟨q1,n,hm,c,ec⟩:=q;exact⟨#[],(hT n q1 hm c b ec).2.1,trivial,fun pos c h=>by cases h⟩
   .rw[hout q] at e
    rcases hO₁ b with z|⟨o,xs,z⟩
    .rw[z] at e; cases e
    .rw[z] at e; cases e
     obtain⟨e1,e2⟩:=hok₁ b _ z;exact⟨e1,e2⟩
  have hA:∀b,H b≠none->b=a\/GN K b:=fun b z=>by
   by_cases q:GN K b
   .exact .inr q
   .rw[hout q] at z; exact .inl (hA₁ b z)
  have base_of:∀{b:Addr} {o:Obj},s₁.heap.get? b=some o->H b=none->(IX s₁.heap H).get? b=some o:=fun e n=>PJ e n;have noA:∀{b:Addr} {o:Obj} {es:Array DictEntry} {ep:Nat},s₁.heap.get? b=some o->o.data=.dict es ep->H b=none:=fun {b o es ep} e d=>by
   cases q:H b with
   | none=>rfl
   | some u =>
    rcases hA b (by rw[q]; simp) with e'|⟨q1,n,hm,c,ec⟩
    .subst e'
     rw[ha] at e; cases e;have d':Data.seq vs.toArray _=Data.dict es ep:=d;cases d'
    .rw[(hT n q1 hm c b ec).2.1] at e; cases e
     have d':Data.fields _=Data.dict es ep:=d;cases d'
  have nsK:∀{b:Addr} {m:Str->Option Value},s₁.heap.Ns b m->(IX s₁.heap H).Ns b m:=fun {b m} ⟨o,es,ep,e,d,r⟩=>⟨o,es,ep,base_of e (noA e d),d,r⟩;have hKb:K.In (IX s₁.heap H):=fun b o e=>base_of (KX b o e) (by
   cases q:H b with
   | none=>rfl
   | some u =>
    rcases hA b (by rw[q]; simp) with e'|⟨q1,n,hm,c,ec⟩
    .subst e'
     rw[hout naT] at q;rw[hK₁ (by rw[q]; simp)] at e; cases e
    .rw[(hT n q1 hm c b ec).2.2] at e; cases e)
  have bmK:∃bm ob,mg "__builtins__" = some (.ref bm)/\bm≠builtinsNs/\(IX s₁.heap H).get? bm=some ob/\ob.cls=.type "module" /\ ob.dict=some builtinsNs/\ob.data=.plain:=by
   obtain⟨bm,ob,m1,m2,m3,m4,m5,m6⟩:=hbm;refine⟨bm,ob,m1,m2,base_of m3 ?_,m4,m5,m6⟩;cases q:H bm with
   | none=>rfl
   | some u =>
    rcases hA bm (by rw[q]; simp) with e'|⟨q1,n,hm,c,ec⟩
    .subst e'
     rw[ha] at m3; cases m3;cases m6
    .rw[(hT n q1 hm c bm ec).2.1] at m3; cases m3
     cases m6
  have hM:Mod K mg (IX s₁.heap H):=⟨hKb,nsK hns,⟨mb,nsK hb,hbb⟩,let⟨mc,h1,h2⟩:=hlim; ⟨mc,nsK h1,h2⟩,bmK⟩;have e0:Env0 P w K mg (IX s₁.heap H) callerA [] s₁ H:=⟨rfl,hM,fun b o e=>R8 e,Nat.le_of_eq (Oj _ _),trivial,fun b hb=>absurd (show b∈([]:List Addr) from hb) (by simp),hok,.of_eq hg,fun n q hm c b e=>⟨_,hin ⟨q,n,hm,c,e⟩,by rw[WN hU hm e]; rfl⟩⟩;refine codeAny_mono ((F _ hKb (nsK hns)).run callerA [] s₁ H ⟨[.ref a],[]⟩ [.ref a] [.ref a] _ _ hr e0 (hbind s₁ (.ref a)) (.cons rfl .nil) (hsp H hO hS)) fun r s' h=>?_;cases r with
  | error e=>exact(hCX H e s' h).elim
  | ok fl =>
   cases fl with
   | next=>exact False.elim h
   | brk=>exact False.elim h
   | cont=>exact False.elim h
   | ret u =>
    obtain⟨v,H',os,bare,un,hok',r',q⟩:=h;have q':v=.bl true:=q;subst q';obtain rfl:u=Value.bool true:=r';have fin:∀b o,s₁.heap.get? b=some o->s'.heap.get? b=some o\/∃qs,GN K b/\s'.heap.get? b=some { cls:=.none,data:=.fields qs }:=fun b o e=>by
     cases q:H b with
     | none=>exact .inl (un.keep b o e q (by intro z; exact absurd (show b∈([]:List Addr) from z) (by simp)) (by simp))
     | some u =>
      by_cases tq:GN K b
      .rw[hin tq] at q; cases q
       obtain⟨more,z2⟩:=un.tbls b _ (hin tq);obtain⟨qs,e2,_⟩:=hok' b _ z2;exact .inr ⟨qs,tq,e2⟩
      .rcases hO₁ b with z|⟨ob,xs,z⟩
       .rw[hout tq,z] at q; cases q
       .have z2:=un.frzs b ob _ (by rw[hout tq]; exact z)
        obtain⟨e1,_⟩:=hok₁ b _ z;obtain⟨e2,_⟩:=hok' b _ z2;rw[e] at e1; cases e1;exact .inl e2
    refine⟨rfl,⟨fun b o e=>?_,fun b o e=>?_⟩,os,bare⟩
    .rcases fin b o e with z|⟨qs,⟨q1,n,hm,c,ec⟩,z⟩
     .exact .inl z
     .obtain⟨h1,h2,_⟩:=hT n q1 hm c b ec
      rw[e] at h2; cases h2;refine .inr (.inl ⟨(h1.tab e).isCodeTable,rfl,#[],qs,rfl,?_⟩);rw[z]; simp
    .rcases fin b o e with z|⟨qs,_,z⟩
     .exact⟨_,z⟩
     .exact⟨_,z⟩
 cases hk:K.lookup a with
 | some o =>
  -- the script is one of the module's own objects
  have e:=KX a o hk;rw[ha] at e;cases e;refine core (fun _=>none) (fun _=>.inl rfl) (.inr ⟨_,vs.toArray,_,hk,rfl,rfl,rfl,by rw[List.size_toArray,lenV]; exact hl,by simpa using rv⟩) (fun b u z=>by have z':(none:Option HO)=some u:=z; cases z') (fun b z=>absurd rfl z) fun z=>absurd rfl z
 | none =>
  refine core (fun b=>if b=a then some (.frz { cls:=.type "list",data:=.seq vs.toArray } (.lst (ns.map V.int))) else none) (fun b=>?_) (.inl (.inr ⟨{ cls:=.type "list",data:=.seq vs.toArray },by rw[Ma naT]; exact if_pos rfl⟩)) (fun b u z=>?_) (fun b z=>?_) fun _=>hk
  .by_cases hb:b=a
   .exact .inr ⟨_,_,if_pos hb⟩
   .exact .inl (if_neg hb)
  .by_cases hb:b=a
   .have z':=(if_pos hb).symm.trans z
    cases z';subst hb;exact⟨ha,by rw[List.length_map]; exact hl,vs,_,rv,ha⟩
   .have z':=(if_neg hb).symm.trans z
    cases z'
  .by_cases hb:b=a
   .exact hb
   .exact absurd (if_neg hb) z
end L2
namespace L2
open PySem PySem.Spec PyProof.Rows
theorem S7{l:PySem.W.OpenLaw}{n k:Nat}{q:Program}{loose:List Str}{XP:(Str->Option Value)->Heap->Prop}{YP:World->Heap->Prop}{d:DefRec}{K:Params->Frag}{CX:World->CXT}{sp:World->Sp}{x:Str}(hn:l.most=some n)(hn2:n<=sizeLine)(hdf:d.params.defaults=[])(hr:Room k callerA)(hY:∀(w:World) (h:Heap),YP w h->(K w.params).In h)(F:∀(w:World) (mg:Str->Option Value) (fa:Addr) (h:Heap),(K w.params).In h->h.Ns mainGlobals mg->mg d.name=some (.ref fa) ->
   ∃fd:FuncData,(∀(s:Shared) (u:Value),BindsTo s fd ⟨[u],[]⟩ [(x,u)]) /\
    ∀base:Heap,(K w.params).In base->base.Ns mainGlobals mg->FnOk l.prog w (K w.params) mg base (CX w) k fa fd [x] (sp w))(hsp:∀(w:World) (H:Hp) (a:Addr) (ns:List Int),ns.length<=n->Rt H->SqL (K w.params) H a (ns.map V.int)->sp w [.ref a] H (fun v _=>v=.bl true) fun _ _ _=>False)(hCX:∀(w:World) (H:Hp) (s:Shared) (e:Value) (s':Shared),CX w [] H s (fun _ _ _=>False) e s'->False)(hT:∀(w:World) (n qn:Str),(n,qn)∈Ie->∀(c b:Addr),PySem.W.tabIn (K w.params) n=some (c,b)->(∃d',(recsOf q).find? (fun e=>e.name==n)=some d')/\(K w.params).lookup b=none)(hU:∀w:World,O3 (K w.params)):
  PySem.W.WalkO q loose XP YP l.row.toRowW d [] (fun f vs=>PySem.call f vs):=by
 refine Att.K4 hn hdf fun w s₀ s₁ mg mb fa o pm cd doc a vs ns G Y ho hd hcd hmg hobj hints hlen hg=>?_;have KX:=hY w _ Y;obtain⟨fd,hb,hF⟩:=F w mg fa _ KX G.T.g hmg;exact Qk KX G.T.g G.T.b G.T.builtins G.T.nolimit hg hobj hints (Nat.le_trans hlen hn2) hr hF hb (fun H hO hS=>hsp w H a ns hlen hO hS) (fun H e s'=>hCX w H s₁ e s') (fun n qn hm c b e=>by
  obtain⟨⟨d',hd'⟩,hk⟩:=hT w n qn hm c b e;obtain⟨z1,z2⟩:=PySem.W.tab_of G.T KX hd' e;exact⟨z1,z2,hk⟩) (hU w) G.T.bmain
end L2

namespace L2
open PySem PySem.Spec PyProof.Rows
noncomputable def Ea(s:Stmt):Arguments:=match s with
 | .FunctionDef _ a _ _ _ _ _ _ _ _=>a
 | _=>{ posonlyargs:=[],args:=[],vararg:=none,kwonlyargs:=[],kw_defaults:=[],kwarg:=none,defaults:=[] }
noncomputable def BO(s:Stmt):List Stmt:=match s with
 | .FunctionDef _ _ b _ _ _ _ _ _ _=>b
 | _=>[]
noncomputable def Ao(s:Stmt):Scope:=match s with
 | .FunctionDef _ _ _ _ _ _ sc _ _ _=>sc
 | _=>{ kind:=.function,names:=[],isGenerator:=false,isCoroutine:=false }
noncomputable abbrev CX0:CXT:=fun _ _ _ _ _ _=>False
noncomputable abbrev E0:XK:=fun _ _ _=>False
theorem AN{X:Cx}:Passes CX0 X E0:=fun _ _ _ _ _ _ _ h=>h.elim
structure Fun (K:Frag) (x qual:Str) (st:Stmt) (f:Addr) (fd:FuncData):Prop where
 ex:∃(oc:Value) (od:Option Addr) (kV doc pm:Value) (an:Option Addr) (cdv ct:Value) (osl:Array (Option Value)),
  fd=PySem.W.fnOf x qual (Ea st) (BO st) (Ao st) .none kV doc pm an cdv ct/\K.lookup f=some ⟨oc,od,.func fd,osl⟩/\PySem.W.codeIn K cdv qual=true
 kp:PySem.W.keepIn K (.ref f)=true
section
variable{P:Program}{w:World}{K:Frag}{mg:Str->Option Value}{base:Heap}
theorem Fun.ok{x qual:Str}{st:Stmt}{f:Addr}{fd:FuncData}{N ps:List Str}{k:Nat}{sp:Sp}(F:Fun K x qual st f fd)(S:FnScope N ps (Ao st))(len:∀vs H Q E,sp vs H Q E->vs.length=ps.length)(hbody:∀(cdv:Value) (A:Around) (outer:List Env) (s:Shared) (H:Hp) (vs:List V) (Q:VK) (E:XK),Room k (A.deeper (envOfC qual (Ao st) s.heap.objs.size f cdv))->sp vs H Q E ->
   ∃t,PSs (A7 CX0 P w K mg base N qual (Ao st) f cdv A outer s H E).nox (BO st) t/\t { nx:=fun _ H'=>Q .non H',rt:=Q } (start N vs) H):FnOk P w K mg base CX0 (k+1) f fd ps sp:=by
 obtain⟨oc,od,kV,doc,pm,an,cdv,ct,osl,rfl,lk,hcd⟩:=F.ex;refine Py lk hcd S len fun A outer s H vs Q E hr hsp=>?_;obtain⟨t,h,q⟩:=hbody cdv A outer s H vs Q E hr hsp;exact⟨t,h.nox,q⟩
theorem Fun.binds{x qual:Str}{st:Stmt}{f:Addr}{fd:FuncData}{ps:List Str}(F:Fun K x qual st f fd)(h:∀(kV doc pm:Value) (an:Option Addr) (cdv ct:Value) (us:List Value),us.length=ps.length->bindArgs (PySem.W.fnOf x qual (Ea st) (BO st) (Ao st) .none kV doc pm an cdv ct) ⟨us,[]⟩=pure (ps.zip us)):Binds K fd ps []:=by
 obtain⟨oc,od,kV,doc,pm,an,cdv,ct,osl,rfl,lk,hcd⟩:=F.ex;exact .all (h kV doc pm an cdv ct)
theorem Uh{x qual:Str}{st:Stmt}{f:Addr}{oc:Value}{od an:Option Addr}{osl:Array (Option Value)}{kV doc pm cdv ct:Value}(l:K.lookup f=some ⟨oc,od,.func (PySem.W.fnOf x qual (Ea st) (BO st) (Ao st) .none kV doc pm an cdv ct),osl⟩)(c:PySem.W.codeIn K cdv qual=true)(k:PySem.W.keepIn K (.ref f)=true):Fun K x qual st f (PySem.W.fnOf x qual (Ea st) (BO st) (Ao st) .none kV doc pm an cdv ct):=⟨⟨oc,od,kV,doc,pm,an,cdv,ct,osl,rfl,l,c⟩,k⟩
end
noncomputable def BW(H H':Hp):Prop:=∀b o,H b=some o->H' b=some o
theorem BW.trans{H H1 H2:Hp}(a:BW H H1)(b:BW H1 H2):BW H H2:=fun c o h=>b c o (a c o h)
end L2
end
section
namespace L2
open PySem PySem.Spec PyProof.Rows
section
variable{M:Model}{A:Around}{E:Value->Shared->Prop}{s:Shared}
noncomputable def AW(h:Heap)(a:Addr):Prop:=∃(o:Obj) (vs:Array Value),h.get? a=some o/\o.data=.fields vs/\vs[2]? = some .none
theorem AW.keeps{h h':Heap}{a:Addr}(x:AW h a)(k:∀b o,h.get? b=some o->h'.get? b=some o):AW h' a:=let⟨o,vs,e,r⟩:=x; ⟨o,vs,k _ _ e,r⟩
theorem AW.lt{h:Heap}{a:Addr}(x:AW h a):a<h.objs.size:=let⟨_,_,e,_⟩:=x; Heap.lt_size e
theorem Jp{e:Addr}{h:Heap}{oe:Obj}{vs:Array Value}{x:Value}(he:h.get? e=some oe)(hd:oe.data=.fields vs)(h2:vs[2]? = some .none):AW (h.update e (Obj.mapFields (·.setIfInBounds 1 x))) e:=
 ⟨_,_,Heap.get?_update_self _ he (Obj.isFreed_of_fields (Obj.data_mapFields hd _)),Obj.data_mapFields hd _,by rw[Array.getElem?_setIfInBounds_ne (by decide)]; exact h2⟩
theorem AW.other{e T:Addr}{h:Heap}{f:Obj->Obj}(p:AW h e)(ne:T≠e):AW (h.update T f) e:=by
 obtain⟨o,vs,h1,r⟩:=p;exact⟨o,vs,(Heap.get?_update_other _ _ ne).trans h1,r⟩
theorem F8{base:Heap}{l:List Env}{e:Addr}{cls a0 fl:Value}{Q:Unit->Shared->Prop}(f1:base.StaysIn s.heap)(f2:base.get? e=none)(f3:s.heap.FunFrames base l)(f4:s.heap.TracedAtW base e cls a0 fl)(hp:AW s.heap e)(hQ:∀h',Heap.FlyingW base l e cls a0 h'->s.heap.UpToSlots h'->AW h' e->Q () { s with heap:=h' }):wpAny M A (setFlight (.ref e) none) Q E s:=by
 obtain⟨oe,vs,T,oT,ts,he,hc,hd,h1,hnT,hTe,hT,hdT,h3⟩:=f4;have hs3:3<ts.size:=(Array.getElem?_eq_some_iff.mp h3).1;have nf:∀b o,s.heap.get? b=some o->(∀ws,o.data≠.fields ws)->b≠T:=fun b o q n z=>by
  subst z; rw[hT] at q; cases q; exact n _ hdT
 unfold setFlight;refine wpAny_bind (wpAny_field he hd h1 ?_);rw[if_pos (show(Value.ref T != Value.none)=true from by simp)];refine wpAny_setField hT hdT hs3 (hQ _ ⟨fun b o q=>?_,f2,f3.of_keeps fun b o q n=>⟨o,(Heap.get?_update_other _ _ (nf b o q n).symm).trans q,rfl⟩,oe,vs,T,_,_,(Heap.get?_update_other _ _ hTe).trans he,hc,hd,h1,hnT,hTe,
  Heap.get?_update_self _ hT (Obj.isFreed_of_fields (Obj.data_mapFields hdT _)),Obj.data_mapFields hdT _,by simp[hs3]⟩ (fun b o q n=>⟨o.slots,(Heap.get?_update_other _ _ (nf b o q n).symm).trans q⟩) (hp.other hTe))
 refine(Heap.get?_update_other _ _ fun z=>?_).trans (f1 b o q);subst z; rw[hnT] at q; cases q
theorem Lw{base:Heap}{l:List Env}{e:Addr}{cls a0:Value}{Q:Unit->Shared->Prop}(hh:Heap.FlyingW base l e cls a0 s.heap)(hp:AW s.heap e)(hQ:∀h',Heap.FlyingW base l e cls a0 h'->s.heap.UpToSlots h'->AW h' e->Q () { s with heap:=h' }):wpAny M A (setFlight (.ref e) none) Q E s:=
 F8 hh.1 hh.2.1 hh.2.2.1 hh.2.2.2.at hp hQ
theorem Hl{base:Heap}{env:Env}{outer:List Env}{L e:Addr}{oe:Obj}{vs:Array Value}{head a0:Value}{hadNext:Bool}{Q:Unit->Shared->Prop}(hfr:A.frames=some (env::outer))(f3:s.heap.FunFrames base (env::outer))(hf:env.frame=some L)(he:s.heap.get? e=some oe)(f1:base.StaysIn s.heap)(f2:base.get? e=none)(hd:oe.data=.fields vs)(hsz:1<vs.size)(h0:vs[0]? = some a0)(h2:vs[2]? = some .none)(hQ:∀h',Heap.FlyingW base (env::outer) e oe.cls a0 h'->s.heap.UpToSlots h'->AW h' e->Q () { s with heap:=h' }):
  wpAny M A (do let a <- frameOf env; let pl <- entryPlaceOf L hadNext; let b <- EntryCells.newEntry head a .none (rawInt L) .none pl; setField (.ref e) 1 b) (fun _ s'=>wpAny M A (setFlight (.ref e) none) Q E s') E s:=by
 have ne:e∉(env::outer).filterMap (·.frame):=fun z=>by
  obtain⟨_,o,q,n⟩:=f3.mem z;rw[he] at q; cases q; exact n _ hd
 refine wpAny_bind (wpAny_frameOf_fun hfr f3 hf fun h₁ so=>wpAny_bind (wpAny_entryPlaceOf fun pl hpl=>?_));unfold EntryCells.newEntry newFields;refine wpAny_bind (wpAny_newObj_type ?_ (hpl.sizeOk5 _ _ _ _ _));have e1:h₁.get? e=some oe:=(so.2.1 e ne).trans he;have b1:base.StaysIn h₁:=fun b o q=>(so.2.1 b fun z=>by rw[(f3.mem z).1] at q; cases q).trans (f1 b o q);have tn:h₁.objs.size≠e:=Nat.ne_of_gt (Heap.lt_size e1);generalize hob:({ cls:=.type "traceback",dict:=none,data:=.fields ([head,.ref L,.none,rawInt L,.none]++(if pl.isEmpty then List.replicate 6 Value.none else pl)).toArray }:Obj)=ob;have pT:(h₁.push ob).get? h₁.objs.size=some ob:=Heap.get?_push_size h₁ (by subst hob; rfl);have k1:∀b o,b≠e->h₁.get? b=some o->((h₁.push ob).update e (Obj.mapFields (·.setIfInBounds 1 (.ref h₁.objs.size)))).get? b=some o:=fun b o n q=>(Heap.get?_update_other _ _ (Ne.symm n)).trans (Heap.get?_push_of_some ob q);have e2:=Heap.get?_push_of_some ob e1;have nf:∀b o,s.heap.get? b=some o->(∀ws,o.data≠.fields ws)->b≠e:=fun b o q n z=>by
  subst z; rw[he] at q; cases q; exact n _ hd
 have up:s.heap.UpToSlots ((h₁.push ob).update e (Obj.mapFields (·.setIfInBounds 1 (.ref h₁.objs.size)))):=fun b o q n=>by
  obtain⟨sl,w⟩:=so.2.2 b o q;exact⟨sl,k1 b _ (nf b o q n) w⟩
 refine wpAny_setField e2 hd hsz (F8 (fl:=rawInt L) (base:=base) (l:=env::outer) (cls:=oe.cls) (a0:=a0) (fun b o q=>k1 b o (fun z=>by subst z; rw[f2] at q; cases q) (b1 b o q)) f2 (f3.of_keeps fun b o q n=>?_) ?_ (Jp e2 hd h2) fun h' F u p=>hQ h' F (up.trans u) p)
 .obtain⟨sl,w⟩:=so.2.2 b o q
  exact⟨_,k1 b _ (nf b o q n) w,rfl⟩
 .refine⟨_,_,h₁.objs.size,ob,_,Heap.get?_update_self _ e2 (Obj.isFreed_of_fields (Obj.data_mapFields hd _)),⟨Obj.cls_mapFields _ _,by rw[Array.getElem?_setIfInBounds_ne (by decide)]; exact h0⟩,Obj.data_mapFields hd _,by simp[hsz],b1.fresh,tn,(Heap.get?_update_other _ _ (Ne.symm tn)).trans pT,by subst hob; rfl,?_⟩
  simp
theorem Mo{base:Heap}{env:Env}{outer:List Env}{L e:Addr}{oe:Obj}{vs:Array Value}{head a0:Value}{hadNext:Bool}{Q:Unit->Shared->Prop}(hfr:A.frames=some (env::outer))(f3:s.heap.FunFrames base (env::outer))(hf:env.frame=some L)(he:s.heap.get? e=some oe)(f1:base.StaysIn s.heap)(f2:base.get? e=none)(hd:oe.data=.fields vs)(hsz:1<vs.size)(h0:vs[0]? = some a0)(h2:vs[2]? = some .none)(hQ:∀h',Heap.HeldW base (env::outer) e oe.cls a0 L h'->s.heap.UpToSlots h'->AW h' e->Q () { s with heap:=h' }):
  wpAny M A (do let a <- frameOf env; let pl <- entryPlaceOf L hadNext; let b <- EntryCells.newEntry head a .none (rawInt L) .none pl; setField (.ref e) 1 b) Q E s:=by
 have ne:e∉(env::outer).filterMap (·.frame):=fun z=>by
  obtain⟨_,o,q,n⟩:=f3.mem z;rw[he] at q; cases q; exact n _ hd
 refine wpAny_bind (wpAny_frameOf_fun hfr f3 hf fun h₁ so=>wpAny_bind (wpAny_entryPlaceOf fun pl hpl=>?_));unfold EntryCells.newEntry newFields;refine wpAny_bind (wpAny_newObj_type ?_ (hpl.sizeOk5 _ _ _ _ _));have e1:h₁.get? e=some oe:=(so.2.1 e ne).trans he;have b1:base.StaysIn h₁:=fun b o q=>(so.2.1 b fun z=>by rw[(f3.mem z).1] at q; cases q).trans (f1 b o q);have tn:h₁.objs.size≠e:=Nat.ne_of_gt (Heap.lt_size e1);generalize hob:({ cls:=.type "traceback",dict:=none,data:=.fields ([head,.ref L,.none,rawInt L,.none]++(if pl.isEmpty then List.replicate 6 Value.none else pl)).toArray }:Obj)=ob;have pT:(h₁.push ob).get? h₁.objs.size=some ob:=Heap.get?_push_size h₁ (by subst hob; rfl);have k1:∀b o,b≠e->h₁.get? b=some o->((h₁.push ob).update e (Obj.mapFields (·.setIfInBounds 1 (.ref h₁.objs.size)))).get? b=some o:=fun b o n q=>(Heap.get?_update_other _ _ (Ne.symm n)).trans (Heap.get?_push_of_some ob q);have e2:=Heap.get?_push_of_some ob e1;have nf:∀b o,s.heap.get? b=some o->(∀ws,o.data≠.fields ws)->b≠e:=fun b o q n z=>by
  subst z; rw[he] at q; cases q; exact n _ hd
 have up:s.heap.UpToSlots ((h₁.push ob).update e (Obj.mapFields (·.setIfInBounds 1 (.ref h₁.objs.size)))):=fun b o q n=>by
  obtain⟨sl,w⟩:=so.2.2 b o q;exact⟨sl,k1 b _ (nf b o q n) w⟩
 refine wpAny_setField e2 hd hsz (hQ _ ⟨fun b o q=>k1 b o (fun z=>by subst z; rw[f2] at q; cases q) (b1 b o q),f2,f3.of_keeps fun b o q n=>?_,?_⟩ up (Jp e2 hd h2))
 .obtain⟨sl,w⟩:=so.2.2 b o q
  exact⟨_,k1 b _ (nf b o q n) w,rfl⟩
 .refine⟨_,_,h₁.objs.size,ob,_,Heap.get?_update_self _ e2 (Obj.isFreed_of_fields (Obj.data_mapFields hd _)),⟨Obj.cls_mapFields _ _,by rw[Array.getElem?_setIfInBounds_ne (by decide)]; exact h0⟩,Obj.data_mapFields hd _,by simp[hsz],b1.fresh,tn,(Heap.get?_update_other _ _ (Ne.symm tn)).trans pT,by subst hob; rfl,?_⟩
  simp
theorem AW.two{e:Addr}{h:Heap}{oe:Obj}{vs:Array Value}(p:AW h e)(he:h.get? e=some oe)(hd:oe.data=.fields vs):vs[2]? = some .none:=by
 obtain⟨o',vs',q1,q2,q3⟩:=p;rw[he] at q1; cases q1;rw[hd] at q2; cases q2;exact q3
theorem GC{base:Heap}{env:Env}{outer:List Env}{L e:Addr}{cls a0:Value}{Q:Unit->Shared->Prop}(hfr:A.frames=some (env::outer))(hf:env.frame=some L)(hfl:Heap.FlyingW base (env::outer) e cls a0 s.heap)(hp:AW s.heap e)(hQ:∀h',Heap.FlyingW base outer e cls a0 h'->s.heap.UpToSlots h'->AW h' e->Q () { s with heap:=h' }):wpAny M A (leaving env (.ref e)) Q E s:=by
 obtain⟨f1,f2,f3,oe,vs,T,oT,ts,he,⟨rfl,h0⟩,hd,h1,hnT,hTe,hT,hdT,h3⟩:=hfl;have nf:∀b o,s.heap.get? b=some o->(∀ws,o.data≠.fields ws)->b≠T:=fun b o q n z=>by
  subst z; rw[hT] at q; cases q; exact n _ hdT
 have k1:∀b,b≠T->(s.heap.update T (Obj.mapFields (·.setIfInBounds 3 Value.none))).get? b=s.heap.get? b:=fun b n=>Heap.get?_update_other _ _ (Ne.symm n);unfold leaving noteFrame;simp only[hf];refine wpAny_bind (wpAny_bind (wpAny_field he hd h1 ?_));rw[if_pos (show(Value.ref T != Value.none)=true from by simp)];refine wpAny_bind (wpAny_field hT hdT h3 ?_);rw[if_neg (show ¬((Value.none==rawInt L)=true) from by simp[rawInt])];refine wpAny_bind (wpAny_setField hT hdT (Array.getElem?_eq_some_iff.mp h3).1 ?_);refine Hl hfr (f3.of_keeps fun b o q n=>⟨o,(k1 b (nf b o q n)).trans q,rfl⟩) hf ((k1 e (Ne.symm hTe)).trans he) (fun b o q=>(k1 b fun z=>by subst z; rw[hnT] at q; cases q).trans (f1 b o q)) f2 hd
  (Array.getElem?_eq_some_iff.mp h1).1 h0 (hp.two he hd) fun h' F u p=>?_
 obtain⟨g1,g2,⟨_,_,g3⟩,g4⟩:=F;exact hQ h' ⟨g1,g2,g3,g4⟩ (fun b o q n=>u b o ((k1 b (nf b o q n)).trans q) n) p
theorem LB{base:Heap}{env:Env}{outer:List Env}{L e:Addr}{cls a0:Value}{Q:Unit->Shared->Prop}(hfr:A.frames=some (env::outer))(hf:env.frame=some L)(hfl:Heap.FlyingW base (env::outer) e cls a0 s.heap)(hp:AW s.heap e)(hQ:∀h',Heap.HeldW base (env::outer) e cls a0 L h'->s.heap.UpToSlots h'->AW h' e->Q () { s with heap:=h' }):wpAny M A (noteFrame (.ref e) env) Q E s:=by
 obtain⟨f1,f2,f3,oe,vs,T,oT,ts,he,⟨rfl,h0⟩,hd,h1,hnT,hTe,hT,hdT,h3⟩:=hfl;have nf:∀b o,s.heap.get? b=some o->(∀ws,o.data≠.fields ws)->b≠T:=fun b o q n z=>by
  subst z; rw[hT] at q; cases q; exact n _ hdT
 have k1:∀b,b≠T->(s.heap.update T (Obj.mapFields (·.setIfInBounds 3 Value.none))).get? b=s.heap.get? b:=fun b n=>Heap.get?_update_other _ _ (Ne.symm n);unfold noteFrame;simp only[hf];refine wpAny_bind (wpAny_field he hd h1 ?_);rw[if_pos (show(Value.ref T != Value.none)=true from by simp)];refine wpAny_bind (wpAny_field hT hdT h3 ?_);rw[if_neg (show ¬((Value.none==rawInt L)=true) from by simp[rawInt])];refine wpAny_bind (wpAny_setField hT hdT (Array.getElem?_eq_some_iff.mp h3).1 ?_);refine Mo hfr (f3.of_keeps fun b o q n=>⟨o,(k1 b (nf b o q n)).trans q,rfl⟩) hf ((k1 e (Ne.symm hTe)).trans he) (fun b o q=>(k1 b fun z=>by subst z; rw[hnT] at q; cases q).trans (f1 b o q)) f2 hd
  (Array.getElem?_eq_some_iff.mp h1).1 h0 (hp.two he hd) fun h' F u p=>?_
 exact hQ h' F (fun b o q n=>u b o ((k1 b (nf b o q n)).trans q) n) p
theorem Lz{base h:Heap}{env:Env}{outer:List Env}{L e:Addr}{cls:Value}{args:List Value}{Q:Unit->Shared->Prop}(hfr:A.frames=some (env::outer))(hf:env.frame=some L)(hkb:base.StaysIn h)(hl:h.FunFrames base (env::outer))(hx:Heap.MadeExcOf h s.heap e cls args)(hQ:∀h' t,Heap.FlyingW base outer e cls (.ref t) h'->s.heap.UpToSlots h'->AW h' e->Q () { s with heap:=h' }):wpAny M A (leaving env (.ref e)) Q E s:=by
 obtain⟨t,he,htn,ht⟩:=hx.there;have fr:base.get? e=none:=by
  cases q:base.get? e with
  | none=>rfl
  | some o=>have:=hkb e o q; rw[hx.new] at this; cases this
 unfold leaving noteFrame;simp only[hf];refine wpAny_bind (wpAny_bind (wpAny_field he rfl (x:=.none) rfl ?_));rw[if_neg (by decide)];refine Hl (a0:=.ref t) hfr (hl.of_keeps fun b o q _=>⟨o,hx.keeps b o q,rfl⟩) hf he (fun b o q=>hx.keeps b o (hkb b o q)) fr rfl (by simp) rfl rfl fun h' F u p=>?_;obtain⟨g1,g2,⟨_,_,g3⟩,g4⟩:=F;exact hQ h' t ⟨g1,g2,g3,g4⟩ u p
end
noncomputable def clo(cells:List (Str×Addr)):List (Str×NameKind)->List (Str×Addr)->List (Str×Addr)
 | [],cs=>cs
 | (n,k)::r,cs=>clo cells r (if (k==.free)=true then (n,(cells.lookup n).getD 0)::cs else cs)
theorem Le{env:Env}:∀(names:List (Str×NameKind)) (cs:List (Str×Addr)),(∀x∈names,(x.2==.free)=true->(env.cells.lookup x.1).isSome=true) ->
  (forIn names cs fun(x:Str×NameKind) (r:List (Str×Addr))=>(if (x.2==NameKind.free)=true then do let c <- cellOf env x.1; pure (ForInStep.yield ((x.1,c)::r)) else pure (ForInStep.yield r):Sem (ForInStep (List (Str×Addr)))))=pure (clo env.cells names cs)
 | [],cs,_=>rfl
 | (n,k)::r,cs,h=>by
  rw[List.forIn_cons];have hr:=fun cs'=>Le (env:=env) r cs' fun x hx=>h x (List.mem_cons_of_mem _ hx);cases hk:(k==NameKind.free) with
  | true =>
   have hc:=h (n,k) List.mem_cons_self hk;obtain⟨c,hc⟩:=Option.isSome_iff_exists.mp hc;have e:cellOf env n=pure c:=by unfold cellOf; rw[hc]
   dsimp only at hc;simp only[hk,if_true,e,pure_bind];rw[hr];simp only[clo,hk,if_true,hc,Option.getD_some]
  | false =>
   simp only[hk,Bool.false_eq_true,if_false,pure_bind];rw[hr];simp only[clo,hk,Bool.false_eq_true,if_false]
theorem JU{env:Env}{scope:Scope}(h:∀x∈scope.names,(x.2==.free)=true->(env.cells.lookup x.1).isSome=true):closureFor scope env=pure (clo env.cells scope.names []):=by
 rw[<- Le _ _ h];unfold closureFor;simp
theorem Nq{cells:List (Str×Addr)}{x:Str}{c:Addr}:∀{names:List (Str×NameKind)} {cs:List (Str×Addr)},(∀y∈names,(y.2==.free)=true->(cells.lookup y.1).isSome=true) ->
  (clo cells names cs).lookup x=some c->cs.lookup x=some c\/cells.lookup x=some c
 | [],_,_,h=>.inl h
 | (n,k)::r,cs,hn,h=>by
  simp only[clo] at h;have hr:=Nq (names:=r) (fun y hy=>hn y (List.mem_cons_of_mem _ hy)) h;rcases hr with hr|hr
  .cases hk:(k==NameKind.free) with
   | true =>
    simp only[hk,if_true] at hr;rw[List.lookup_cons] at hr;cases hx:(x==n) with
    | true =>
     simp only[hx] at hr;obtain⟨c',hc'⟩:=Option.isSome_iff_exists.mp (hn (n,k) List.mem_cons_self hk);have hx':x=n:=by simpa using hx
     rw[hc'] at hr;refine .inr ?_;rw[hx'];exact hc'.trans hr
    | false =>
     simp only[hx] at hr;exact .inl hr
   | false =>
    simp only[hk,Bool.false_eq_true,if_false] at hr;exact .inl hr
  .exact .inr hr
theorem Ld{cells:List (Str×Addr)}{x:Str}:∀{names:List (Str×NameKind)} {cs:List (Str×Addr)},(∃c,cs.lookup x=some c)->∃c,(clo cells names cs).lookup x=some c
 | [],_,h=>h
 | (n,k)::r,cs,h=>by
  simp only[clo];refine Ld (names:=r) ?_;cases hk:(k==NameKind.free) with
  | true =>
   simp only[if_true];rw[List.lookup_cons];cases hx:(x==n) with
   | true=>exact⟨_,rfl⟩
   | false=>exact h
  | false =>
   simp only[Bool.false_eq_true,if_false];exact h
theorem JQ{cells:List (Str×Addr)}{x:Str}:∀{names:List (Str×NameKind)} {cs:List (Str×Addr)},names.lookup x=some .free->∃c,(clo cells names cs).lookup x=some c
 | [],_,h=>by simp at h
 | (n,k)::r,cs,h=>by
  rw[List.lookup_cons] at h;simp only[clo];cases hx:(x==n) with
  | true =>
   simp only[hx] at h;have hk:k=.free:=Option.some.inj h;subst hk;refine Ld (names:=r) ⟨(cells.lookup n).getD 0,?_⟩;rw[if_pos (by decide),List.lookup_cons];simp only[hx]
  | false =>
   simp only[hx] at h;exact JQ (names:=r) h
noncomputable abbrev cxD(X:Cx)(own:List Str)(scope:Scope)(C:Addr)(cl:List (Str×Addr))(fn:Str->Bool)(s:Shared)(H:Hp)(fp:List Addr)(pins:List (Addr×Obj)):Cx:=
 { X with N:=own++X.N,s₀:=s,H₀:=H,env:=compEnvC scope cl C X.env,outer:=X.stack,ex:=fp,fn:=fn,pn:=X.pn++pins,xe:=fun _ _=>False }
noncomputable abbrev cxC(X:Cx)(own:List Str)(scope:Scope)(C:Addr)(s:Shared)(H:Hp)(fp:List Addr)(pins:List (Addr×Obj)):Cx:=
 cxD X own scope C (clo X.env.cells scope.names []) (fun _=>false) s H fp pins
noncomputable def BR(own N:List Str)(sc sco:Scope):Bool:=
 N.all (fun x=>match sc.names.lookup x with
  | some .local=>false
  | some .cell=>false
  | some .free=>sco.names.lookup x==some .cell || sco.names.lookup x==some .free
  | _=>true) &&
 sc.names.all (fun y=>(y.2 != .cell)&&(y.2 != .free || sco.names.lookup y.1==some .cell || sco.names.lookup y.1==some .free)&&(y.2 != .local || sc.names.lookup y.1==some .local)) &&
 (sc.kind==.function)&&own.all fun x=>!N.contains x
theorem Cn{env:Env}:∀{names:List (Str×NameKind)} {x:Str} {k:NameKind},
  (names.map fun(n,k)=>if (k==NameKind.free&&env.scope.kind==.function&&env.kindOf n==some .cell) then (n,NameKind.cell) else (n,k)).lookup x=some k ->
  names.lookup x=some k\/(k=.cell/\names.lookup x=some .free)
 | [],_,_,h=>by simp at h
 | (n,j)::r,x,k,h=>by
  have ih:=@Cn env r x k;have h':List.lookup x ((if (j==NameKind.free&&env.scope.kind==.function&&env.kindOf n==some .cell)=true then (n,NameKind.cell) else (n,j))::_)=some k:=h;rw[List.lookup_cons];cases hx:x==n with
  | true =>
   by_cases hc:(j==NameKind.free&&env.scope.kind==.function&&env.kindOf n==some .cell)=true
   .rw[if_pos hc,List.lookup_cons] at h'
    simp only[hx] at h';have hj:j=.free:=by
     simp only[Bool.and_eq_true] at hc;simpa using hc.1.1
    exact .inr ⟨(Option.some.inj h').symm,by simp only[hj]⟩
   .rw[if_neg hc,List.lookup_cons] at h'
    simp only[hx] at h';exact .inl h'
  | false =>
   refine ih ?_;by_cases hc:(j==NameKind.free&&env.scope.kind==.function&&env.kindOf n==some .cell)=true
   .rw[if_pos hc,List.lookup_cons] at h'
    simp only[hx] at h';exact h'
   .rw[if_neg hc,List.lookup_cons] at h'
    simp only[hx] at h';exact h'
theorem HK{prog:Program}{w:World}{A:Around}{R:Result->Shared->Prop}{s:Shared}{elt target iter:Expr}{ifs:List Expr}{scope:Scope}{pos:Pos}{it acc:Value}{env:Env}(I:Nat->Shared->Prop)(turn:∀n s,I n s->wpAny (model prog w) A (pyNext it) (fun r s₁=>match r with
   | none=>R (.ok .next) s₁
   | some v=>wpAny (model prog w) A (letOwnedTupleGo target it v) (fun _ s₁'=>wpAny (model prog w) A (assign target env v) (fun _ s₂ =>
     wpAny (model prog w) A (forIn ifs true fun c r=>if r=true then do let ok <- isTrue c env (eval c env); pure (ForInStep.yield ok) else pure (ForInStep.yield r)) (fun ok s₃ =>
      if ok=true then wpAny (model prog w) A (eval elt env) (fun x s₄ =>
       wpAny (model prog w) A (call (.builtin "list.append") [acc,x]) (fun _ s₅=>∃m,m<n/\I m s₅) (fun _ _=>False) s₄) (fun _ _=>False) s₃
      else ∃m,m<n/\I m s₃) (fun _ _=>False) s₂) (fun _ _=>False) s₁') (fun _ _=>False) s₁) (fun _ _=>False) s)(n:Nat)(h:I n s):codeAny (model prog w) A (.compLoop (.ListComp elt [⟨target,iter,ifs,0⟩] scope pos) 0 it acc env) R s:=by
 refine codeAny_loop rfl I (fun n s hI=>?_) n h;show wpAny _ A ((compTurn (.ListComp elt [⟨target,iter,ifs,0⟩] scope pos) 0 it acc env).onRaise (fun x=>do noteFrame x env; theTreesLotGoes x)) _ _ s;refine wpAny_noted ?_;rw[compTurn_list];refine wpAny_bind (wpAny_standAt (wpAny_bind (wpAny_mono (turn n s hI) (fun r s₁ h₁=>?_) fun _ _ h'=>h'.elim)));cases r with
 | none=>exact wpAny_pure h₁
 | some v =>
  refine wpAny_bind (wpAny_mono h₁ (fun _ s₁' h₁'=>?_) fun _ _ h'=>h'.elim);refine wpAny_bind (wpAny_mono h₁' (fun _ s₂ h₂=>wpAny_bind (wpAny_mono h₂ (fun ok s₃ h₃=>?_) fun _ _ h'=>h'.elim)) fun _ _ h'=>h'.elim);cases ok with
  | false=>exact wpAny_pure ⟨rfl,h₃⟩
  | true =>
   exact wpAny_bind (wpAny_bind (wpAny_mono h₃ (fun x s₄ h₄=>wpAny_bind (wpAny_mono h₄ (fun _ s₅ h₅=>wpAny_pure (wpAny_pure ⟨rfl,h₅⟩)) fun _ _ h'=>h'.elim)) fun _ _ h'=>h'.elim))
noncomputable def PTs(X:Cx)(ifs:List Expr)(t:TT):Prop:=
 ∀(pins:List (Addr×Obj)) (s:Shared) (σ:St) (H:Hp) (Q:Bool->Hp->Prop),Inv X pins σ H s->t σ H Q ->
  wpAny (model X.prog X.w) X.A (forIn ifs true fun c r=>if r=true then do let ok <- isTrue c X.env (eval c X.env); pure (ForInStep.yield ok) else pure (ForInStep.yield r)) (TP X pins σ Q) X.xe s
noncomputable def Xw:TT:=fun _ H Q=>Q true H
theorem Sy{X:Cx}:PTs X [] Xw:=fun _ _ _ H _ I h=>wpAny_tests_nil ⟨H,I,h⟩
theorem Sz{X:Cx}{c:Expr}{t:TT}(h:PT X c t):PTs X [c] t:=fun pins s σ H Q I q=>wpAny_tests_one (h pins s σ H Q I q)
noncomputable abbrev TU:=V->Hp->List V->Prop
noncomputable def PGo(X:Cx)(target:Expr)(n:Nat)(un:TU):Prop:=
 ∀(pins:List (Addr×Obj)) (s:Shared) (σ0 σ:St) (H:Hp) (v:V) (u:Value) (vs:List V),σ0.length=n->Inv X pins (σ0++σ) H s->RelV v u->un v H vs ->
  wpAny (model X.prog X.w) X.A (assign target X.env u) (fun _ s'=>vs.length=n/\Inv X pins (vs.map some++σ) H s') X.xe s
noncomputable def S4:TU:=fun v _ vs=>vs=[v]
noncomputable def Xd(K:Frag):TU:=fun v H vs=>∃a x y,v=.ref a/\SqT K H a [x,y]/\vs=[x,y]
theorem UD{α:Type}{l:List α}(h:l.length=1):∃o,l=[o]:=by
 cases l with
 | nil=>cases h
 | cons a t=>cases t with
  | nil=>exact⟨a,rfl⟩
  | cons b t=>cases h
theorem UE{α:Type}{l:List α}(h:l.length=2):∃o p,l=[o,p]:=by
 cases l with
 | nil=>cases h
 | cons a t =>
  obtain⟨p,rfl⟩:=UD (Nat.succ.inj h);exact⟨a,p,rfl⟩
theorem Iz{X:Cx}{x:Str}{pos:Pos}(hi:X.N[0]? = some x)(hN:X.N.Nodup)(hx:X.env.scope.names.lookup x=some .local):PGo X (.Name x pos) 1 S4:=by
 intro pins s σ0 σ H v u vs hl I r h;obtain⟨o,rfl⟩:=UD hl;cases h;exact wpAny_assign_Name (Fy I hN hi (.inl hx) r (fun s' I'=>⟨rfl,I'⟩) (.inr hx))
theorem QH{X:Cx}{x y:Str}{px py pos:Pos}{k:Nat}(hc:X.calm=true)(hi:X.N[0]? = some x)(hj:X.N[1]? = some y)(hN:X.N.Nodup)(hx:X.env.scope.names.lookup x=some .local)(hy:X.env.scope.names.lookup y=some .local):
  PGo X (.Tuple [.Name x px,.Name y py] k pos) 2 (Xd X.K):=by
 intro pins s σ0 σ H v u vs hl I r h;obtain⟨o,o',rfl⟩:=UE hl;obtain⟨a,v1,v2,rfl,hq,rfl⟩:=h;have P:=QG (X:=X) (pos:=pos) (k:=k) hc (IA (HF (pos:=px) hN hi (.inl hx) (.inr hx)) (IA (HF (pos:=py) hN hj (.inl hy) (.inr hy)) NO)) (n:=2);refine thn (P pins s _ H (.ref a) u (fun σ2 H2=>σ2=[v1,v2].map some++σ/\H2=H) I r ⟨a,_,rfl,hq,rfl,v1,[v2],rfl,v2,[],rfl,rfl,rfl,rfl⟩) fun _ s1 yy=>?_;obtain⟨σ2,H2,I2,e1,e2⟩:=yy;subst e1; subst e2;exact⟨rfl,I2⟩
noncomputable def LcR(J:It)(un:TU)(tc:TT)(te:TE)(σ:St)(H1:Hp)(Q:VK):Prop:=∀acc,H1 acc=none->∃W:Nat->Nat->List V->Hp->Prop,(∃m,W 0 m [] (upd H1 acc (.lst [])))/\∀i m ys H,W i m ys H->H acc=some (.lst ys) /\
 ((J.stop i H/\Q (.ref acc) H)\/(J.go i H/\∀x H',J.yld i H x H'->∃vs,un x H' vs/\tc (vs.map some++σ) H' fun b H3 =>
  if b=true then te (vs.map some++σ) H3 fun v H4=>H4 acc=some (.lst ys)/\ys.length<sizeLine/\∃m',m'<m/\W (i+1) m' (ys++[v]) (upd H4 acc (.lst (ys++[v])))
  else ∃m',m'<m/\W (i+1) m' ys H3))
noncomputable def tLc(wi:TI)(un:TU)(tc:TT)(te:TE):TE:=fun σ H Q=>wi σ H fun J H1=>LcR J un tc te σ H1 Q
section
variable{X:Cx}{pins:List (Addr×Obj)}{σ:St}{H:Hp}{s:Shared}
theorem BR.free{own:List Str}{scope:Scope}(hok:BR own X.N scope X.env.scope=true)(I:Inv X pins σ H s):∀x∈scope.names,(x.2==NameKind.free)=true->(X.env.cells.lookup x.1).isSome=true:=fun x hx hf=>by
 simp only[BR,Bool.and_eq_true,List.all_eq_true] at hok;have:=(hok.1.1.2 x hx).1.2;have hf':x.2=.free:=by simpa using hf
 rw[hf'] at this;simp only[bne_self_eq_false,Bool.false_or,Bool.or_eq_true] at this;obtain⟨c,hc⟩:=I.ok.has x.1 (this.elim (fun z=>.inl (by simpa[Env.kindOf] using z)) fun z=>.inr (by simpa[Env.kindOf] using z));rw[hc]; rfl
theorem Js{own:List Str}{scope:Scope}{fp:List Addr}{h1:Heap}{t':Nat}(hok:BR own X.N scope X.env.scope=true)(I:Inv X pins σ H s)(f2:∀b∈fp,Ep X pins H b)(fo:∀b∈fp,∃o,s.heap.get? b=some o)(hns:h1.Ns s.heap.objs.size fun _=>none)(hk:∀b o,s.heap.get? b=some o->h1.get? b=some o):
  Inv (cxC X own scope s.heap.objs.size s H fp pins) [] (List.replicate own.length none++σ) H { s with heap:=h1,toks:=t' }:=by
 have hfree:=BR.free hok I;simp only[BR,Bool.and_eq_true,List.all_eq_true] at hok;obtain⟨⟨⟨hN,hS⟩,hkd⟩,hown⟩:=hok;have hkind:scope.kind=.function:=by simpa using hkd
 have sub:∀x c,(clo X.env.cells scope.names []).lookup x=some c->X.env.cells.lookup x=some c:=fun x c e=>by
  rcases Nq hfree e with z|z
  .simp at z
  .exact z
 have ltS:∀{b:Addr} {o:Obj},s.heap.get? b=some o->b≠s.heap.objs.size:=fun e=>Nat.ne_of_lt (Heap.lt_size e);have isFree:∀x,((relabel scope X.env).names.lookup x=some .cell\/(relabel scope X.env).names.lookup x=some .free)->scope.names.lookup x=some .free:=fun x hx'=>by
  rcases hx' with z|z
  .rcases Cn z with z|z
   .have:=(hS _ (PySem.mem_of_lookup z)).1.1
    simp at this
   .exact z.2
  .rcases Cn z with z|z
   .exact z
   .cases z.1
 refine⟨⟨I.ok.mod,hkind,I.ok.glob,I.ok.blt,Nat.le_refl _,fun x y c e1 e2=>I.ok.inj x y c (sub x c e1) (sub y c e2),fun x hx=>JQ (isFree x hx),fun x c z=>(by cases z),I.ok.hd,I.ok.frames,.inl rfl,fun b hb=>?_,I.bs,Nat.le_trans I.ok.bsz I.sz,fun b o e hb=>?_,fun b hb hz=>?_,I.stack,I.stkFree,I.tabs⟩,
  rfl,I.bare,Un.kept hk,⟨_,hns,fun i x v e1 e2 e3=>?_⟩,fun x c e=>?_,I.hok.fresh (Nat.le_refl _),fun x c e=>I.freeC x c (sub x c e),fun p hp=>?_,I.hok.kept hk,?_⟩
 .refine⟨fun z=>?_,fun x c e z=>?_⟩
  .obtain⟨o,e⟩:=fo b hb
   exact ltS e z
  .exact(f2 b hb).2.2.2.2.1 x c (sub x c e) z
 .obtain⟨_,_,_,f4,_⟩:=f2 b hb
  rcases f4 with f4|f4
  .exact I.ok.noex b o e f4
  .have:=Nat.lt_of_lt_of_le (Heap.lt_size e) (Nat.le_trans I.ok.bsz f4)
   exact absurd this (Nat.lt_irrefl _)
 .obtain⟨_,f1,f3,_⟩:=f2 b hb
  rcases List.mem_cons.mp (I.stkSub b hz) with z|z
  .exact f1 z
  .exact f3 z
 .by_cases hi:i<own.length
  .rw[List.getElem?_append_left (by simpa using hi),List.getElem?_replicate] at e2
   split at e2<;>cases e2
  .have e1':X.N[i-own.length]? = some x:=by
    have e1:(own++X.N)[i]? = some x:=e1;rw[List.getElem?_append_right (by omega)] at e1;exact e1
   have e2' : σ[i-own.length]? = some (some v):=by
    rw[List.getElem?_append_right (by simpa using hi)] at e2;simpa using e2
   have hx:=hN x (List.mem_of_getElem? e1');have q:scope.names.lookup x=some .free:=by
    rcases e3 with z|z
    .rcases Cn z with z|z
     .rw[z] at hx; cases hx
     .cases z.1
    .exact isFree x z
   rw[q] at hx;simp only[Bool.or_eq_true] at hx;have hx2:X.env.scope.names.lookup x=some .cell\/X.env.scope.names.lookup x=some .free:=hx.elim (fun z=>.inl (by simpa using z)) fun z=>.inr (by simpa using z);obtain⟨m,_,hl⟩:=I.loc;obtain⟨u,r,l⟩:=hl _ x v e1' e2' (.inr hx2);refine⟨u,r,?_⟩;obtain⟨c',hc'⟩:=JQ (cells:=X.env.cells) (cs:=[]) q;rcases l with ⟨k,_⟩|⟨k,c,hc,o,ho,hd⟩
   .have k':X.env.scope.names.lookup x=some .local:=k
    rcases hx2 with z|z<;>(rw[k'] at z; cases z)
   .have ec:=sub x c' hc'
    have ec':c'=c:=Option.some.inj (ec.symm.trans hc);rw[ec'] at hc';refine .inr ⟨?_,c,hc',o,hk c o ho,hd⟩;rcases e3 with z|z
    .rcases Cn z with z|z
     .rw[q] at z; cases z
     .cases z.1
    .exact z
 .obtain⟨v,o,ho,hd⟩:=I.cell x c (sub x c e)
  exact⟨v,o,hk c o ho,hd⟩
 .have hp':p∈X.pn++pins:=by simpa using hp
  obtain⟨e,n,ne,nf,d⟩:=I.pin p hp';refine⟨hk _ _ e,n,ltS e,fun hz=>?_,d⟩;rcases List.mem_cons.mp (I.stkSub p.1 hz) with z|z
  .exact ne z
  .exact nf z
 .show(List.replicate own.length none++σ).length=(own++X.N).length
  rw[List.length_append,List.length_replicate,List.length_append,I.len]
theorem Fj{own:List Str}{scope:Scope}{fp:List Addr}{cl:List (Str×Addr)}{fn:Str->Bool}{σ':St}{H':Hp}{s':Shared}{h':Heap}(I:Inv X pins σ H s)(f2:∀b∈fp,Ep X pins H b)(J:Inv (cxD X own scope s.heap.objs.size cl fn s H fp pins) [] σ' H' s')(hs:Heap.SameBut s.heap.objs.size s'.heap h'):Inv X pins σ H' { s' with heap:=h' }:=by
 have lt:∀{b:Addr} {o:Obj},s.heap.get? b=some o->b≠s.heap.objs.size:=fun e=>Nat.ne_of_lt (Heap.lt_size e);have hC:H' s.heap.objs.size=none:=J.free;have u:=J.base;refine I.call' (s':={ s' with heap:=h' }) (ch:=fp) J.os ⟨fun b o e n hb hx=>(hs.2 b (lt e)).trans (u.keep b o e n hb hx),fun b o e n hb hx=>?_,u.free,fun b o e hx=>?_,u.tups,u.frzs,u.tbls⟩ (fun b o e=>?_) J.bare fun b hb=>?_
 .obtain⟨sl,q⟩:=u.slot b o e n hb hx
  exact⟨sl,(hs.2 b (lt e)).trans q⟩
 .obtain⟨o',q⟩:=u.there b o e hx
  exact⟨o',(hs.2 b (lt e)).trans q⟩
 .refine(J.hok b o e).stay (fun c w' hc q=>(hs.2 c ?_).trans q) (fun _ q=>q) fun _ _ q=>q
  rintro rfl;rcases hc with z|z
  .rw[<- z,hC] at e; cases e
  .rw[hC] at z; cases z
 .obtain⟨_,f1,_,f4,f5,f6⟩:=f2 b hb
  exact⟨f4,f1,f5,f6⟩
theorem Q4{own:List Str}{scope:Scope}{fp:List Addr}{it:Addr}{tn:Nat->Heap->Prop}{J:It}{target iter elt:Expr}{ifs:List Expr}{pos:Pos}{un:TU}{tc:TT}{te:TE}{acc:Addr}{Q:VK}{R:Result->Shared->Prop}{cl:List (Str×Addr)}{fn:Str->Bool}{h1:Heap}{t1:Nat}(hc:X.calm=true)(hg:PGo (cxD X own scope s.heap.objs.size cl fn s H fp pins) target own.length un)(ht:PTs (cxD X own scope s.heap.objs.size cl fn s H fp pins) ifs tc)(he:PE (cxD X own scope s.heap.objs.size cl fn s H fp pins) elt te)(I:Inv X pins σ H s)(T:Turn X.prog X.w X.K target J fp it tn)(st:tn 0 s.heap)(f2:∀b∈fp,Ep X pins H b)(W:Nat->Nat->List V->Hp->Prop)(w0:∃m,W 0 m [] H)(turn:∀i m ys H,W i m ys H->H acc=some (.lst ys) /\
   ((J.stop i H/\Q (.ref acc) H)\/(J.go i H/\∀x H',J.yld i H x H'->∃vs,un x H' vs/\tc (vs.map some++σ) H' fun b H3 =>
    if b=true then te (vs.map some++σ) H3 fun v H4=>H4 acc=some (.lst ys)/\ys.length<sizeLine/\∃m',m'<m/\W (i+1) m' (ys++[v]) (upd H4 acc (.lst (ys++[v])))
    else ∃m',m'<m/\W (i+1) m' ys H3)))(fin:∀s' σ' H',Inv (cxD X own scope s.heap.objs.size cl fn s H fp pins) [] σ' H' s'->Q (.ref acc) H'->R (.ok .next) s')(hk:∀b o,s.heap.get? b=some o->h1.get? b=some o)(I0:Inv (cxD X own scope s.heap.objs.size cl fn s H fp pins) [] (List.replicate own.length none++σ) H { s with heap:=h1,toks:=t1 }):
  codeAny (model X.prog X.w) X.A (.compStart (.ListComp elt [⟨target,iter,ifs,0⟩] scope pos) 0 (.ref it) (.ref acc) (compEnvC scope cl s.heap.objs.size X.env)) R { s with heap:=h1,toks:=t1 }:=by
 have st1:tn 0 h1:=T.keep _ _ _ st fun b _ o e=>hk b o e;have stat:∀{H':Hp},(∀b∈fp,H' b=none)->∀b∈fp,Ep (cxD X own scope s.heap.objs.size cl fn s H fp pins) [] H' b:=fun hn b hb=>by
  obtain⟨_,f1,f3,_,f5,f6⟩:=f2 b hb;obtain⟨o,e,_⟩:=T.obj _ _ st b hb;refine⟨hn b hb,Nat.ne_of_lt (Heap.lt_size e),fun hz=>?_,.inl hb,(I0.ok.exf b hb).2,fun p hp=>f6 p (by simpa using hp)⟩;rcases List.mem_cons.mp (I.stkSub b hz) with z|z
  .exact f1 z
  .exact f3 z
 have loop:∀s4,s4={ s with heap:=h1,toks:=t1 }->codeAny (model X.prog X.w) X.A (.compLoop (.ListComp elt [⟨target,iter,ifs,0⟩] scope pos) 0 (.ref it) (.ref acc) (compEnvC scope cl s.heap.objs.size X.env)) R s4:=by
  rintro s4 rfl;obtain⟨m0,w0⟩:=w0;refine HK (fun n s'=>∃i ys σ0 H',σ0.length=own.length/\Inv (cxD X own scope s.heap.objs.size cl fn s H fp pins) [] (σ0++σ) H' s'/\tn i s'.heap/\(∀b∈fp,H' b=none)/\W i n ys H') ?_ m0 ⟨0,[],_,H,by rw[List.length_replicate],I0,st1,fun b hb=>(f2 b hb).1,w0⟩;rintro n s3 ⟨i,ys,σ0,H3,hl3,I3,st3,fr3,w3⟩;obtain⟨ha,turn3⟩:=turn i n ys H3 w3;rcases turn3 with ⟨stop,qn⟩|⟨go,step⟩
  .refine thn (T.done (cxD X own scope s.heap.objs.size cl fn s H fp pins) rfl rfl rfl hc i [] s3 _ H3 _ I3 (stat fr3) st3 stop) fun r s4 yy=>?_
   obtain⟨hr,I4⟩:=yy;subst hr;exact fin s4 _ H3 I4 qn
  .refine thn (T.item (cxD X own scope s.heap.objs.size cl fn s H fp pins) rfl rfl rfl hc i [] s3 _ H3 _ I3 (stat fr3) st3 go) fun r s4 yy=>?_
   obtain⟨u,hr,h4⟩:=yy;subst hr;refine thn h4 fun _ s5 yy=>?_;obtain⟨x,H5,I5,r5,y5,st5,fr5⟩:=yy;obtain⟨vs,hu,q5⟩:=step x H5 y5;have I5':=I5.pinned (stat fr5) (T.obj _ _ st5);have again:∀{H7:Hp} {s7:Shared},vs.length=own.length->Inv (cxD X own scope s.heap.objs.size cl fn s H fp pins) ([]++G9 fp s5.heap) (vs.map some++σ) H7 s7->∀{ys'},(∃m',m'<n/\W (i+1) m' ys' H7) ->
     ∃m,m<n/\∃i ys σ0 H',σ0.length=own.length/\Inv (cxD X own scope s.heap.objs.size cl fn s H fp pins) [] (σ0++σ) H' s7/\tn i s7.heap/\(∀b∈fp,H' b=none)/\W i m ys H':=fun {H7 s7} hl I7 {ys'} ⟨m',hm,w7⟩=>by
    refine⟨m',hm,i+1,ys',vs.map some,H7,by rw[List.length_map,hl],I7.unpinned,T.keep _ _ _ st5 fun b hb o e=>(I7.pin (b,o) (List.mem_append_right _ (List.mem_append_right _ (Dt hb e)))).1,fun b hb=>?_,w7⟩;obtain⟨o,e,d⟩:=T.obj _ _ st5 b hb;exact(I7.pin (b,o) (List.mem_append_right _ (List.mem_append_right _ (Dt hb e)))).2.1
   refine thn (hg _ s5 σ0 σ H5 x u vs hl3 I5' r5 hu) fun _ s6 yy=>?_;obtain⟨hl,I6⟩:=yy;refine thn (ht _ s6 _ H5 _ I6 q5) fun ok s7 yy=>?_;obtain⟨H7,I7,q7⟩:=yy;cases ok with
   | false =>
    rw[if_neg Bool.false_ne_true] at q7;rw[if_neg Bool.false_ne_true];exact again hl I7 q7
   | true =>
    rw[if_pos rfl] at q7;rw[if_pos rfl];refine thn (he _ s7 _ H7 _ I7 q7) fun v s8 yy=>?_;obtain⟨y,H8,I8,r8,ha8,hz8,q8⟩:=yy;refine thn (FK _ s8 _ H8 (.ref acc) [y] (.ref acc) [v] (fun _ H9=>∃m',m'<n/\W (i+1) m' (ys++[y]) H9) I8 rfl (.cons r8 .nil) ⟨acc,ys,y,rfl,rfl,ha8,hz8,q8⟩) fun _ s9 yy=>?_;obtain⟨_,H9,I9,_,q9⟩:=yy;exact again hl I9 q9
 exact codeAny_compStart_list (loop _ rfl) (T.self X.A 0 _ _ _ st1 (loop _ rfl))
theorem Jx{own:List Str}{scope:Scope}{fp:List Addr}{it:Addr}{tn:Nat->Heap->Prop}{J:It}{target iter elt:Expr}{ifs:List Expr}{pos:Pos}{un:TU}{tc:TT}{te:TE}{acc:Addr}{Q:VK}{R:Result->Shared->Prop}{E:Value->Shared->Prop}(hc:X.calm=true)(hok:BR own X.N scope X.env.scope=true)(hg:∀C s H fp pins,PGo (cxC X own scope C s H fp pins) target own.length un)(ht:∀C s H fp pins,PTs (cxC X own scope C s H fp pins) ifs tc)(he:∀C s H fp pins,PE (cxC X own scope C s H fp pins) elt te)(I:Inv X pins σ H s)(T:Turn X.prog X.w X.K target J fp it tn)(st:tn 0 s.heap)(f2:∀b∈fp,Ep X pins H b)(W:Nat->Nat->List V->Hp->Prop)(w0:∃m,W 0 m [] H)(turn:∀i m ys H,W i m ys H->H acc=some (.lst ys) /\
   ((J.stop i H/\Q (.ref acc) H)\/(J.go i H/\∀x H',J.yld i H x H'->∃vs,un x H' vs/\tc (vs.map some++σ) H' fun b H3 =>
    if b=true then te (vs.map some++σ) H3 fun v H4=>H4 acc=some (.lst ys)/\ys.length<sizeLine/\∃m',m'<m/\W (i+1) m' (ys++[v]) (upd H4 acc (.lst (ys++[v])))
    else ∃m',m'<m/\W (i+1) m' ys H3)))(fin:∀s' σ' H',Inv (cxC X own scope s.heap.objs.size s H fp pins) [] σ' H' s'->Q (.ref acc) H'->R (.ok .next) s'):
  wpAny (model X.prog X.w) X.A (newFunctionEnv scope X.env.globals (clo X.env.cells scope.names []) [] X.env.qual none .none (some X.env)) (fun cenv s₄ =>
   cenv.locals=s.heap.objs.size/\codeAny (model X.prog X.w) X.A (.compStart (.ListComp elt [⟨target,iter,ifs,0⟩] scope pos) 0 (.ref it) (.ref acc) { cenv with scope:=relabel scope X.env }) R s₄) E s:=by
 have hcell:∀x∈scope.names,x.2≠.cell:=fun x hx z=>by
  simp only[BR,Bool.and_eq_true,List.all_eq_true] at hok;have:=(hok.1.1.2 x hx).1.1;rw[z] at this;simp at this
 have hkind:scope.kind=.function:=by
  simp only[BR,Bool.and_eq_true] at hok;simpa using hok.1.2
 refine wpAny_newFunctionEnv hcell (fun x hx=>by simp at hx) (fun h1 hns hsb=>⟨rfl,?_⟩) hkind;have hk:∀b o,s.heap.get? b=some o->h1.get? b=some o:=fun b o e=>(hsb.2 b (Nat.ne_of_lt (Heap.lt_size e))).trans (Heap.get?_push_of_some _ e);have I0:Inv (cxC X own scope s.heap.objs.size s H fp pins) [] (List.replicate own.length none++σ) H { s with heap:=h1,toks:=s.toks+([]:List (Str×Value)).length }:=
  Js hok I f2 (fun b hb=>let⟨o,e,_⟩:=T.obj _ _ st b hb; ⟨o,e⟩) (by simpa using hns) hk
 exact Q4 (iter:=iter) (pos:=pos) hc (hg _ _ _ _ _) (ht _ _ _ _ _) (he _ _ _ _ _) I T st f2 W w0 turn fin hk I0
end
section
variable{X:Cx}
theorem BR.names{own N:List Str}{scope sco:Scope}(hok:BR own N scope sco=true):∀x∈scope.names,x.2=.local->scope.names.lookup x.1=some .local:=fun x hx hl=>by
 simp only[BR,Bool.and_eq_true,List.all_eq_true] at hok;have:=(hok.1.1.2 x hx).2;rw[hl] at this;simpa using this
theorem BR.kind{own N:List Str}{scope sco:Scope}(hok:BR own N scope sco=true):scope.kind=.function:=by
 simp only[BR,Bool.and_eq_true] at hok;simpa using hok.1.2
theorem To{own:List Str}{scope:Scope}{target iter elt:Expr}{ifs:List Expr}{pos:Pos}{wi:TI}{un:TU}{tc:TT}{te:TE}(hc:X.calm=true)(hok:BR own X.N scope X.env.scope=true)(hi:PI X target iter wi)(hg:∀C s H fp pins,PGo (cxC X own scope C s H fp pins) target own.length un)(ht:∀C s H fp pins,PTs (cxC X own scope C s H fp pins) ifs tc)(he:∀C s H fp pins,PE (cxC X own scope C s H fp pins) elt te)(hs:∀x,foldedSetIterable iter X.env x=pure x:=by intro _; rfl):PE X (.ListComp elt [⟨target,iter,ifs,0⟩] scope pos) (tLc wi un tc te):=by
 intro pins s σ H Q I h;rw[eval_ListComp];refine wpAny_comprehension_free (use:=none) rfl hs (JU (BR.free hok I)) (BR.kind hok) (BR.names hok) ?_;refine thn (hi pins s σ H _ I h) fun v s1 h1=>thn h1 fun itv s2 h2=>?_;obtain⟨it,fp,tn,J,H2,e,I2,T,st2,f2,q⟩:=h2;subst e;obtain⟨W,w0,turn⟩:=q s2.heap.objs.size I2.fresh;refine wpAny_newObj_type (hd:=by size_fits) ?_;have I3:Inv X pins σ (upd H2 s2.heap.objs.size (.lst [])) { s2 with heap:=s2.heap.push { cls:=.type "list",data:=.seq ([]:List Value).toArray } }:=I2.lnew (its:=[]) (t':=s2.toks) .nil (Nat.zero_le _);have st3:tn 0 (s2.heap.push { cls:=.type "list",data:=.seq ([]:List Value).toArray }):=T.keep _ _ _ st2 fun b _ o e=>Heap.get?_push_of_some _ e;have f3:∀b∈fp,Ep X pins (upd H2 s2.heap.objs.size (.lst [])) b:=fun b hb=>by
  obtain⟨o,e,_⟩:=T.obj _ _ st2 b hb;exact⟨by rw[Au (Nat.ne_of_lt (Heap.lt_size e))]; exact(f2 b hb).1,(f2 b hb).2⟩
 refine thn (Jx (iter:=iter) (pos:=pos) (R:=compPost (model X.prog X.w) X.A X.xe none (EP X pins σ Q) (.ref s2.heap.objs.size) (s2.heap.push { cls:=.type "list",data:=.seq ([]:List Value).toArray }).objs.size) hc hok hg ht he I3 T st3 f3 W w0 turn fun s' σ' H' J' q'=>?_) fun cenv s4 ⟨el,h4⟩=>?_
 .obtain⟨m,hn,_⟩:=J'.loc
  exact⟨m,hn,fun h' hs'=>⟨.ref s2.heap.objs.size,H',Fj I3 f3 J' hs',rfl,q'⟩⟩
 .have el':cenv.locals=(s2.heap.push { cls:=.type "list",data:=.seq ([]:List Value).toArray }).objs.size:=el
  rw[<- el'] at h4;exact h4
end
noncomputable def Its(x:Str):It:=⟨fun i _=>i<x.cps.size,fun i H v H'=>H'=H/\∃c,x.cps[i]? = some c/\v=.str ⟨#[c]⟩,fun i _=>x.cps.size<=i⟩
theorem Heap.IsStrIter.at'{h h':Heap}{a ty x t i}(y:h.IsStrIter a ty x t i)(e:∀o,h.get? a=some o->h'.get? a=some o):h'.IsStrIter a ty x t i:=let⟨o,ho,r⟩:=y; ⟨o,e _ ho,r⟩
theorem Rl{P:Program}{w:World}{K:Frag}{tg:Expr}(it:Addr)(x:Str)(t:Tok)(ty:String)(hty:ty = "str_ascii_iterator" \/ ty = "str_iterator"):Turn P w K tg (Its x) [it] it (fun i h=>h.IsStrIter it ty x t i) where
 mem:=by simp
 obj:=fun i h st b hb=>by
  have e:b=it:=by simpa using hb
  subst e;obtain⟨o,e,c,d⟩:=st;exact⟨o,e,fun v z=>by rw[d] at z; cases z⟩
 keep:=fun i h h' st k=>Heap.IsStrIter.at' st fun o e=>k it (by simp) o e
 item:=by
  intro X hP hw hK hc i pins s σ H E I hf st hg;subst hP hw hK;have hg':i<x.cps.size:=hg;have hx:x.cps[i]? = some x.cps[i]:=by simp[hg']
  obtain⟨f0,f1,f2,f3,f4,f5⟩:=hf it (by simp);have fin:∀h',h'.IsStrIter it ty x t (i+1)->Heap.SameBut it s.heap h'->∃u,some (Value.str ⟨#[x.cps[i]]⟩ s.toks)=some u /\
    wpAny (model X.prog X.w) X.A (letOwnedTupleGo tg (.ref it) u) (fun _ s2=>∃y H',Inv X pins σ H' s2/\RelV y u/\(Its x).yld i H y H'/\s2.heap.IsStrIter it ty x t (i+1)/\∀b∈[it],H' b=none) E { s with heap:=h',toks:=s.toks+1 }:=fun h' st' sb=>by
   have I1:Inv X pins σ H { s with heap:=h',toks:=s.toks+1 }:=I.turned (fun b o hb e=>(sb.2 b hb).trans e) f0 f1 f3 f4 f5;obtain⟨o,e,c,d⟩:=id st';exact⟨_,rfl,Ll (s:={ s with heap:=h',toks:=s.toks+1 }) e c d (by rcases hty with rfl|rfl<;>decide) ⟨.str ⟨#[x.cps[i]]⟩,H,I1,⟨_,rfl⟩,⟨rfl,_,hx,rfl⟩,st',fun b hb=>(hf b hb).1⟩⟩
  rcases hty with rfl|rfl
  .exact wpAny_pyNext_ascii_item st hx fin
  .exact wpAny_pyNext_wide_item st hx fin
 done:=by
  intro X hP hw hK hc i pins s σ H E I hf st hg;subst hP hw hK;have hg':x.cps.size<=i:=hg;have hx:x.cps[i]? = none:=by simp[hg']
  obtain⟨f0,f1,f2,f3,f4,f5⟩:=hf it (by simp);rcases hty with rfl|rfl
  .exact wpAny_pyNext_ascii_end (I.ok.hd hc) st hx fun h' eb=>⟨rfl,I.turned (t':=s.toks) (fun b o hb e=>eb b o hb e) f0 f1 f3 f4 f5⟩
  .exact wpAny_pyNext_wide_end (I.ok.hd hc) st hx fun h' eb=>⟨rfl,I.turned (t':=s.toks) (fun b o hb e=>eb b o hb e) f0 f1 f3 f4 f5⟩
 self:=fun _ _ _ _ _ st h=>by
  rcases hty with rfl|rfl
  .exact wpAny_pyIter_striter_ascii st h
  .exact wpAny_pyIter_striter_wide st h
section
variable{X:Cx}{tg:Expr}
noncomputable def Ws(tl:TE):TI:=fun σ H R=>tl σ H fun x H1=>∃z,x=.str z/\R (Its z) H1
theorem Vm{l:Expr}{tl:TE}(hl:PE X l tl):PI X tg l (Ws tl):=by
 intro pins s σ H R I h;refine thn (hl pins s σ H _ I h) fun v s1 yy=>?_;obtain⟨x,H1,I1,r1,q1⟩:=yy;obtain⟨z,e,q⟩:=q1;subst e;obtain⟨t,rfl⟩:=r1;have fin:∀ty:String,(ty = "str_ascii_iterator" \/ ty = "str_iterator")->PIE X pins σ tg R (.ref s1.heap.objs.size) { s1 with heap:=s1.heap.push { cls:=.type ty,data:=.fields #[.str z t,.int 0 0] } }:=fun ty hty=>by
  have I2:Inv X pins σ H1 { s1 with heap:=s1.heap.push { cls:=.type ty,data:=.fields #[.str z t,.int 0 0] } }:=I1.kept (t':=s1.toks) fun b o e=>Heap.get?_push_of_some _ e;refine⟨_,[s1.heap.objs.size],_,Its z,H1,rfl,I2,Rl _ z t ty hty,⟨_,Heap.get?_push_size _ rfl,rfl,rfl⟩,fun b hb=>?_,q⟩;have e:b=s1.heap.objs.size:=by simpa using hb
  subst e;exact I1.fpOk (Nat.le_refl _) (I1.hok.fresh (Nat.le_refl _))
 by_cases ha:z.cps.all (· < 128)=true
 .exact wpAny_pyIter_ascii ha (fin _ (.inl rfl))
 .exact wpAny_pyIter_wide (by simpa using ha) (fin _ (.inr rfl))
end
section
variable{X:Cx}
noncomputable def GP(bs:List Bool):List V:=bs.map V.bl
theorem DX(hc:X.calm=true):B1 X (.builtin "all") (fun xs H Q=>∃p bs,xs=[.ref p]/\SqL X.K H p (GP bs)/\Q (.bl (bs.all id)) H):=by
 intro pins s σ H xs us Q I r h;obtain⟨p,bs,rfl,hq,q⟩:=h;obtain⟨u,rfl,ru⟩:=r.one;cases ru;obtain⟨its,rv,pl,hz⟩:=I.list hq;have hl:=rv.length;refine call_all_walk (wpAny_pyIter_list pl.isList ?_);have hne:p≠s.heap.objs.size:=fun z=>by
  obtain⟨o,e,_⟩:=pl.isList;exact absurd (Heap.lt_size e) (by rw[z]; exact Nat.lt_irrefl _)
 have hlen:its.toArray.size=bs.length:=by rw[List.size_toArray,<- hl]; simp[GP]
 refine⟨_,_,_,_,_,_,fun i=>(bs[i]?).getD true,rfl,Walks.list (by show X.A.handled=none; exact I.ok.hd hc) s.heap.objs.size p hne its.toArray,⟨⟨_,Heap.get?_push_size _ rfl,rfl,rfl⟩,?_⟩,?_,?_⟩
 .obtain⟨o,e,r⟩:=pl.isList
  exact⟨o,Heap.get?_push_of_some _ e,r⟩
 .intro i v s' Q' E' hv hq'
  have hi:i<its.length:=by
   by_cases hi:i<its.length
   .exact hi
   .have:its.toArray[i]? = none:=by simp; lia
    rw[this] at hv; cases hv
  have hb:i<bs.length:=by simp[GP] at hl; lia
  obtain⟨u,hu,ru⟩:=rv.get (i:=i) (x:=.bl bs[i]) (by simp[GP,hb]);have e:v=.bool bs[i]:=by
   have:its.toArray[i]? = some u:=by simpa using hu
   rw[this] at hv;cases hv;exact ru
  subst e;dsimp only at hq';rw[show(bs[i]?).getD true=bs[i] by simp[hb]] at hq';exact wpAny_truthy_bool hq'
 .intro h' tk hk
  have I1:Inv X pins σ H { s with heap:=h',toks:=tk }:=I.kept fun b o e=>hk b o (fun z=>by
   have z':b=s.heap.objs.size:=by simpa using z
   exact absurd (Heap.lt_size e) (by rw[z']; exact Nat.lt_irrefl _)) (Heap.get?_push_of_some _ e)
  refine⟨.bl _,H,I1,rfl,?_⟩;have e:(List.range its.toArray.size).all (fun i=>(bs[i]?).getD true)=bs.all id:=by
   rw[hlen,Bool.eq_iff_iff];simp only[List.all_eq_true,List.mem_range,id_eq];constructor
   .intro h b hb
    obtain⟨i,hi,rfl⟩:=List.mem_iff_getElem.mp hb;have:=h i hi;simpa[hi] using this
   .intro h i hi
    simpa[hi] using h bs[i] (List.getElem_mem hi)
  rw[e];exact q
end
section
variable{X:Cx}{e:Expr}{te:TE}{p q pos:Pos}{x:Str}{T:String}
noncomputable def Me(H:Hp):V->Option String
 | .non=>some "NoneType"
 | .bl _=>some "bool"
 | .int _=>some "int"
 | .str _=>some "str"
 | .ref a=>match H a with
  | some (.lst _)=>some "list"
  | some (.tup _)=>some "tuple"
  | _=>none
 | _=>none
theorem S3{K:Frag}{H:Hp}{v:V}{t:String}(h:Me H v=some t):TyOf K H v (.type t):=by
 cases v with
 | non=>cases h; exact .non
 | bl b=>cases h; exact .bl b
 | int i=>cases h; exact .int i
 | str z=>cases h; exact .str z
 | ref a =>
  unfold Me at h;dsimp only at h;split at h
  .rename_i e; cases h; exact .lst e
  .rename_i e; cases h; exact .tup e
  .cases h
 | _=>cases h
end
inductive RepA (N:Addr->Prop) (H:Hp):V->D->Prop where
 | non:RepA N H .non .non
 | bl (b:Bool):RepA N H (.bl b) (.bl b)
 | int (i:Int):RepA N H (.int i) (.int i)
 | str (x:Str) (hx:x.length<=sizeLine):RepA N H (.str x) (.str x)
 | lst {a:Addr} {vs:List V} {ds:List D} (h:H a=some (.lst vs)) (hz:vs.length<=sizeLine) (hn:¬N a) (hl:vs.length=ds.length) (hr:∀(i:Nat) v d,vs[i]? = some v->ds[i]? = some d->RepA N H v d):RepA N H (.ref a) (.lst ds)
 | tup {a:Addr} {vs:List V} {ds:List D} (h:H a=some (.tup vs)) (hz:vs.length<=sizeLine) (hl:vs.length=ds.length) (hr:∀(i:Nat) v d,vs[i]? = some v->ds[i]? = some d->RepA N H v d):RepA N H (.ref a) (.tup ds)
noncomputable abbrev Rep:=RepA fun _=>False
noncomputable def We(N:Addr->Prop)(H H':Hp):Prop:=∀b o,¬N b->H b=some o->H' b=some o
theorem RepA.same{N:Addr->Prop}{H H':Hp}(k:We N H H')(t:∀b xs,H b=some (.tup xs)->H' b=some (.tup xs)){v:V}{d:D}(r:RepA N H v d):RepA N H' v d:=by
 induction r with
 | non=>exact .non
 | bl b=>exact .bl b
 | int i=>exact .int i
 | str x hx=>exact .str x hx
 | lst h hz hn hl _ ih=>exact .lst (k _ _ hn h) hz hn hl fun i v d e1 e2=>ih i v d e1 e2
 | tup h hz hl _ ih=>exact .tup (t _ _ h) hz hl fun i v d e1 e2=>ih i v d e1 e2
theorem RepA.weak{N N':Addr->Prop}{H:Hp}(hn:∀a,N' a->N a){v:V}{d:D}(r:RepA N H v d):RepA N' H v d:=by
 induction r with
 | non=>exact .non
 | bl b=>exact .bl b
 | int i=>exact .int i
 | str x hx=>exact .str x hx
 | lst h hz n hl _ ih=>exact .lst h hz (fun z=>n (hn _ z)) hl ih
 | tup h hz hl _ ih=>exact .tup h hz hl ih
theorem RepA.rep{N:Addr->Prop}{H:Hp}{v:V}{d:D}(r:RepA N H v d):Rep H v d:=r.weak fun _ z=>z.elim
theorem RepA.inj{N N':Addr->Prop}{H:Hp}{v:V}{d e:D}(r:RepA N H v d)(q:RepA N' H v e):d=e:=by
 induction r generalizing e with
 | non=>cases q; rfl
 | bl b=>cases q; rfl
 | int i=>cases q; rfl
 | str x=>cases q; rfl
 | lst h hz hn hl hr ih =>
  cases q with
  | lst h' hz' hn' hl' hr' =>
   rw[h] at h'; cases h';congr 1;refine List.ext_getElem? fun i=>?_;rename_i vs ds es;by_cases hi:i<vs.length
   .have e1:ds[i]? = some ds[i]:=by simp[<- hl,hi]
    have e2:es[i]? = some es[i]:=by simp[<- hl',hi]
    rw[e1,e2,ih i vs[i] ds[i] (by simp[hi]) e1 (hr' i vs[i] es[i] (by simp[hi]) e2)]
   .rw[List.getElem?_eq_none (by omega),List.getElem?_eq_none (by omega)]
  | tup h'=>rw[h] at h'; cases h'
 | tup h hz hl hr ih =>
  cases q with
  | tup h' hz' hl' hr' =>
   rw[h] at h'; cases h';congr 1;refine List.ext_getElem? fun i=>?_;rename_i vs ds es;by_cases hi:i<vs.length
   .have e1:ds[i]? = some ds[i]:=by simp[<- hl,hi]
    have e2:es[i]? = some es[i]:=by simp[<- hl',hi]
    rw[e1,e2,ih i vs[i] ds[i] (by simp[hi]) e1 (hr' i vs[i] es[i] (by simp[hi]) e2)]
   .rw[List.getElem?_eq_none (by omega),List.getElem?_eq_none (by omega)]
  | lst h'=>rw[h] at h'; cases h'
structure Def (P:Program) (w:World) (K:Frag) (mg:Str->Option Value) (base:Heap) (CX:CXT) (k:Nat) (x:Str) (ps:List Str) (sp:Sp):Prop where
 ex:∃(f:Addr) (fd:FuncData),mg x=some (.ref f)/\PySem.W.keepIn K (.ref f)=true/\Binds K fd ps []/\FnOk P w K mg base CX k f fd ps sp
theorem Def.mono{P:Program}{w:World}{K:Frag}{mg:Str->Option Value}{base:Heap}{CX:CXT}{j k:Nat}{x:Str}{ps:List Str}{sp:Sp}(D:Def P w K mg base CX j x ps sp)(h:j<=k):Def P w K mg base CX k x ps sp:=
 let⟨f,fd,a,b,c,d⟩:=D.ex; ⟨f,fd,a,b,c,d.mono h⟩
section
variable{X:Cx}
theorem MW{CX:CXT}{k j:Nat}{x:Str}{ps:List Str}{sp:Sp}{E:XK}{p pos:Pos}{e:Expr}{es:List Expr}{t:TA}(D:Def X.prog X.w X.K X.mg X.base CX k x ps sp)(hr:Room j X.A)(hkj:k<=j)(hx:Passes CX X E)(ha:PA X (e::es) t)(hg:Gl X x:=by rfl)(hdb:(x==("__debug__" : Str))=false:=by decide +kernel)(he:starEach (e::es) X.env=(false,eval e X.env)::starEach es X.env:=by rfl)(hpl:(backTo pos (starEach es X.env)).any (·.1)=false:=by rfl):PE X (.Call (.Name x p) (e::es) [] pos) (Jz sp [] E t):=by
 obtain⟨f,fd,a,b,c,d⟩:=D.ex;exact Sm d (hr.mono hkj) hg a b c .nil hx ha hdb he hpl
end
noncomputable def isI(t T:String):Bool:=t==T || (t == "bool" && T == "int")
theorem Ou{K:Frag}{t T:String}(ht:t∈["NoneType","bool","int","str","list","tuple"])(hT:T∈["int","bool","tuple","list","str"]):PySem.W.kitOne K (.type t) (.type T)=some (isI t T):=by
 simp only[List.mem_cons,List.not_mem_nil,or_false] at ht hT;rcases ht with rfl|rfl|rfl|rfl|rfl|rfl<;>rcases hT with rfl|rfl|rfl|rfl|rfl <;>
  kernel_rfl
theorem Rm{H:Hp}{v:V}{t:String}(h:Me H v=some t):t∈["NoneType","bool","int","str","list","tuple"]:=by
 cases v with
 | non=>cases h; simp
 | bl b=>cases h; simp
 | int i=>cases h; simp
 | str z=>cases h; simp
 | ref a =>
  unfold Me at h;dsimp only at h;split at h
  .cases h; simp
  .cases h; simp
  .cases h
 | _=>cases h
section
variable{X:Cx}
theorem Ph:B1 X (.builtin "isinstance") (fun xs H Q=>∃x t T,xs=[x,.ty T]/\Me H x=some t/\T∈["int","bool","tuple","list","str"]/\Q (.bl (isI t T)) H):=by
 intro pins s σ H xs us Q I r h;obtain⟨x,t,T,rfl,ht,hT,q⟩:=h;obtain⟨u,v,rfl,ru,rv⟩:=r.two;cases rv;exact Om I ru (S3 ht) (Ou (Rm ht) hT) fun tk=>⟨.bl _,H,I.tok tk,rfl,q⟩
end
noncomputable def FU:D->String
 | .non => "NoneType"
 | .bl _ => "bool"
 | .int _ => "int"
 | .str _ => "str"
 | .lst _ => "list"
 | .tup _ => "tuple"
theorem RepA.typ{N:Addr->Prop}{H:Hp}{v:V}{d:D}(r:RepA N H v d):Me H v=some (FU d):=by
 cases r with
 | non=>rfl
 | bl b=>rfl
 | int i=>rfl
 | str x=>rfl
 | lst h=>simp only[Me,h,FU]
 | tup h=>simp only[Me,h,FU]
mutual
noncomputable def eqD:D->D->Bool
 | .non,.non=>true
 | .bl a,.bl b=>a==b
 | .bl a,.int b=>(if a then 1 else 0)==b
 | .int a,.bl b=>a==(if b then 1 else 0)
 | .int a,.int b=>a==b
 | .str a,.str b=>a==b
 | .lst xs,.lst ys=>D9 xs ys
 | .tup xs,.tup ys=>D9 xs ys
 | _,_=>false
noncomputable def D9:List D->List D->Bool
 | [],[]=>true
 | x::xs,y::ys=>eqD x y&&D9 xs ys
 | _,_=>false
end
theorem HP(x y:List D):eqD (.lst x) (.lst y)=D9 x y:=rfl
theorem Hn(x y:List D):eqD (.tup x) (.tup y)=D9 x y:=rfl
theorem Hm(x y:Int):eqD (.int x) (.int y)=(x==y):=rfl
theorem Jq(x y:Str):eqD (.str x) (.str y)=(x==y):=rfl
theorem Lf(x y:Bool):eqD (.bl x) (.bl y)=(x==y):=rfl
theorem Mp(x y:D)(xs ys:List D):D9 (x::xs) (y::ys)=(eqD x y&&D9 xs ys):=rfl
theorem DA:∀{xs ys:List D},D9 xs ys=true->xs.length=ys.length
 | [],[],_=>rfl
 | [],_::_,h=>nomatch h
 | _::_,[],h=>nomatch h
 | x::xs,y::ys,h=>by
  rw[Mp,Bool.and_eq_true] at h;simp[DA h.2]
theorem Dz:∀{xs ys:List D},xs.length=ys.length->D9 xs ys=(List.range xs.length).all fun i=>eqD (xs.getD i .non) (ys.getD i .non)
 | [],[],_=>rfl
 | x::xs,y::ys,h=>by
  have ih:=Dz (xs:=xs) (ys:=ys) (by simpa using h);rw[Mp,ih,List.length_cons,List.range_succ_eq_map,List.all_cons,List.all_map];rfl
mutual
theorem Dy:∀d,eqD d d=true
 | .non=>rfl
 | .bl a=>by rw[Lf]; exact beq_self_eq_true a
 | .int a=>by rw[Hm]; exact beq_self_eq_true a
 | .str a=>by rw[Jq]; exact beq_self_eq_true a
 | .lst xs=>GR xs
 | .tup xs=>GR xs
theorem GR:∀ds,D9 ds ds=true
 | []=>rfl
 | d::ds=>by rw[Mp,Dy d,GR ds]; rfl
end
section
variable{P:Program}{w:World}{H:Hp}{s:Shared}{N N':Addr->Prop}
theorem A3(hok:HOk P w H s.heap){a:Addr}{vs:List V}(h:H a=some (.lst vs)):∃its:List Value,Vals vs its/\s.heap.IsList a its.toArray:=by
 obtain⟨z,its,n,r,e⟩:=hok a _ h;exact⟨its,r,_,e,rfl,_,rfl⟩
theorem Bi(hok:HOk P w H s.heap){a:Addr}{vs:List V}(h:H a=some (.tup vs)):∃its:List Value,Vals vs its/\s.heap.IsTuple a its.toArray:=by
 obtain⟨z,its,r,p⟩:=hok a _ h;exact⟨its,r,p⟩
theorem Ex{A:Around}{vs vs':List V}{its its':List Value}{ds es:List D}(r:Vals vs its)(r':Vals vs' its')(hl:vs.length=ds.length)(hl':vs'.length=es.length)(f:∀(i:Nat) v d v' e u u',vs[i]? = some v->ds[i]? = some d->vs'[i]? = some v'->es[i]? = some e->RelV v u->RelV v' u'->SeqAt.EqAt A s u u' (eqD d e)):
  ∀j (h1:j<its.toArray.size) (h2:j<its'.toArray.size),SeqAt.EqAt A s its.toArray[j] its'.toArray[j] (eqD (ds.getD j .non) (es.getD j .non)):=fun j h1 h2=>by
 have e1:=r.length;have e2:=r'.length;have h1':j<its.length:=by simpa using h1
 have h2':j<its'.length:=by simpa using h2
 have b1:j<vs.length:=by lia
 have b2:j<vs'.length:=by lia
 have b3:j<ds.length:=by lia
 have b4:j<es.length:=by lia
 obtain⟨u,hu,ru⟩:=r.get (i:=j) (x:=vs[j]) (by simp);obtain⟨u',hu',ru'⟩:=r'.get (i:=j) (x:=vs'[j]) (by simp);have q:=f j _ (ds[j]) _ (es[j]) u u' (by simp) (by simp) (by simp) (by simp) ru ru';have g1:its.toArray[j]=u:=by
  have:its[j]? = some (its[j]):=by simp[h1']
  rw[this] at hu;simpa using hu
 have g2:its'.toArray[j]=u':=by
  have:its'[j]? = some (its'[j]):=by simp[h2']
  rw[this] at hu';simpa using hu'
 rw[g1,g2];have g3:ds.getD j .non=ds[j]:=by simp[List.getD,b3]
 have g4:es.getD j .non=es[j]:=by simp[List.getD,b4]
 rw[g3,g4];exact q
theorem lt0{a n c:Nat}(h:a+n<c):a<c:=by lia
theorem lt1{a n c:Nat}(h:a+(n+1)<c):a+1+n<c:=by lia
theorem HN(hok:HOk P w H s.heap){x:V}{d:D}(r:RepA N H x d):∀{A:Around} {n:Nat} {y:V} {e:D} {v u:Value},RepA N' H y e->RelV x v->RelV y u->Sh n d->A.units+n<cLine->SeqAt.EqAt A s v u (eqD d e):=by
 induction r with
 | non =>
  intro A n y e v u q rx ry _ hu;cases rx;cases q with
  | non=>cases ry; exact SeqAt.EqAt.same _
  | bl b=>cases ry; exact SeqAt.EqAt.none_bool b
  | int b=>obtain⟨t,rfl⟩:=ry; exact SeqAt.EqAt.none_int b t
  | str b=>obtain⟨t,rfl⟩:=ry; exact SeqAt.EqAt.none_str b t
  | lst h=>cases ry; obtain⟨its,_,hl⟩:=A3 hok h; exact SeqAt.EqAt.none_list hl (lt0 hu)
  | tup h=>cases ry; obtain⟨its,_,hl⟩:=Bi hok h; exact SeqAt.EqAt.none_tuple hl (lt0 hu)
 | bl a =>
  intro A n y e v u q rx ry _ hu;cases rx;cases q with
  | non=>cases ry; exact SeqAt.EqAt.bool_none a
  | bl b=>cases ry; exact SeqAt.EqAt.bool_bool a b
  | int b=>obtain⟨t,rfl⟩:=ry; exact SeqAt.EqAt.bool_int a b t
  | str b=>obtain⟨t,rfl⟩:=ry; exact SeqAt.EqAt.bool_str a b t
  | lst h=>cases ry; obtain⟨its,_,hl⟩:=A3 hok h; exact SeqAt.EqAt.bool_list a hl (lt0 hu)
  | tup h=>cases ry; obtain⟨its,_,hl⟩:=Bi hok h; exact SeqAt.EqAt.bool_tuple a hl (lt0 hu)
 | int a =>
  intro A n y e v u q rx ry _ hu;obtain⟨t',rfl⟩:=rx;cases q with
  | non=>cases ry; exact SeqAt.EqAt.int_none a t'
  | bl b=>cases ry; exact SeqAt.EqAt.int_bool a t' b
  | int b=>obtain⟨t,rfl⟩:=ry; exact SeqAt.EqAt.int_int a t' b t
  | str b=>obtain⟨t,rfl⟩:=ry; exact SeqAt.EqAt.int_str a t' b t
  | lst h=>cases ry; obtain⟨its,_,hl⟩:=A3 hok h; exact SeqAt.EqAt.int_list a t' hl (lt0 hu)
  | tup h=>cases ry; obtain⟨its,_,hl⟩:=Bi hok h; exact SeqAt.EqAt.int_tuple a t' hl (lt0 hu)
 | str a =>
  intro A n y e v u q rx ry _ hu;obtain⟨t',rfl⟩:=rx;cases q with
  | non=>cases ry; exact SeqAt.EqAt.str_none a t'
  | bl b=>cases ry; exact SeqAt.EqAt.str_bool a t' b
  | int b=>obtain⟨t,rfl⟩:=ry; exact SeqAt.EqAt.str_int a t' b t
  | str b=>obtain⟨t,rfl⟩:=ry; exact SeqAt.EqAt.str_str a t' b t
  | lst h=>cases ry; obtain⟨its,_,hl⟩:=A3 hok h; exact SeqAt.EqAt.str_list a t' hl (lt0 hu)
  | tup h=>cases ry; obtain⟨its,_,hl⟩:=Bi hok h; exact SeqAt.EqAt.str_tuple a t' hl (lt0 hu)
 | @lst a vs ds h hz hn hl hr ih =>
  intro A n y e v u q rx ry hs hu;cases rx;obtain⟨its,rv,hil⟩:=A3 hok h;cases hs with
  | @lst n _ hs =>
   cases q with
   | non=>cases ry; exact SeqAt.EqAt.list_none hil (lt0 hu)
   | bl b=>cases ry; exact SeqAt.EqAt.list_bool b hil (lt0 hu)
   | int b=>obtain⟨t,rfl⟩:=ry; exact SeqAt.EqAt.list_int b t hil (lt0 hu)
   | str b=>obtain⟨t,rfl⟩:=ry; exact SeqAt.EqAt.list_str b t hil (lt0 hu)
   | @lst a' vs' es h' hz' hn' hl' hr' =>
    cases ry;by_cases hab:a=a'
    .subst hab
     have e:=(RepA.lst h hz hn hl hr).inj (RepA.lst h' hz' hn' hl' hr');cases e;rw[Dy];exact SeqAt.EqAt.same _
    .obtain⟨its',rv',hil'⟩:=A3 hok h'
     have l1:=rv.length;have l2:=rv'.length;refine SeqAt.EqAt.of_refs hab ?_;rw[HP];by_cases hlen:ds.length=es.length
     .rw[Dz hlen,show ds.length=its.toArray.size by simp; lia]
      refine SeqAt.RcAt.lists hil hil' (by simp; lia) (lt0 hu) (Ex rv rv' hl hl' fun i v d v' e u u' e1 e2 e3 e4 ru ru'=>?_);exact ih i v d e1 e2 (hr' i v' e e3 e4) ru ru' (hs d (List.mem_of_getElem? e2)) (lt1 hu)
     .have:D9 ds es=false:=by
       cases q:D9 ds es with
       | false=>rfl
       | true=>exact absurd (DA q) hlen
      rw[this];exact SeqAt.RcAt.lists_lengths hil hil' (by simp; lia) (lt0 hu)
   | tup h' =>
    cases ry;obtain⟨its',_,hl'⟩:=Bi hok h';exact SeqAt.EqAt.list_tuple hil hl' (lt0 hu)
 | @tup a vs ds h hz hl hr ih =>
  intro A n y e v u q rx ry hs hu;cases rx;obtain⟨its,rv,hil⟩:=Bi hok h;cases hs with
  | @tup n _ hs =>
   cases q with
   | non=>cases ry; exact SeqAt.EqAt.tuple_none hil (lt0 hu)
   | bl b=>cases ry; exact SeqAt.EqAt.tuple_bool b hil (lt0 hu)
   | int b=>obtain⟨t,rfl⟩:=ry; exact SeqAt.EqAt.tuple_int b t hil (lt0 hu)
   | str b=>obtain⟨t,rfl⟩:=ry; exact SeqAt.EqAt.tuple_str b t hil (lt0 hu)
   | @tup a' vs' es h' hz' hl' hr' =>
    cases ry;by_cases hab:a=a'
    .subst hab
     have e:=(RepA.tup (N:=N) h hz hl hr).inj (RepA.tup h' hz' hl' hr');cases e;rw[Dy];exact SeqAt.EqAt.same _
    .obtain⟨its',rv',hil'⟩:=Bi hok h'
     have l1:=rv.length;have l2:=rv'.length;refine SeqAt.EqAt.of_refs hab ?_;have q:=SeqAt.RcAt.tuples (A:=A) hil hil' (lt0 hu) (Ex rv rv' hl hl' fun i v d v' e u u' e1 e2 e3 e4 ru ru'=>ih i v d e1 e2 (hr' i v' e e3 e4) ru ru' (hs d (List.mem_of_getElem? e2)) (lt1 hu));rw[Hn];by_cases hlen:ds.length=es.length
     .have e1:(its.toArray.size==its'.toArray.size)=true:=by simp; lia
      have e2:min its.toArray.size its'.toArray.size=ds.length:=by simp; lia
      rw[e1,e2,Bool.and_true,<- Dz hlen] at q;exact q
     .have e1:(its.toArray.size==its'.toArray.size)=false:=by simp; lia
      have e3:D9 ds es=false:=by
       cases q:D9 ds es with
       | false=>rfl
       | true=>exact absurd (DA q) hlen
      rw[e1,Bool.and_false] at q;rw[e3];exact q
   | lst h' =>
    cases ry;obtain⟨its',_,hl'⟩:=A3 hok h';exact SeqAt.EqAt.tuple_list hil hl' (lt0 hu)
theorem Vx(hok:HOk P w H s.heap){A:Around}{n:Nat}{x y:V}{d e:D}{v u:Value}(r:RepA N H x d)(q:RepA N' H y e)(rx:RelV x v)(ry:RelV y u)(hs:Sh n d)(hu:A.units+n<cLine):SeqAt.RcAt A s v u (eqD d e):=by
 cases r with
 | non =>
  cases rx;cases q with
  | non=>cases ry; exact SeqAt.RcAt.none_none
  | bl b=>cases ry; exact SeqAt.RcAt.none_bool b
  | int b=>obtain⟨t,rfl⟩:=ry; exact SeqAt.RcAt.none_int b t
  | str b=>obtain⟨t,rfl⟩:=ry; exact SeqAt.RcAt.none_str b t
  | lst h=>cases ry; obtain⟨its,_,hl⟩:=A3 hok h; exact SeqAt.RcAt.none_list hl (lt0 hu)
  | tup h=>cases ry; obtain⟨its,_,hl⟩:=Bi hok h; exact SeqAt.RcAt.none_tuple hl (lt0 hu)
 | bl a =>
  cases rx;cases q with
  | non=>cases ry; exact SeqAt.RcAt.bool_none a
  | bl b=>cases ry; exact SeqAt.RcAt.bool_bool a b
  | int b=>obtain⟨t,rfl⟩:=ry; exact SeqAt.RcAt.bool_int a b t
  | str b=>obtain⟨t,rfl⟩:=ry; exact SeqAt.RcAt.bool_str a b t
  | lst h=>cases ry; obtain⟨its,_,hl⟩:=A3 hok h; exact SeqAt.RcAt.bool_list a hl (lt0 hu)
  | tup h=>cases ry; obtain⟨its,_,hl⟩:=Bi hok h; exact SeqAt.RcAt.bool_tuple a hl (lt0 hu)
 | int a =>
  obtain⟨t',rfl⟩:=rx;cases q with
  | non=>cases ry; exact SeqAt.RcAt.int_none a t'
  | bl b=>cases ry; exact SeqAt.RcAt.int_bool a t' b
  | int b=>obtain⟨t,rfl⟩:=ry; exact SeqAt.RcAt.int_int a t' b t
  | str b=>obtain⟨t,rfl⟩:=ry; exact SeqAt.RcAt.int_str a t' b t
  | lst h=>cases ry; obtain⟨its,_,hl⟩:=A3 hok h; exact SeqAt.RcAt.int_list a t' hl (lt0 hu)
  | tup h=>cases ry; obtain⟨its,_,hl⟩:=Bi hok h; exact SeqAt.RcAt.int_tuple a t' hl (lt0 hu)
 | str a =>
  obtain⟨t',rfl⟩:=rx;cases q with
  | non=>cases ry; exact SeqAt.RcAt.str_none a t'
  | bl b=>cases ry; exact SeqAt.RcAt.str_bool a t' b
  | int b=>obtain⟨t,rfl⟩:=ry; exact SeqAt.RcAt.str_int a t' b t
  | str b=>obtain⟨t,rfl⟩:=ry; exact SeqAt.RcAt.str_str a t' b t
  | lst h=>cases ry; obtain⟨its,_,hl⟩:=A3 hok h; exact SeqAt.RcAt.str_list a t' hl (lt0 hu)
  | tup h=>cases ry; obtain⟨its,_,hl⟩:=Bi hok h; exact SeqAt.RcAt.str_tuple a t' hl (lt0 hu)
 | @lst a vs ds h hz hn hl hr =>
  cases rx;obtain⟨its,rv,hil⟩:=A3 hok h;cases hs with
  | @lst n _ hs =>
   cases q with
   | non=>cases ry; exact SeqAt.RcAt.list_none hil (lt0 hu)
   | bl b=>cases ry; exact SeqAt.RcAt.list_bool b hil (lt0 hu)
   | int b=>obtain⟨t,rfl⟩:=ry; exact SeqAt.RcAt.list_int b t hil (lt0 hu)
   | str b=>obtain⟨t,rfl⟩:=ry; exact SeqAt.RcAt.list_str b t hil (lt0 hu)
   | @lst a' vs' es h' hz' hn' hl' hr' =>
    cases ry;obtain⟨its',rv',hil'⟩:=A3 hok h';have l1:=rv.length;have l2:=rv'.length;rw[HP];by_cases hlen:ds.length=es.length
    .rw[Dz hlen,show ds.length=its.toArray.size by simp; lia]
     refine SeqAt.RcAt.lists hil hil' (by simp; lia) (lt0 hu) (Ex rv rv' hl hl' fun i v d v' e u u' e1 e2 e3 e4 ru ru'=>?_);exact HN hok (hr i v d e1 e2) (hr' i v' e e3 e4) ru ru' (hs d (List.mem_of_getElem? e2)) (lt1 hu)
    .have:D9 ds es=false:=by
      cases q:D9 ds es with
      | false=>rfl
      | true=>exact absurd (DA q) hlen
     rw[this];exact SeqAt.RcAt.lists_lengths hil hil' (by simp; lia) (lt0 hu)
   | tup h' =>
    cases ry;obtain⟨its',_,hl'⟩:=Bi hok h';exact SeqAt.RcAt.list_tuple hil hl' (lt0 hu)
 | @tup a vs ds h hz hl hr =>
  cases rx;obtain⟨its,rv,hil⟩:=Bi hok h;cases hs with
  | @tup n _ hs =>
   cases q with
   | non=>cases ry; exact SeqAt.RcAt.tuple_none hil (lt0 hu)
   | bl b=>cases ry; exact SeqAt.RcAt.tuple_bool b hil (lt0 hu)
   | int b=>obtain⟨t,rfl⟩:=ry; exact SeqAt.RcAt.tuple_int b t hil (lt0 hu)
   | str b=>obtain⟨t,rfl⟩:=ry; exact SeqAt.RcAt.tuple_str b t hil (lt0 hu)
   | @tup a' vs' es h' hz' hl' hr' =>
    cases ry;obtain⟨its',rv',hil'⟩:=Bi hok h';have l1:=rv.length;have l2:=rv'.length;have q:=SeqAt.RcAt.tuples (A:=A) hil hil' (lt0 hu) (Ex rv rv' hl hl' fun i v d v' e u u' e1 e2 e3 e4 ru ru'=>HN hok (hr i v d e1 e2) (hr' i v' e e3 e4) ru ru' (hs d (List.mem_of_getElem? e2)) (lt1 hu))
    rw[Hn];by_cases hlen:ds.length=es.length
    .have e1:(its.toArray.size==its'.toArray.size)=true:=by simp; lia
     have e2:min its.toArray.size its'.toArray.size=ds.length:=by simp; lia
     rw[e1,e2,Bool.and_true,<- Dz hlen] at q;exact q
    .have e1:(its.toArray.size==its'.toArray.size)=false:=by simp; lia
     have e3:D9 ds es=false:=by
      cases q:D9 ds es with
      | false=>rfl
      | true=>exact absurd (DA q) hlen
     rw[e1,Bool.and_false] at q;rw[e3];exact q
   | lst h' =>
    cases ry;obtain⟨its',_,hl'⟩:=A3 hok h';exact SeqAt.RcAt.tuple_list hil hl' (lt0 hu)
end
section
variable{X:Cx}{k:Nat}
theorem Ca(hr:Room k X.A):OpR X (compareOp .Eq) (fun x y H Q=>∃d e,Rep H x d/\Rep H y e/\Sh 16 d/\Q (.bl (eqD d e)) H):=by
 intro pins s σ H x y v u Q I rx ry h;obtain⟨d,e,r1,r2,hs,q⟩:=h;exact EqBoolInt.of_rc (Vx I.hok r1 r2 rx ry hs (by have:=hr.units; lia)) ⟨.bl _,H,I,rfl,q⟩
end
structure FlyAt (P:Program) (w:World) (outer:List Env) (H:Hp) (s:Shared) (a C:Addr) (a0:Value) (B:Heap) (H':Hp) (s':Shared):Prop where
 os:s'.os=s.os
 bare:AllBare s'.gens
 fly:Heap.FlyingW B outer a (.ref C) a0 s'.heap
 keep:∀b o,s.heap.get? b=some o->H b=none->b∉frs outer->B.get? b=some o
 slot:∀b o,s.heap.get? b=some o->H b=none->b∈frs outer->∃sl,s'.heap.get? b=some { o with slots:=sl }
 free:∀b o,s.heap.get? b=some o->H b=none->H' b=none
 there:∀b o,s.heap.get? b=some o->b∉frs outer->∃o',B.get? b=some o'
 tups:∀b xs,H b=some (.tup xs)->H' b=some (.tup xs)
 frzs:∀b o u,H b=some (.frz o u)->H' b=some (.frz o u)
 tbls:∀b ps,H b=some (.tbl ps)->∃more,H' b=some (.tbl (ps++more))
 hok:HOk P w H' B
 pl:AW s'.heap a
noncomputable def Fly(P:Program)(w:World):CXT:=fun outer H s E e s'=>∃(a C:Addr) (a0:Value) (B:Heap) (H':Hp),e=.ref a/\FlyAt P w outer H s a C a0 B H' s'/\E (.ref C) none H'
theorem Dq{h base:Heap}{l:List Env}(F:h.FunFrames base l){b:Addr}(hb:b∈frs l){o:Obj}(e:h.get? b=some o):∀vs,o.data≠.fields vs:=by
 obtain⟨_,o',e',d⟩:=F.mem hb;rw[e] at e'; cases e';exact d
theorem Gv{env:Env}{l:List Env}{L:Addr}(h:env.frame=some L):frs (env::l)=L::frs l:=by
 unfold frs;rw[List.filterMap_cons,h]
section
variable{P:Program}{w:World}{K:Frag}{mg:Str->Option Value}{base:Heap}{N:List Str}{qual:Str}{scope:Scope}{f:Addr}{cd:Value}{A:Around}{outer:List Env}{s:Shared}{H:Hp}{E E':XK}
theorem Qz(hE:∀c d H',E' c d H'->E c d H'):Passes (Fly P w) (A7 (Fly P w) P w K mg base N qual scope f cd A outer s H E) E':=by
 intro pins σ H1 s1 e s' I fl;obtain⟨a,C,a0,B,H',rfl,F,q⟩:=fl;have lt:∀{b:Addr} {o:Obj},s.heap.get? b=some o->b≠s.heap.objs.size:=fun e=>Nat.ne_of_lt (Heap.lt_size e);have hfs:frs (envOfC qual scope s.heap.objs.size f cd::outer)=s.heap.objs.size::frs outer:=Gv rfl;have nex:∀b:Addr,b∉(A7 (Fly P w) P w K mg base N qual scope f cd A outer s H E).ex:=fun b z=>absurd (show b∈([]:List Addr) from z) (by simp);have u:=I.base;show wpAny (model P w) (A.deeper (envOfC qual scope s.heap.objs.size f cd)) (leaving (envOfC qual scope s.heap.objs.size f cd) (.ref a)) _ _ s';refine GC (L:=s.heap.objs.size) I.ok.frames rfl F.fly F.pl fun h' fl' sm pl=>?_;refine⟨a,C,a0,B,H',rfl,⟨F.os.trans I.os,F.bare,fl',fun b o e n hb=>?_,fun b o e n hb=>?_,fun b o e n=>?_,fun b o e hb=>?_,fun b xs e=>F.tups b xs (u.tups b xs e),fun b o v e=>F.frzs b o v (u.frzs b o v e),fun b ps e=>?_,F.hok,pl⟩,hE _ _ _ q⟩
 .refine F.keep b o (u.keep b o e n hb (nex b)) (u.free b o e n (nex b)) ?_
  show b∉frs (envOfC qual scope s.heap.objs.size f cd::outer);rw[hfs];exact fun z=>(List.mem_cons.mp z).elim (lt e) hb
 .obtain⟨sl,e1⟩:=u.slot b o e n hb (nex b)
  obtain⟨sl',e2⟩:=F.slot b _ e1 (u.free b o e n (nex b)) (by show b∈frs (envOfC qual scope s.heap.objs.size f cd::outer); rw[hfs]; exact List.mem_cons_of_mem _ hb);obtain⟨sl3,e3⟩:=sm b { o with slots:=sl' } e2 (show ∀vs,o.data≠.fields vs from Dq I.ok.funs hb e);exact⟨sl3,e3⟩
 .obtain⟨o',e1⟩:=u.there b o e (nex b)
  exact F.free b o' e1 (u.free b o e n (nex b))
 .obtain⟨o',e1⟩:=u.there b o e (nex b)
  refine F.there b o' e1 ?_;show b∉frs (envOfC qual scope s.heap.objs.size f cd::outer);rw[hfs];exact fun z=>(List.mem_cons.mp z).elim (lt e) hb
 .obtain⟨m1,e1⟩:=u.tbls b ps e
  obtain⟨m2,e2⟩:=F.tbls b _ e1;exact⟨m1++m2,by rw[e2,Array.append_assoc]⟩
theorem MF{pins:List (Addr×Obj)}{σ:St}{H1:Hp}{s1:Shared}{h2:Heap}{e C:Addr}{args:List Value}(I:Inv (A7 (Fly P w) P w K mg base N qual scope f cd A outer s H E) pins σ H1 s1)(hm:Heap.MadeExcOf s1.heap h2 e (.ref C) args)(q:E (.ref C) none H1):(A7 (Fly P w) P w K mg base N qual scope f cd A outer s H E).xe (.ref e) { s1 with heap:=h2 }:=by
 have lt:∀{b:Addr} {o:Obj},s.heap.get? b=some o->b≠s.heap.objs.size:=fun e=>Nat.ne_of_lt (Heap.lt_size e);have hfs:frs (envOfC qual scope s.heap.objs.size f cd::outer)=s.heap.objs.size::frs outer:=Gv rfl;have nex:∀b:Addr,b∉(A7 (Fly P w) P w K mg base N qual scope f cd A outer s H E).ex:=fun b z=>absurd (show b∈([]:List Addr) from z) (by simp);have u:=I.base;have hB:∀{b:Addr} {o:Obj},s1.heap.get? b=some o->b∉frs (envOfC qual scope s.heap.objs.size f cd::outer)->(PySem.W.hideAll s1.heap (frs (envOfC qual scope s.heap.objs.size f cd::outer))).get? b=some o:=fun e n=>PySem.W.hideAll_get _ e n;show wpAny (model P w) (A.deeper (envOfC qual scope s.heap.objs.size f cd)) (leaving (envOfC qual scope s.heap.objs.size f cd) (.ref e)) _ _ _;refine Lz (L:=s.heap.objs.size) (base:=PySem.W.hideAll s1.heap (frs (envOfC qual scope s.heap.objs.size f cd::outer))) (h:=s1.heap) (s:={ s1 with heap:=h2 }) I.ok.frames rfl (fun b o e=>PySem.W.of_hideAll _ e)
  (PySem.W.funFrames_hide I.stack fun env he b hb=>List.mem_filterMap.mpr ⟨env,he,hb⟩) hm fun h' t fl' sm pl=>?_
 refine⟨e,C,.ref t,_,H1,rfl,⟨I.os,I.bare,fl',fun b o e n hb=>?_,fun b o e n hb=>?_,fun b o e n=>u.free b o e n (nex b),fun b o e hb=>?_,u.tups,u.frzs,u.tbls,fun b o e=>?_,pl⟩,q⟩
 .refine hB (u.keep b o e n hb (nex b)) ?_
  rw[hfs];exact fun z=>(List.mem_cons.mp z).elim (lt e) hb
 .obtain⟨sl,e1⟩:=u.slot b o e n hb (nex b)
  obtain⟨sl3,e3⟩:=sm b { o with slots:=sl } (hm.keeps b { o with slots:=sl } e1) (show ∀vs,o.data≠.fields vs from Dq I.ok.funs hb e);exact⟨sl3,e3⟩
 .obtain⟨o',e1⟩:=u.there b o e (nex b)
  exact⟨o',hB e1 (by rw[hfs]; exact fun z=>(List.mem_cons.mp z).elim (lt e) hb)⟩
 .refine(I.hok b o e).stay (fun c w' hc q=>hB q fun z=>?_) (fun _ q=>q) fun _ _ q=>q
  have n:H1 c=none:=I.stkFree c z;rcases hc with rfl|hc
  .rw[n] at e; cases e
  .rw[n] at hc; cases hc
end
noncomputable def Rn:List Value:=[.type "ValueError",.type "Exception",.type "BaseException",.type "object"]
theorem Nt{K:Frag}{h:Heap}{C:Addr}{bmB:List Value}{newId:String}(X:K.In h)(q:PySem.W.excIn K C bmB newId=true):
  ∃bm N nm qn bs hdct sn sub ab col dd k0 k1 k2 k3 k5 mN,h.get? C=some (excClassObj nm qn C N bs bm hdct sn sub ab col dd k0 k1 k2 k3 k5 newId)/\h.Ns N mN/\mN "__init__" = none/\OwnTail h bmB bm:=by
 unfold PySem.W.excIn at q;split at q
 .rename_i dd cd sl ho
  split at q
  .rename_i C' bm k0 k1 k2 k3 n k5 hm hs
   simp only[Bool.and_eq_true,beq_iff_eq,Bool.not_eq_true'] at q;obtain⟨⟨⟨⟨⟨rfl,rfl⟩,hdel⟩,ht⟩,hok⟩,hni⟩:=q;obtain⟨nm,bs,mro,ns,qn,hd,sn,sub,ab,col,del⟩:=cd;dsimp only at hm hdel hok hni;subst hm hdel;have hsl:sl = #[k0,k1,k2,k3,some (.builtin n),k5]:=by
    obtain⟨l⟩:=sl;simp only at hs;rw[hs]
   subst hsl;exact⟨bm,ns,nm,qn,bs,hd,sn,sub,ab,col,dd,k0,k1,k2,k3,k5,_,X _ _ ho,.of_isNs (PySem.W.isNs_of_in X hok),PySem.W.nsMap_none_of_in X hok hni,PySem.W.tail_of_in X ht⟩
  .cases q
 .cases q
structure Exc (K:Frag) (mg:Str->Option Value) (x:Str) (C:Addr):Prop where
 at_:mg x=some (.ref C)
 own:PySem.W.excIn K C Rn "ValueError.__new__" = true
section
variable{P:Program}{w:World}{K:Frag}{mg:Str->Option Value}{base:Heap}{N:List Str}{qual:Str}{scope:Scope}{f:Addr}{cd:Value}{A:Around}{outer:List Env}{s:Shared}{H:Hp}{E:XK}
noncomputable def Nd(E:XK)(C:Addr)(ta:TA):TS:=fun _ σ H=>ta σ H fun vs H1=>vs.length<=sizeLine/\E (.ref C) none H1
theorem QN{x:Str}{C:Addr}{np cpos pos:Pos}{e:Expr}{es:List Expr}{ta:TA}(X:Exc K mg x C)(hh:A.handled=none)(ha:PA (A7 (Fly P w) P w K mg base N qual scope f cd A outer s H E) (e::es) ta)(hg:Gl (A7 (Fly P w) P w K mg base N qual scope f cd A outer s H E) x:=by rfl)(hdb:(x==("__debug__" : Str))=false:=by decide +kernel)(he:starEach (e::es) (A7 (Fly P w) P w K mg base N qual scope f cd A outer s H E).env=(false,eval e (A7 (Fly P w) P w K mg base N qual scope f cd A outer s H E).env)::starEach es (A7 (Fly P w) P w K mg base N qual scope f cd A outer s H E).env:=by rfl)(hpl:(backTo cpos (starEach es (A7 (Fly P w) P w K mg base N qual scope f cd A outer s H E).env)).any (·.1)=false:=by rfl):
  PS (A7 (Fly P w) P w K mg base N qual scope f cd A outer s H E) (.Raise (some (.Call (.Name x np) (e::es) [] cpos)) none pos) (Nd E C ta):=by
 intro pins s1 σ H1 D I h;obtain⟨bm,Nn,nm,qn,bs,hdct,sn,sub,ab,col,dd,k0,k1,k2,k3,k5,mN,hC,hN,hni,T⟩:=Nt I.mod.kin X.own;refine wpAny_Raise_call_subU (C:=C) (nm:=nm) (q:=qn) (N:=Nn) (bs:=bs) (bm:=bm) (hdct:=hdct) (sn:=sn) (sub:=sub) (ab:=ab) (col:=col) (dd:=dd) (k0:=k0) (k1:=k1) (k2:=k2) (k3:=k3) (k5:=k5)
  PySem.F.excBase_ValueError dK PySem.F.excBase_ValueError (mN:=mN) (T.hasType PySem.F.excBase_ValueError.hasBase) (show A.handled=none from hh)
  (by rw[he]; show(false || (backTo cpos (starEach es (A7 (Fly P w) P w K mg base N qual scope f cd A outer s H E).env)).any (·.1))=false; rw[hpl]; rfl) hni (FJ I hg X.at_ ⟨rfl,?_⟩ hdb)
 have hA:=ha cpos pins s1 σ H1 _ I h;rw[he] at hA |-;refine Calls.evalArgs_plain (thn hA fun us s2 ⟨vs,H2,I2,r2,hz,q2⟩=>⟨rfl,by rw[<- r2.length]; exact hz,I2.bk _ _ hC,hN.keeps I2.bk,T.keeps I2.bk,fun h' e' hm=>?_⟩);exact MF I2 hm q2
end
structure Blt (mg:Str->Option Value) (K:Frag):Prop where
 isinstance:mg "isinstance" = none
 len:mg "len" = none
 all:mg "all" = none
 any:mg "any" = none
 range:mg "range" = none
 list:mg "list" = none
 int:mg "int" = none
 bool:mg "bool" = none
 tuple:mg "tuple" = none
 str:mg "str" = none
 abs:mg "abs" = none
 max:mg "max" = none
 min:mg "min" = none
 dict:mg "dict" = none
section
variable{X:Cx}{x:Str}{p pos:Pos}{e:Expr}{es:List Expr}{t:TA}{id T:String}{r:List V->Hp->VK->Prop}
theorem OG(hc:B1 X (.builtin id) r)(hm:X.mg x=none)(hv:bootBuiltins x=some (.builtin id))(hn:x ≠ "__name__")(hdb:(x==("__debug__" : Str))=false)(hg:Gl X x)(he:starEach (e::es) X.env=(false,eval e X.env)::starEach es X.env)(hpl:(backTo pos (starEach es X.env)).any (·.1)=false)(ha:PA X (e::es) t):PE X (.Call (.Name x p) (e::es) [] pos) (tCB r t):=Iv hc hg hm hv ha hn hdb he hpl
theorem OH(hc:B1 X (.type T) r)(hm:X.mg x=none)(hv:bootBuiltins x=some (.type T))(hn:x ≠ "__name__")(hdb:(x==("__debug__" : Str))=false)(hg:Gl X x)(he:starEach (e::es) X.env=(false,eval e X.env)::starEach es X.env)(hpl:(backTo pos (starEach es X.env)).any (·.1)=false)(ha:PA X (e::es) t):PE X (.Call (.Name x p) (e::es) [] pos) (tCB r t):=OI hc hg hm hv ha hn hdb he hpl
theorem Sw{t:TE}(he:∀whole,isTrue e X.env whole=(do let v <- whole; standAt e.pos; holding [v] (truthy v)))(h:PE X e t):PT X e (tB t):=Vr h he
end
section
variable{X:Cx}{p pos:Pos}{e:Expr}{es:List Expr}{t:TA}
noncomputable def isInt:D->Bool
 | .int _=>true
 | .bl _=>true
 | .non | .str _ | .lst _ | .tup _=>false
noncomputable def isBool:D->Bool
 | .bl _=>true
 | .non | .int _ | .str _ | .lst _ | .tup _=>false
noncomputable def D4:D->Bool
 | .lst _=>true
 | .non | .bl _ | .int _ | .str _ | .tup _=>false
noncomputable def isTup:D->Bool
 | .tup _=>true
 | .non | .bl _ | .int _ | .str _ | .lst _=>false
noncomputable def isStr:D->Bool
 | .str _=>true
 | .non | .bl _ | .int _ | .lst _ | .tup _=>false
noncomputable def rIs(T:String)(f:D->Bool):List V->Hp->VK->Prop:=fun xs H Q=>∃x d,xs=[x,.ty T]/\Rep H x d/\Q (.bl (f d)) H
theorem RD{T:String}{f:D->Bool}(hf:∀d,isI (FU d) T=f d)(hT:T∈["int","bool","tuple","list","str"]):B1 X (.builtin "isinstance") (rIs T f):=by
 intro pins s σ H xs us Q I r h;obtain⟨x,d,rfl,rp,q⟩:=h;exact Ph pins s σ H _ us Q I r ⟨x,FU d,T,rfl,rp.typ,hT,by rw[hf]; exact q⟩
theorem RN:∀d,isI (FU d) "int" = isInt d:=fun d=>by cases d<;>(simp only[FU,isInt]; decide +kernel)
theorem PV:∀d,isI (FU d) "bool" = isBool d:=fun d=>by cases d<;>(simp only[FU,isBool]; decide +kernel)
theorem PX:∀d,isI (FU d) "list" = D4 d:=fun d=>by cases d<;>(simp only[FU,D4]; decide +kernel)
theorem Ol:∀d,isI (FU d) "tuple" = isTup d:=fun d=>by cases d<;>(simp only[FU,isTup]; decide +kernel)
theorem RO:∀d,isI (FU d) "str" = isStr d:=fun d=>by cases d<;>(simp only[FU,isStr]; decide +kernel)
theorem Iw{a:Expr}{ta:TE}{q:Pos}{x:Str}{T:String}{f:D->Bool}(hf:∀d,isI (FU d) T=f d)(hT:T∈["int","bool","tuple","list","str"])(hn:PE X (.Name x q) (tC (.ty T)))(hg:Gl X "isinstance"){K:Frag}(B:Blt X.mg K)(he:starEach [a,.Name x q] X.env=[(false,eval a X.env),(false,eval (.Name x q) X.env)])(he2:starEach [.Name x q] X.env=[(false,eval (.Name x q) X.env)])(ha:PE X a ta):
  PE X (.Call (.Name "isinstance" p) [a,.Name x q] [] pos) (tCB (rIs T f) (Ce ta (Ce (tC (.ty T)) FT))):=
 Iv (RD hf hT) hg B.isinstance PyProof.Rows.Boot.«isinstance» (CL ha (CL hn Eo he2) (he.trans (by rw[he2]))) dK dK (he.trans (by rw[he2])) (by rw[he2]; rfl)
theorem U9{a:Expr}{ta:TE}{q:Pos}(hg:Gl X "isinstance")(hg2:Gl X "int"){K:Frag}(B:Blt X.mg K)(he:starEach [a,.Name "int" q] X.env=[(false,eval a X.env),(false,eval (.Name "int" q) X.env)])(he2:starEach [.Name "int" q] X.env=[(false,eval (.Name "int" q) X.env)])(ha:PE X a ta):
  PE X (.Call (.Name "isinstance" p) [a,.Name "int" q] [] pos) (tCB (rIs "int" isInt) (Ce ta (Ce (tC (.ty "int")) FT))):=Iw RN (by decide) (FN hg2 B.int PyProof.Rows.Boot.«int» rfl dK dK) hg B he he2 ha
theorem U8{a:Expr}{ta:TE}{q:Pos}(hg:Gl X "isinstance")(hg2:Gl X "bool"){K:Frag}(B:Blt X.mg K)(he:starEach [a,.Name "bool" q] X.env=[(false,eval a X.env),(false,eval (.Name "bool" q) X.env)])(he2:starEach [.Name "bool" q] X.env=[(false,eval (.Name "bool" q) X.env)])(ha:PE X a ta):
  PE X (.Call (.Name "isinstance" p) [a,.Name "bool" q] [] pos) (tCB (rIs "bool" isBool) (Ce ta (Ce (tC (.ty "bool")) FT))):=Iw PV (by decide) (FN hg2 B.bool PyProof.Rows.Boot.«bool» rfl dK dK) hg B he he2 ha
theorem Va{a:Expr}{ta:TE}{q:Pos}(hg:Gl X "isinstance")(hg2:Gl X "list"){K:Frag}(B:Blt X.mg K)(he:starEach [a,.Name "list" q] X.env=[(false,eval a X.env),(false,eval (.Name "list" q) X.env)])(he2:starEach [.Name "list" q] X.env=[(false,eval (.Name "list" q) X.env)])(ha:PE X a ta):
  PE X (.Call (.Name "isinstance" p) [a,.Name "list" q] [] pos) (tCB (rIs "list" D4) (Ce ta (Ce (tC (.ty "list")) FT))):=Iw PX (by decide) (FN hg2 B.list PyProof.Rows.Boot.«list» rfl dK dK) hg B he he2 ha
theorem Vb{a:Expr}{ta:TE}{q:Pos}(hg:Gl X "isinstance")(hg2:Gl X "tuple"){K:Frag}(B:Blt X.mg K)(he:starEach [a,.Name "tuple" q] X.env=[(false,eval a X.env),(false,eval (.Name "tuple" q) X.env)])(he2:starEach [.Name "tuple" q] X.env=[(false,eval (.Name "tuple" q) X.env)])(ha:PE X a ta):
  PE X (.Call (.Name "isinstance" p) [a,.Name "tuple" q] [] pos) (tCB (rIs "tuple" isTup) (Ce ta (Ce (tC (.ty "tuple")) FT))):=Iw Ol (by decide) (FN hg2 B.tuple PyProof.Rows.Boot.«tuple» rfl dK dK) hg B he he2 ha
theorem Vc{a:Expr}{ta:TE}{q:Pos}(hg:Gl X "isinstance")(hg2:Gl X "str"){K:Frag}(B:Blt X.mg K)(he:starEach [a,.Name "str" q] X.env=[(false,eval a X.env),(false,eval (.Name "str" q) X.env)])(he2:starEach [.Name "str" q] X.env=[(false,eval (.Name "str" q) X.env)])(ha:PE X a ta):
  PE X (.Call (.Name "isinstance" p) [a,.Name "str" q] [] pos) (tCB (rIs "str" isStr) (Ce ta (Ce (tC (.ty "str")) FT))):=Iw RO (by decide) (FN hg2 B.str PyProof.Rows.Boot.«str» rfl dK dK) hg B he he2 ha
noncomputable def Xp(K:Frag):List V->Hp->VK->Prop:=fun xs H Q=>∃p bs,xs=[.ref p]/\SqL K H p (GP bs)/\Q (.bl (bs.all id)) H
noncomputable def WT(K:Frag):List V->Hp->VK->Prop:=fun xs H Q=>(∃p ys,xs=[.ref p]/\(SqL K H p ys\/SqT K H p ys)/\Q (.int ys.length) H)\/∃z,xs=[.str z]/\z.length<=sizeLine/\Q (.int z.length) H
end
noncomputable def sp1(f:D->Option D):Sp:=fun vs H Q _=>∃v d e,vs=[v]/\Rep H v d/\f d=some e/\∀u H',BW H H'->Rep H' u e->Q u H'
section
variable{X:Cx}{a b c e:Expr}{ta tb tc:TE}{p pos:Pos}{es:List Expr}{t:TA}{x:Str}
theorem OE:OpR X (compareOp .LtE) (fun x y H Q=>∃i j,x=.str i/\y=.str j/\Q (.bl (!decide (j.cps.toList<i.cps.toList))) H):=by
 intro pins s σ H x y v u Q I rx ry h;obtain⟨i,j,rfl,rfl,q⟩:=h;obtain⟨t,rfl⟩:=rx;obtain⟨t',rfl⟩:=ry;exact PySem.P.le_str (J0 I q rfl)
noncomputable def Xq:R2:=fun x y H Q=>∃d e,Rep H x d/\Rep H y e/\Sh 16 d/\Q (.bl (eqD d e)) H
noncomputable def Tt:R2:=fun x y H Q=>(∃i j,x=.int i/\y=.int j/\Q (.bl (decide (i<j))) H)\/∃i j,x=.str i/\y=.str j/\Q (.bl (decide (i.cps.toList<j.cps.toList))) H
noncomputable def Ts:R2:=fun x y H Q=>(∃i j,x=.int i/\y=.int j/\Q (.bl (decide (i<=j))) H)\/∃i j,x=.str i/\y=.str j/\Q (.bl (!decide (j.cps.toList<i.cps.toList))) H
theorem FL:OpR X (compareOp .Lt) Tt:=WE.or OF
theorem EL:OpR X (compareOp .LtE) Ts:=WD.or OE
noncomputable def PEc(X:Cx)(own:List Str)(scope:Scope)(e:Expr)(t:TE):Prop:=∀C s H fp pins,PE (cxC X own scope C s H fp pins) e t
noncomputable def PTc(X:Cx)(own:List Str)(scope:Scope)(ifs:List Expr)(t:TT):Prop:=∀C s H fp pins,PTs (cxC X own scope C s H fp pins) ifs t
structure Names (N:List Str):Prop where
 nd:N.Nodup
theorem Ve{scope:Scope}{iter elt:Expr}{ifs:List Expr}{px:Pos}{wi:TI}{tt:TT}{te:TE}(hok:BR [x] X.N scope X.env.scope=true)(hc:X.calm=true){NN:List Str}(hn:Names NN)(hX:X.N=NN)(hx:scope.names.lookup x=some .local)(hs:∀z,foldedSetIterable iter X.env z=pure z)(hi:PI X (.Name x px) iter wi)(ht:PTc X [x] scope ifs tt)(he:PEc X [x] scope elt te):
  PE X (.ListComp elt [⟨.Name x px,iter,ifs,0⟩] scope pos) (tLc wi S4 tt te):=by
 have hnx:∀y∈X.N,x≠y:=fun y hy z=>by
  simp only[BR,Bool.and_eq_true,List.all_eq_true] at hok;have:=hok.2 x (by simp);rw[z] at this;simp[hy] at this
 exact To hc hok hi (fun C s H fp pins=>Iz rfl (List.nodup_cons.mpr ⟨fun z=>hnx x z rfl,by rw[hX]; exact hn.nd⟩) (lookup_relabel_local hx)) ht he hs
structure GInt (mg:Str->Option Value) (x:Str) (n:Int):Prop where
 at_:∃t,mg x=some (.int n t)
theorem So{mg:Str->Option Value}{n:Int}(G:GInt mg x n)(hm:X.mg=mg)(hg:Gl X x)(hd:(x==("__debug__" : Str))=false):PE X (.Name x pos) (tC (.int n)):=by
 subst hm;obtain⟨t,e⟩:=G.at_;exact Ku hg e ⟨t,rfl⟩ hd
end
section
variable{P:Program}{w:World}{K:Frag}{mg:Str->Option Value}{base:Heap}
theorem Fun.okF{x qual:Str}{st:Stmt}{f:Addr}{fd:FuncData}{N ps:List Str}{k:Nat}{sp:Sp}(F:Fun K x qual st f fd)(S:FnScope N ps (Ao st))(len:∀vs H Q E,sp vs H Q E->vs.length=ps.length)(hbody:∀(cdv:Value) (A:Around) (outer:List Env) (s:Shared) (H:Hp) (vs:List V) (Q:VK) (E:XK),Room k (A.deeper (envOfC qual (Ao st) s.heap.objs.size f cdv))->sp vs H Q E ->
   ∃t,PSs (A7 (Fly P w) P w K mg base N qual (Ao st) f cdv A outer s H E) (BO st) t/\t { nx:=fun _ H'=>Q .non H',rt:=Q } (start N vs) H):FnOk P w K mg base (Fly P w) (k+1) f fd ps sp:=by
 obtain⟨oc,od,kV,doc,pm,an,cdv,ct,osl,rfl,lk,hcd⟩:=F.ex;exact Py lk hcd S len fun A outer s H vs Q E hr hsp=>hbody cdv A outer s H vs Q E hr hsp
theorem OM{N:List Str}{qual:Str}{scope:Scope}{f:Addr}{cd:Value}{A:Around}{outer:List Env}{s:Shared}{H:Hp}{E:XK}{x:Str}{C:Addr}{np cpos pos:Pos}{e:Expr}{es:List Expr}{ta:TA}{k:Nat}(X:Exc K mg x C)(hr:Room k (A.deeper (envOfC qual scope s.heap.objs.size f cd)))(hg:Gl (A7 (Fly P w) P w K mg base N qual scope f cd A outer s H E) x)(hdb:(x==("__debug__" : Str))=false)(he:starEach (e::es) (A7 (Fly P w) P w K mg base N qual scope f cd A outer s H E).env=(false,eval e (A7 (Fly P w) P w K mg base N qual scope f cd A outer s H E).env)::starEach es (A7 (Fly P w) P w K mg base N qual scope f cd A outer s H E).env)(hpl:(backTo cpos (starEach es (A7 (Fly P w) P w K mg base N qual scope f cd A outer s H E).env)).any (·.1)=false)(ha:PA (A7 (Fly P w) P w K mg base N qual scope f cd A outer s H E) (e::es) ta):
  PS (A7 (Fly P w) P w K mg base N qual scope f cd A outer s H E) (.Raise (some (.Call (.Name x np) (e::es) [] cpos)) none pos) (Nd E C ta):=QN X hr.hd ha hg hdb he hpl
end
noncomputable def glue(ys:List Str):Str:=⟨(ys.map fun y=>y.cps.toList).flatten.toArray⟩
section
variable{X:Cx}{a e:Expr}{ta te:TE}{apos cpos:Pos}
theorem IJ:∀{ys:List Str} {us:List Value},Vals (ys.map V.str) us->StrsAre us ys
 | [],_,.nil=>.nil
 | _::_,_,.cons ⟨t,e⟩ r=>by subst e; exact .cons _ _ (IJ r)
noncomputable def rJoin(K:Frag):V->List V->Hp->VK->Prop:=fun x xs H Q=>∃sep p ys,x=.str sep/\xs=[.ref p]/\SqL K H p (ys.map V.str)/\(ys.map (·.length)).sum+ys.length*sep.length<=16777216/\Q (.str (Txt.join sep ys)) H
theorem R4:MtR X "str.join" (rJoin X.K):=by
 intro pins s σ H x xs v us Q I rx rv h;obtain⟨sep,p,ys,rfl,rfl,hq,hz,q⟩:=h;obtain⟨t,rfl⟩:=rx;obtain⟨u,rfl,ru⟩:=rv.one;cases ru;obtain⟨its,r,pl,_⟩:=I.list hq;exact join_list pl.isList (by simpa using IJ r) hz fun t' k=>⟨.str _,H,I.tok k,⟨_,rfl⟩,q⟩
theorem Sq{K:Frag}(hK:X.K=K)(B:Blt X.mg K)(hbase:attributeBase a "join" X.env (eval a X.env)=eval a X.env)(hline:(apos.endLine==cpos.line)=true)(hs:starEach [e] X.env=[(false,eval e X.env)])(ha:PE X a ta)(he:PE X e te):
  PE X (.Call (.Attribute a "join" apos) [e] [] cpos) (tBM K "str" (rJoin K) ta (Ce te FT)):=by
 subst hK;exact LM F.plainAttrs_str F.slot_str_join F.type_str_join R4 ha (CL he Eo hs) hbase (by rw[hs]; rfl) hline hs rfl
end
section
variable{X:Cx}{p pos:Pos}{e:Expr}{es:List Expr}{t:TA}
noncomputable def SD(K:Frag):List V->Hp->VK->Prop:=fun xs H Q=>∃p ys,xs=[.ref p]/\(SqL K H p ys\/SqT K H p ys)/\∀l,H l=none->Q (.ref l) (upd H l (.lst ys))
end
end L2
end
section
namespace J
open PySem L2
inductive A where
 | fz (d:D)|lst (as:List A)|tup (as:List A)|scr (ns:List Int)|dic (kvs:List (Key×D))|dct (kvs:List (D×D))|opq (a:Addr) (o:Obj)
inductive Own where
 | own|lent|ro
 deriving DecidableEq
noncomputable abbrev Slot:=Option (Own×A)
noncomputable abbrev Ro:=List Slot
inductive R where
 | val (a:A)|ref (i:Nat)
mutual
noncomputable def er:A->Option D
 | .fz d=>some d
 | .lst as=>(ers as).map D.lst
 | .tup as=>(ers as).map D.tup
 | .scr _=>none
 | .dic _=>none
 | .dct _=>none
 | .opq _ _=>none
noncomputable def ers:List A->Option (List D)
 | []=>some []
 | a::as=>(er a).bind fun d=>(ers as).map (d :: ·)
end
noncomputable def fzs:List A->Option (List D)
 | []=>some []
 | .fz d::as=>(fzs as).map (d :: ·)
 | _::_=>none
noncomputable def peek(Z:Ro):R->Option A
 | .val a=>some a
 | .ref i=>match Z[i]? with
  | some (some (_,a))=>some a
  | _=>none
noncomputable def peeks(Z:Ro):List R->Option (List A)
 | []=>some []
 | r::rs=>(peek Z r).bind fun a=>(peeks Z rs).map (a :: ·)
noncomputable def share(Z:Ro):R->Option (D×Ro)
 | .val a=>(er a).map (·,Z)
 | .ref i=>match Z[i]? with
  | some (some (.own,a))=>(er a).map fun d=>(d,Z.set i (some (.own,.fz d)))
  | _=>none
noncomputable def move(Z:Ro):R->Option (A×Ro)
 | .val a=>some (a,Z)
 | .ref i=>match Z[i]? with
  | some (some (.own,a))=>some (a,Z.set i none)
  | _=>none
noncomputable abbrev ME:=Ro->Option (R×Ro)
noncomputable abbrev MT:=Ro->Option (Bool×Ro)
noncomputable abbrev MA:=Ro->Option (List R×Ro)
noncomputable def Ad(i:Nat):ME:=fun Z=>match Z[i]? with
 | some (some (_,.fz d))=>some (.val (.fz d),Z)
 | some (some _)=>some (.ref i,Z)
 | _=>none
noncomputable def Ag(d:D):ME:=fun Z=>some (.val (.fz d),Z)
noncomputable def Aj:MA:=fun Z=>some ([],Z)
noncomputable def Ab(m:ME)(ms:MA):MA:=fun Z=>(m Z).bind fun p=>(ms p.2).map fun q=>(p.1::q.1,q.2)
noncomputable def opM(f:List A->Option A)(m:MA):ME:=fun Z=>(m Z).bind fun p=>(peeks p.2 p.1).bind fun as=>(f as).map fun a=>(.val a,p.2)
noncomputable def DW:A->Option Bool
 | .fz (.bl b)=>some b
 | .fz .non | .fz (.int _) | .fz (.str _) | .fz (.lst _) | .fz (.tup _) | .lst _ | .tup _ | .scr _ | .dic _ | .dct _ | .opq _ _=>none
noncomputable def AG(m:ME):MT:=fun Z=>(m Z).bind fun p=>(peek p.2 p.1).bind fun a=>(DW a).map (·,p.2)
noncomputable def andM(a b:ME):ME:=fun Z=>(AG a Z).bind fun p=>if p.1 then b p.2 else some (.val (.fz (.bl false)),p.2)
noncomputable def orM(a b:ME):ME:=fun Z=>(AG a Z).bind fun p=>if p.1 then some (.val (.fz (.bl true)),p.2) else b p.2
noncomputable def notM(a:ME):ME:=fun Z=>(AG a Z).map fun p=>(.val (.fz (.bl (!p.1))),p.2)
noncomputable def Rw(a b:MT):MT:=fun Z=>(a Z).bind fun p=>if p.1 then b p.2 else some (false,p.2)
noncomputable def orT(a b:MT):MT:=fun Z=>(a Z).bind fun p=>if p.1 then some (true,p.2) else b p.2
noncomputable def B3(a:MT):MT:=fun Z=>(a Z).map fun p=>(!p.1,p.2)
noncomputable def Uo(c:MT)(a b:ME):ME:=fun Z=>(c Z).bind fun p=>if p.1 then a p.2 else b p.2
noncomputable def Gn(f g:List A->Option A)(a b c:ME):ME:=fun Z=>(a Z).bind fun p=>(b p.2).bind fun q=>(peeks q.2 [p.1,q.1]).bind fun as=>(f as).bind fun z=>(DW z).bind fun k =>
 if k then (c q.2).bind fun r=>(peeks r.2 [q.1,r.1]).bind fun bs=>(g bs).map fun z=>(.val z,r.2) else some (.val (.fz (.bl false)),q.2)
noncomputable def Ae(m:ME):ME:=fun Z=>(m Z).bind fun p=>(share p.2 p.1).map fun q=>(.val (.fz q.1),q.2)
noncomputable def vals:List R->Option (List A)
 | []=>some []
 | .val a::rs=>(vals rs).map (a :: ·)
 | .ref _::_=>none
noncomputable abbrev LIM:Nat:=sizeLine
noncomputable def mkT(as:List A):A:=match fzs as with
 | some ds=>.fz (.tup ds)
 | none=>.tup as
noncomputable def Hg(m:MA):ME:=fun Z=>(m Z).bind fun p=>(vals p.1).bind fun as=>if as.length<=LIM then some (.val (mkT as),p.2) else none
noncomputable def lstM(m:MA):ME:=fun Z=>(m Z).bind fun p=>(vals p.1).bind fun as=>if as.length<=LIM then some (.val (.lst as),p.2) else none
noncomputable abbrev Fn:=List (Own×A)->Option (A×List A)
noncomputable def E6(Z:Ro):R->Option (Own×A)
 | .val a=>some (.own,a)
 | .ref i=>match Z[i]? with
  | some (some (.ro,a))=>some (.ro,a)
  | some (some (_,a))=>some (.lent,a)
  | _=>none
noncomputable def Cw(Z:Ro):List R->Option (List (Own×A))
 | []=>some []
 | r::rs=>(E6 Z r).bind fun a=>(Cw Z rs).map (a :: ·)
noncomputable def M9(Z:Ro)(i:Nat)(a:A):Ro:=match Z[i]? with
 | some (some (st,_))=>Z.set i (some (st,a))
 | _=>Z
noncomputable def back:List R->List A->Ro->Ro
 | .ref i::rs,a::as,Z=>back rs as (M9 Z i a)
 | .val _::rs,_::as,Z=>back rs as Z
 | [],_,Z=>Z
 | .ref _::_,[],Z=>Z
 | .val _::_,[],Z=>Z
noncomputable def refs:List R->List Nat
 | []=>[]
 | .ref i::rs=>i::refs rs
 | .val _::rs=>refs rs
noncomputable def Ar(Φ:Fn)(m:MA):ME:=fun Z=>(m Z).bind fun p=>(Cw p.2 p.1).bind fun args=>if (refs p.1).Nodup then (Φ args).map fun q=>(.val q.1,back p.1 q.2 p.2) else none
noncomputable def Hd(z:Str):List D:=z.cps.toList.map fun c=>.str ⟨#[c]⟩
noncomputable def AI:A->Option (List D)
 | .fz (.lst ds)=>some ds
 | .fz (.tup ds)=>some ds
 | .lst as=>fzs as
 | .scr ns=>some (ns.map D.int)
 | .fz .non | .fz (.bl _) | .fz (.int _) | .fz (.str _) | .tup _ | .dic _ | .dct _ | .opq _ _=>none
noncomputable abbrev MI:=Ro->Option (List D×Option Nat×Ro)
noncomputable def nameOf:R->Option Nat
 | .val _=>none
 | .ref i=>some i
noncomputable def De(m:ME):MI:=fun Z=>(m Z).bind fun p=>(peek p.2 p.1).bind fun a=>(AI a).map fun ds=>(ds,nameOf p.1,p.2)
noncomputable def L7(m:ME):MI:=fun Z=>(m Z).bind fun p=>match p.1 with
 | .val (.fz (.str z))=>if z.length<=LIM then some (Hd z,none,p.2) else none
 | _=>none
noncomputable def E3(lo:Int)(n:Nat):List D:=(List.range n).map fun(k:Nat)=>D.int (lo+(k:Int))
noncomputable def CV(m:ME):MI:=fun Z=>(m Z).bind fun p=>match p.1 with
 | .val (.fz (.int j))=>if -(2 ^ 62)<=j/\j<2 ^ 62 then some (E3 0 j.toNat,none,p.2) else none
 | _=>none
noncomputable def lock(Z:Ro):Option Nat->Ro
 | none=>Z
 | some i=>match Z[i]? with
  | some (some (_,a))=>Z.set i (some (.ro,a))
  | _=>Z
noncomputable def unlock(old Z:Ro):Option Nat->Ro
 | none=>Z
 | some i=>match old[i]? with
  | some s=>Z.set i s
  | none=>Z
noncomputable def Kt(n:Nat)(d:D):Option (List D):=match n with
 | 0=>some [d]
 | n=>match d with
  | .tup ds=>if ds.length=n then some ds else none
  | _=>none
noncomputable def own(d:D):Slot:=some (.own,.fz d)
noncomputable def E7(pat:Nat)(c:MT)(e:ME):List D->Ro->Option (List D×Ro)
 | [],Z=>some ([],Z)
 | d::ds,Z=>(Kt pat d).bind fun bs=>(c (bs.map own++Z)).bind fun p =>
  if p.1 then (e p.2).bind fun q=>(share q.2 q.1).bind fun s=>(E7 pat c e ds (s.2.drop bs.length)).map fun t=>(s.1::t.1,t.2)
  else E7 pat c e ds (p.2.drop bs.length)
noncomputable def Dw:MT:=fun Z=>some (true,Z)
noncomputable def Bn(it:MI)(pat:Nat)(c:MT)(e:ME):ME:=fun Z=>(it Z).bind fun p=>if p.1.length<=LIM then (E7 pat c e p.1 (lock p.2.2 p.2.1)).map fun q=>(.val (.lst (q.1.map A.fz)),unlock p.2.2 q.2 p.2.1) else none
inductive Fl where
 | next (Z:Ro)|brk (Z:Ro)|cnt (Z:Ro)|ret (a:A) (Z:Ro)
noncomputable abbrev MS:=Ro->Option Fl
noncomputable def free(Z:Ro)(i:Nat):Bool:=match Z[i]? with
 | some none=>true
 | some (some (.own,_))=>true
 | _=>false
noncomputable def keep(Z:Ro):R->Option (A×Ro)
 | .val a=>some (a,Z)
 | r=>(share Z r).map fun q=>(.fz q.1,q.2)
noncomputable def Bf:MS:=fun Z=>some (.next Z)
noncomputable def EU:MS:=fun _=>none
noncomputable def AA(a b:MS):MS:=fun Z=>(a Z).bind fun f=>match f with
 | .next Z1=>b Z1
 | f=>some f
noncomputable def A9(i:Nat)(m:ME):MS:=fun Z=>(m Z).bind fun p=>(keep p.2 p.1).bind fun q=>if free q.2 i then some (.next (q.2.set i (some (.own,q.1)))) else none
noncomputable def EN:A->Option (List A)
 | .tup as=>some as
 | .fz (.tup ds)=>some (ds.map A.fz)
 | .fz .non | .fz (.bl _) | .fz (.int _) | .fz (.str _) | .fz (.lst _) | .lst _ | .scr _ | .dic _ | .dct _ | .opq _ _=>none
noncomputable def CC:List Nat->List A->Ro->Option Ro
 | [],[],Z=>some Z
 | i::is,a::as,Z=>if free Z i then CC is as (Z.set i (some (.own,a))) else none
 | [],_::_,_=>none
 | _::_,[],_=>none
noncomputable def K0(is:List Nat)(m:ME):MS:=fun Z=>(m Z).bind fun p=>(keep p.2 p.1).bind fun q=>(EN q.1).bind fun as=>(CC is as q.2).map .next
noncomputable def Hw(m:ME):MS:=fun Z=>(m Z).map fun p=>.next p.2
noncomputable def retS(m:ME):MS:=fun Z=>(m Z).bind fun p=>(move p.2 p.1).map fun q=>.ret q.1 q.2
noncomputable def ifS(c:MT)(a b:MS):MS:=fun Z=>(c Z).bind fun p=>if p.1 then a p.2 else b p.2
noncomputable def Hi(is:List Nat)(one:Bool)(d:D)(Z:Ro):Option Ro:=match one,is with
 | true,[i]=>if free Z i then some (Z.set i (own d)) else none
 | false,is=>(match d with
  | .tup ds=>CC is (ds.map A.fz) Z
  | _=>none)
 | _,_=>none
noncomputable def forL(is:List Nat)(one:Bool)(b:MS):List D->Ro->Option Fl
 | [],Z=>some (.next Z)
 | d::ds,Z=>(Hi is one d Z).bind fun Z1=>(b Z1).bind fun f=>match f with
  | .next Z2=>forL is one b ds Z2
  | .cnt Z2=>forL is one b ds Z2
  | .brk Z2=>some (.next Z2)
  | f=>some f
noncomputable def KZ(old:Ro)(n:Option Nat):Fl->Fl
 | .next Z=>.next (unlock old Z n)
 | .brk Z=>.brk (unlock old Z n)
 | .cnt Z=>.cnt (unlock old Z n)
 | .ret a Z=>.ret a (unlock old Z n)
noncomputable def J1(is:List Nat)(one:Bool)(it:MI)(b:MS):MS:=fun Z=>(it Z).bind fun p=>(forL is one b p.1 (lock p.2.2 p.2.1)).map (KZ p.2.2 p.2.1)
noncomputable def Wm(i:Nat):MS:=fun Z=>(share Z (.ref i)).map fun q=>.next q.2
noncomputable def GH:Slot->A
 | some (_,a)=>a
 | none=>.fz .non
noncomputable def fnM(np nn:Nat)(b:MS):Fn:=fun args=>if args.length=np then (b (args.map some++List.replicate (nn-np) none)).bind fun f=>match f with
  | .next Z=>some (.fz .non,(Z.take np).map GH)
  | .ret a Z=>some (a,(Z.take np).map GH)
  | _=>none
 else none
noncomputable def imm:HO->Bool
 | .tup _=>true
 | .frz _ _=>true
 | _=>false
noncomputable def Kept(L:Addr->Prop)(H H':Hp):Prop:=∀b o,H b=some o->(¬L b\/imm o=true)->H' b=some o
theorem Kept.refl{L:Addr->Prop}{H:Hp}:Kept L H H:=fun _ _ h _=>h
theorem Kept.trans{L L':Addr->Prop}{H H1 H2:Hp}(x:Kept L H H1)(y:Kept L' H1 H2)(h:∀p,L' p->L p\/H p=none):Kept L H H2:=fun b o e c =>
 y b o (x b o e c) (c.imp (fun n z=>(h b z).elim n fun q=>by rw[e] at q; cases q) id)
theorem Kept.mono{L L':Addr->Prop}{H H':Hp}(x:Kept L H H')(h:∀p,L p->L' p):Kept L' H H':=fun b o e c=>x b o e (c.imp (fun n z=>n (h b z)) id)
theorem BW.kept{L:Addr->Prop}{H H':Hp}(s:BW H H'):Kept L H H':=fun b o e _=>s b o e
noncomputable def Wf(K:Frag)(H:Hp)(a:Addr)(xs:List V):Prop:=∀H',(∀o u,H a=some (.frz o u)->H' a=some (.frz o u))->SqL K H' a xs
mutual
noncomputable def Am(K:Frag)(N:Addr->Prop)(H:Hp)(v:V):A->List Addr->Prop
 | .fz d,L=>L=[]/\RepA N H v d
 | .lst as,L=>∃a vs L',v=.ref a/\L=a::L'/\H a=some (.lst vs)/\vs.length<=sizeLine/\Ak K N H vs as L'
 | .tup as,L=>∃a vs,v=.ref a/\H a=some (.tup vs)/\vs.length<=sizeLine/\Ak K N H vs as L
 | .scr ns,L=>∃a,v=.ref a/\L=[]/\Wf K H a (ns.map V.int)/\ns.length<=sizeLine
 | .dic kvs,L=>∃a us,v=.ref a/\L=[a]/\H a=some (.dK us)/\us.length<=sizeLine/\Paired (fun(u:Key×V) (k:Key×D)=>u.1=k.1/\RepA N H u.2 k.2) us kvs
 | .dct kvs,L=>∃a us,v=.ref a/\L=[a]/\H a=some (.dT us)/\us.length<=sizeLine/\Paired (fun(u:D×V) (k:D×D)=>u.1=k.1/\RepA N H u.2 k.2) us kvs
 | .opq a o,L=>v=.ref a/\L=[]/\∃u,H a=some (.frz o u)
noncomputable def Ak(K:Frag)(N:Addr->Prop)(H:Hp):List V->List A->List Addr->Prop
 | [],[],L=>L=[]
 | v::vs,a::as,L=>∃L1 L2,L=L1++L2/\Am K N H v a L1/\Ak K N H vs as L2
 | [],_::_,_=>False
 | _::_,[],_=>False
end
theorem _root_.L2.RepA.tr{N N' M:Addr->Prop}{H H':Hp}(hM:∀p,M p->N p)(k:Kept M H H')(hN:∀p,N' p->N p\/H p=none){v:V}{d:D}(r:RepA N H v d):RepA N' H' v d:=by
 induction r with
 | non=>exact .non
 | bl b=>exact .bl b
 | int i=>exact .int i
 | str x hx=>exact .str x hx
 | lst h hz hn hl _ ih =>
  refine .lst (k _ _ h (.inl fun z=>hn (hM _ z))) hz (fun z=>?_) hl ih;rcases hN _ z with q|q
  .exact hn q
  .rw[h] at q; cases q
 | tup h hz hl _ ih=>exact .tup (k _ _ h (.inr rfl)) hz hl ih
theorem Paired.mapQ{α β:Type}{F G:α -> β -> Prop}:∀{l₁:List α} {l₂:List β},Paired F l₁ l₂ -> (∀a b,F a b->G a b)->Paired G l₁ l₂
 | _,_,.nil,_=>.nil
 | _,_,.cons r t,f=>.cons (f _ _ r) (Paired.mapQ t f)
section
variable{K:Frag}{N N' M:Addr->Prop}{H H':Hp}
mutual
theorem Am.tr(hM:∀p,M p->N p)(k:Kept M H H')(hN:∀p,N' p->N p\/H p=none):∀{a:A} {v:V} {L:List Addr},(∀p∈L,¬M p)->Am K N H v a L->Am K N' H' v a L
 | .fz d,v,L,hL,r=>by
  simp only[Am] at r |-;exact⟨r.1,r.2.tr hM k hN⟩
 | .lst as,v,L,hL,r=>by
  simp only[Am] at r |-;obtain⟨a,vs,L',rfl,rfl,h,hz,hs⟩:=r;exact⟨a,vs,L',rfl,rfl,k _ _ h (.inl (hL a (by simp))),hz,Ak.tr hM k hN (fun p hp=>hL p (by simp[hp])) hs⟩
 | .tup as,v,L,hL,r=>by
  simp only[Am] at r |-;obtain⟨a,vs,rfl,h,hz,hs⟩:=r;exact⟨a,vs,rfl,k _ _ h (.inr rfl),hz,Ak.tr hM k hN hL hs⟩
 | .scr ns,v,L,hL,r=>by
  simp only[Am] at r |-;obtain⟨a,rfl,rfl,h,hz⟩:=r;exact⟨a,rfl,rfl,fun H2 q=>h H2 fun o u e=>q o u (k _ _ e (.inr rfl)),hz⟩
 | .dic kvs,v,L,hL,r=>by
  simp only[Am] at r |-;obtain⟨a,us,rfl,rfl,h,hz,hs⟩:=r;exact⟨a,us,rfl,rfl,k _ _ h (.inl (hL a (by simp))),hz,Paired.mapQ hs fun _ _ q=>⟨q.1,q.2.tr hM k hN⟩⟩
 | .dct kvs,v,L,hL,r=>by
  simp only[Am] at r |-;obtain⟨a,us,rfl,rfl,h,hz,hs⟩:=r;exact⟨a,us,rfl,rfl,k _ _ h (.inl (hL a (by simp))),hz,Paired.mapQ hs fun _ _ q=>⟨q.1,q.2.tr hM k hN⟩⟩
 | .opq a o,v,L,hL,r=>by
  simp only[Am] at r |-;obtain⟨rfl,rfl,u,h⟩:=r;exact⟨rfl,rfl,u,k _ _ h (.inr rfl)⟩
theorem Ak.tr(hM:∀p,M p->N p)(k:Kept M H H')(hN:∀p,N' p->N p\/H p=none):∀{as:List A} {vs:List V} {L:List Addr},(∀p∈L,¬M p)->Ak K N H vs as L->Ak K N' H' vs as L
 | [],vs,L,hL,r=>by
  cases vs<;>simp only[Ak] at r |-;exact r
 | a::as,vs,L,hL,r=>by
  cases vs with
  | nil=>simp only[Ak] at r
  | cons v vs =>
   simp only[Ak] at r |-;obtain⟨L1,L2,rfl,h1,h2⟩:=r;exact⟨L1,L2,rfl,Am.tr hM k hN (fun p hp=>hL p (by simp[hp])) h1,Ak.tr hM k hN (fun p hp=>hL p (by simp[hp])) h2⟩
end
end
noncomputable def ad(O:Addr->Prop)(L:List Addr):Addr->Prop:=fun p=>O p\/p∈L
noncomputable def NN(fp:Nat->List Addr)(O:Addr->Prop):Addr->Prop:=fun p=>(∃i,p∈fp i)\/O p
noncomputable def Fp(fp:Nat->List Addr):Addr->Prop:=fun p=>∃i,p∈fp i
structure Rel (K:Frag) (Z:Ro) (σ:St) (H:Hp) (O:Addr->Prop) (fp:Nat->List Addr):Prop where
 len : Z.length=σ.length
 slot:∀i st a,Z[i]? = some (some (st,a))->∃v,σ[i]? = some (some v)/\Am K (NN fp O) H v a (fp i)
 out:∀i,(∀st a,Z[i]? ≠ some (some (st,a)))->fp i=[]
 nd:∀i,(fp i).Nodup
 inj:∀i j p,p∈fp i->p∈fp j->i=j
 off:∀i p,p∈fp i->¬O p
 al:∀p,NN fp O p->H p≠none
noncomputable def Mg(Z Z':Ro)(σ σ':St):Prop:=∀(j:Nat) st a,Z[j]? = some (some (st,a))->st≠.own->∃a',Z'[j]? = some (some (st,a'))/\σ'[j]? = σ[j]?/\(st=.ro->a'=a)
theorem Mg.refl{Z:Ro}{σ:St}:Mg Z Z σ σ:=fun _ _ a h _=>⟨a,h,rfl,fun _=>rfl⟩
theorem Mg.trans{Z Z1 Z2:Ro}{σ σ1 σ2:St}(x:Mg Z Z1 σ σ1)(y:Mg Z1 Z2 σ1 σ2):Mg Z Z2 σ σ2:=fun j st a h n=>by
 obtain⟨a1,h1,e1,f1⟩:=x j st a h n;obtain⟨a2,h2,e2,f2⟩:=y j st a1 h1 n;exact⟨a2,h2,e2.trans e1,fun z=>(f2 z).trans (f1 z)⟩
noncomputable def RR(K:Frag)(N:Addr->Prop)(H:Hp)(σ:St)(v:V):R->List Addr->Prop
 | .val a,L=>Am K N H v a L
 | .ref i,L=>L=[]/\σ[i]? = some (some v)
noncomputable def RRs(K:Frag)(N:Addr->Prop)(H:Hp)(σ:St):List V->List R->List Addr->Prop
 | [],[],L=>L=[]
 | v::vs,r::rs,L=>∃L1 L2,L=L1++L2/\RR K N H σ v r L1/\RRs K N H σ vs rs L2
 | [],_::_,_=>False
 | _::_,[],_=>False
structure Post (K:Frag) (O:Addr->Prop) (fp:Nat->List Addr) (H:Hp) (Z Z':Ro) (σ σ':St) (L:List Addr) (fp':Nat->List Addr) (H':Hp):Prop where
 rel:Rel K Z' σ' H' (ad O L) fp'
 nd:L.Nodup
 lo:∀p∈L,¬O p
 new:∀p,(p∈L\/Fp fp' p)->Fp fp p\/H p=none
 kept:Kept (Fp fp) H H'
 ln : σ'.length=σ.length
 stab:Mg Z Z' σ σ'
noncomputable def Ji(K:Frag)(O:Addr->Prop)(fp:Nat->List Addr)(H:Hp)(Z Z':Ro)(σ:St)(r:R)(v:V)(H':Hp):Prop:=
 ∃L fp',Post K O fp H Z Z' σ σ L fp' H'/\RR K (NN fp' (ad O L)) H' σ v r L
noncomputable def Wc(K:Frag)(O:Addr->Prop)(fp:Nat->List Addr)(H:Hp)(Z Z':Ro)(σ:St)(rs:List R)(vs:List V)(H':Hp):Prop:=
 ∃L fp',Post K O fp H Z Z' σ σ L fp' H'/\RRs K (NN fp' (ad O L)) H' σ vs rs L
noncomputable def tE(K:Frag)(m:ME):TE:=fun σ H Q=>∃Z O fp,Rel K Z σ H O fp/\∃r Z',m Z=some (r,Z')/\∀v H',Ji K O fp H Z Z' σ r v H'->Q v H'
noncomputable def tT(K:Frag)(m:MT):TT:=fun σ H Q=>∃Z O fp,Rel K Z σ H O fp/\∃b Z',m Z=some (b,Z')/\∀fp' H',Post K O fp H Z Z' σ σ [] fp' H'->Q b H'
noncomputable def tA(K:Frag)(m:MA):TA:=fun σ H Q=>∃Z O fp,Rel K Z σ H O fp/\∃rs Z',m Z=some (rs,Z')/\∀vs H',Wc K O fp H Z Z' σ rs vs H'->Q vs H'
section
variable{K:Frag}{Z Z' Z1 Z2:Ro}{σ σ' σ1 σ2:St}{H H' H1 H2:Hp}{O O':Addr->Prop}{fp fp' fp1 fp2:Nat->List Addr}{L L1 L2:List Addr}
theorem JF{p:Addr}:ad O [] p↔O p:=by simp[ad]
theorem JD{p:Addr}:ad (ad O L1) L2 p↔ad O (L1++L2) p:=by simp[ad,or_assoc]
theorem Rel.congr(r:Rel K Z σ H O fp)(h:∀p,O p↔O' p):Rel K Z σ H O' fp:=by
 have e:O=O':=funext fun p=>propext (h p);exact e ▸ r
theorem Rel.weak(r:Rel K Z σ H O fp)(h:∀p,O' p->O p):Rel K Z σ H O' fp where
 len:=r.len
 slot:=fun i st a e=>by
  obtain⟨v,e1,q⟩:=r.slot i st a e;exact⟨v,e1,q.tr (M:=fun _=>False) (fun _ z=>z.elim) .refl (fun p z=>.inl (z.imp id (h p))) fun _ _ z=>z⟩
 out:=r.out
 nd:=r.nd
 inj:=r.inj
 off:=fun i p hp z=>r.off i p hp (h p z)
 al:=fun p z=>r.al p (z.imp id (h p))
theorem Rel.grow(r:Rel K Z σ H O fp)(s:BW H H')(hO:∀p,O' p->O p\/H p=none)(al:∀p,O' p->H' p≠none):Rel K Z σ H' O' fp where
 len:=r.len
 slot:=fun i st a e=>by
  obtain⟨v,e1,q⟩:=r.slot i st a e;refine⟨v,e1,q.tr (M:=fun _=>False) (fun _ z=>z.elim) (fun b o e _=>s b o e) (fun p z=>?_) fun _ _ z=>z⟩;rcases z with z|z
  .exact .inl (.inl z)
  .exact(hO p z).imp .inr id
 out:=r.out
 nd:=r.nd
 inj:=r.inj
 off:=fun i p hp z=>by
  rcases hO p z with q|q
  .exact r.off i p hp q
  .exact r.al p (.inl ⟨i,hp⟩) q
 al:=fun p z=>by
  rcases z with z|z
  .cases q:H p with
   | none=>exact absurd q (r.al p (.inl z))
   | some o=>rw[s p o q]; simp
  .exact al p z
theorem Rel.post(r:Rel K Z σ H O fp):Post K O fp H Z Z σ σ [] fp H:=
 ⟨r.congr fun p=>JF.symm,List.nodup_nil,fun _ h=>by simp at h,fun p h=>by rcases h with h|h; simp at h; exact .inl h,.refl,rfl,.refl⟩
theorem Post.then(x:Post K O fp H Z Z1 σ σ1 L1 fp1 H1)(y:Post K (ad O L1) fp1 H1 Z1 Z2 σ1 σ2 L2 fp2 H2):Post K O fp H Z Z2 σ σ2 (L1++L2) fp2 H2 where
 rel:=y.rel.congr fun p=>JD
 nd:=List.nodup_append.mpr ⟨x.nd,y.nd,fun a ha b hb e=>by subst e; exact y.lo a hb (.inr ha)⟩
 lo:=fun p hp z=>by
  rcases List.mem_append.mp hp with q|q
  .exact x.lo p q z
  .exact y.lo p q (.inl z)
 new:=fun p hp=>by
  have key:Fp fp1 p\/H1 p=none->Fp fp p\/H p=none:=fun q=>by
   rcases q with q|q
   .exact x.new p (.inr q)
   .cases e:H p with
    | none=>exact .inr rfl
    | some o =>
     by_cases hf:Fp fp p
     .exact .inl hf
     .rw[x.kept p o e (.inl hf)] at q; cases q
  rcases hp with q|q
  .rcases List.mem_append.mp q with q|q
   .exact x.new p (.inl q)
   .exact key (y.new p (.inl q))
  .exact key (y.new p (.inr q))
 kept:=x.kept.trans y.kept fun p z=>x.new p (.inr z)
 ln:=y.ln.trans x.ln
 stab:=x.stab.trans y.stab
theorem Post.drop(x:Post K O fp H Z Z1 σ σ1 (L1++L2) fp1 H1):Post K O fp H Z Z1 σ σ1 L2 fp1 H1 where
 rel:=x.rel.weak fun p z=>z.imp id fun q=>List.mem_append_right _ q
 nd:=(List.nodup_append.mp x.nd).2.1
 lo:=fun p hp=>x.lo p (List.mem_append_right _ hp)
 new:=fun p hp=>x.new p (hp.imp (List.mem_append_right _) id)
 kept:=x.kept
 ln:=x.ln
 stab:=x.stab
theorem Post.drop0(x:Post K O fp H Z Z1 σ σ1 L1 fp1 H1):Post K O fp H Z Z1 σ σ1 [] fp1 H1:=Post.drop (L1:=L1) (L2:=[]) (by rw[List.append_nil]; exact x)
theorem Post.rr{v:V}{r:R}(y:Post K (ad O L1) fp1 H1 Z1 Z2 σ σ L2 fp2 H2)(hr:Rel K Z1 σ H1 (ad O L1) fp1)(h:RR K (NN fp1 (ad O L1)) H1 σ v r L)(hL:∀p∈L,p∈L1):RR K (NN fp2 (ad O (L1++L2))) H2 σ v r L:=by
 cases r with
 | ref i=>exact h
 | val a =>
  refine Am.tr (M:=Fp fp1) (fun p z=>.inl z) y.kept (fun p z=>?_) (fun p hp z=>?_) h
  .rcases z with z|z
   .exact(y.new p (.inr z)).imp (fun q=>.inl q) id
   .rcases z with z|z
    .exact .inl (.inr (.inl z))
    .rcases List.mem_append.mp z with z|z
     .exact .inl (.inr (.inr z))
     .exact(y.new p (.inl z)).imp (fun q=>.inl q) id
  .obtain⟨i,hi⟩:=z
   exact hr.off i p hi (.inr (hL p hp))
theorem tE.mono{m:ME}{Q Q':VK}(h:tE K m σ H Q)(q:∀v H',Q v H'->Q' v H'):tE K m σ H Q':=by
 obtain⟨Z,O,fp,r,x,Z',e,k⟩:=h;exact⟨Z,O,fp,r,x,Z',e,fun v H' z=>q v H' (k v H' z)⟩
theorem IL{Q:List V->Hp->Prop}(h:tA K Aj σ H Q):FT σ H Q:=by
 obtain⟨Z,O,fp,r,x,Z',e,k⟩:=h;cases e;exact k [] H ⟨[],fp,r.post,rfl⟩
theorem FP{m:ME}{ms:MA}{Q:List V->Hp->Prop}(h:tA K (Ab m ms) σ H Q):Ce (tE K m) (tA K ms) σ H Q:=by
 obtain⟨Z,O,fp,r,x,Z',e,k⟩:=h;simp only[Ab,bind_eq_some_iff,map_eq_some_iff] at e;obtain⟨⟨r1,Z1⟩,e1,⟨rs,Z2⟩,e2,e3⟩:=e;cases e3;refine⟨Z,O,fp,r,r1,Z1,e1,fun v H1 yy=>?_⟩;obtain⟨L1,fp1,p1,q1⟩:=yy;refine⟨Z1,ad O L1,fp1,p1.rel,rs,_,e2,fun vs H2 yy=>?_⟩;obtain⟨L2,fp2,p2,q2⟩:=yy;refine k (v::vs) H2 ⟨L1++L2,fp2,p1.then p2,L1,L2,rfl,p2.rr p1.rel q1 fun _ z=>z,?_⟩;have e:ad (ad O L1) L2=ad O (L1++L2):=funext fun p=>propext JD;rw[<- e];exact q2
end
section
variable{K:Frag}{N N' M:Addr->Prop}{H H':Hp}
mutual
theorem Am.al:∀{a:A} {v:V} {L:List Addr},Am K N H v a L->∀p∈L,H p≠none
 | .fz d,v,L,r,p,hp=>by
  simp only[Am] at r;rw[r.1] at hp; simp at hp
 | .lst as,v,L,r,p,hp=>by
  simp only[Am] at r;obtain⟨a,vs,L',rfl,rfl,h,hz,hs⟩:=r;rcases List.mem_cons.mp hp with rfl|hp
  .rw[h]; simp
  .exact Ak.al hs p hp
 | .tup as,v,L,r,p,hp=>by
  simp only[Am] at r;obtain⟨a,vs,rfl,h,hz,hs⟩:=r;exact Ak.al hs p hp
 | .scr ns,v,L,r,p,hp=>by
  simp only[Am] at r;obtain⟨a,rfl,rfl,h,hz⟩:=r;simp at hp
 | .dic kvs,v,L,r,p,hp=>by
  simp only[Am] at r;obtain⟨a,us,rfl,rfl,h,hz,hs⟩:=r;have:p=a:=by simpa using hp
  subst this; rw[h]; simp
 | .dct kvs,v,L,r,p,hp=>by
  simp only[Am] at r;obtain⟨a,us,rfl,rfl,h,hz,hs⟩:=r;have:p=a:=by simpa using hp
  subst this; rw[h]; simp
 | .opq a o,v,L,r,p,hp=>by
  simp only[Am] at r;obtain⟨rfl,rfl,_⟩:=r;simp at hp
theorem Ak.al:∀{as:List A} {vs:List V} {L:List Addr},Ak K N H vs as L->∀p∈L,H p≠none
 | [],vs,L,r,p,hp=>by
  cases vs<;>simp only[Ak] at r;rw[r] at hp; simp at hp
 | a::as,vs,L,r,p,hp=>by
  cases vs with
  | nil=>simp only[Ak] at r
  | cons v vs =>
   simp only[Ak] at r;obtain⟨L1,L2,rfl,h1,h2⟩:=r;rcases List.mem_append.mp hp with hp|hp
   .exact Am.al h1 p hp
   .exact Ak.al h2 p hp
end
theorem Ak.len:∀{as:List A} {vs:List V} {L:List Addr},Ak K N H vs as L->vs.length=as.length:=by
 intro _l;induction _l with
 | nil =>
  intro _m;cases _m with
  | nil =>
   intro _ _;exact rfl
  | cons _ _ =>
   intro _ r;simp only[Ak] at r
 | cons a as ih =>
  intro _m;cases _m with
  | nil =>
   intro _ r;simp only[Ak] at r
  | cons v vs =>
   intro L r;simp only[Ak] at r;obtain⟨L1,L2,rfl,h1,h2⟩:=r;simp[ih h2]
noncomputable def Ap(N:Addr->Prop)(H:Hp):List V->List D->Prop
 | [],[]=>True
 | v::vs,d::ds=>RepA N H v d/\Ap N H vs ds
 | _,_=>False
theorem Ap.len:∀{vs:List V} {ds:List D},Ap N H vs ds->vs.length=ds.length:=by
 intro _l;induction _l with
 | nil =>
  intro _m;cases _m with
  | nil =>
   intro _;exact rfl
  | cons _ _ =>
   intro r;simp only[Ap] at r
 | cons v vs ih =>
  intro _m;cases _m with
  | nil =>
   intro r;simp only[Ap] at r
  | cons d ds =>
   intro r;simp[ih r.2]
theorem Ap.get:∀{vs:List V} {ds:List D},Ap N H vs ds->∀(i:Nat) v d,vs[i]? = some v->ds[i]? = some d->RepA N H v d
 | [],[],_,i,v,d,h,_=>by simp at h
 | [],_::_,r,_,_,_,_,_=>by simp only[Ap] at r
 | _::_,[],r,_,_,_,_,_=>by simp only[Ap] at r
 | x::vs,y::ds,r,0,v,d,h1,h2=>by simp at h1 h2; subst h1; subst h2; exact r.1
 | x::vs,y::ds,r,i+1,v,d,h1,h2=>Ap.get r.2 i v d (by simpa using h1) (by simpa using h2)
theorem Ap.mk:∀{vs:List V} {ds:List D},vs.length=ds.length->(∀(i:Nat) v d,vs[i]? = some v->ds[i]? = some d->RepA N H v d)->Ap N H vs ds:=by
 intro _l;induction _l with
 | nil =>
  intro _m;cases _m with
  | nil =>
   intro _ _;exact trivial
  | cons _ _ =>
   intro hl _;simp at hl
 | cons v vs ih =>
  intro _m;cases _m with
  | nil =>
   intro hl _;simp at hl
  | cons d ds =>
   intro hl h;exact⟨h 0 v d rfl rfl,ih (by simpa using hl) fun i v d e1 e2=>h (i+1) v d (by simpa using e1) (by simpa using e2)⟩
theorem SE{a:Addr}{vs:List V}{ds:List D}(h:H a=some (.lst vs))(hz:vs.length<=sizeLine)(hn:¬N a)(r:Ap N H vs ds):RepA N H (.ref a) (.lst ds):=.lst h hz hn r.len r.get
theorem KA{a:Addr}{vs:List V}{ds:List D}(h:H a=some (.tup vs))(hz:vs.length<=sizeLine)(r:Ap N H vs ds):RepA N H (.ref a) (.tup ds):=.tup h hz r.len r.get
theorem Ap.tr(hM:∀p,M p->N p)(k:Kept M H H')(hN:∀p,N' p->N p\/H p=none):∀{vs:List V} {ds:List D},Ap N H vs ds->Ap N' H' vs ds
 | [],[],_=>trivial
 | [],_::_,r=>by simp only[Ap] at r
 | _::_,[],r=>by simp only[Ap] at r
 | v::vs,d::ds,r=>⟨r.1.tr hM k hN,Ap.tr hM k hN r.2⟩
theorem Dh(h:∀p,N' p->N p){v:V}{d:D}(r:RepA N H v d):RepA N' H v d:=r.tr (M:=fun _=>False) (fun _ z=>z.elim) .refl fun p z=>.inl (h p z)
theorem IQ(h:∀p,N' p->N p){vs:List V}{ds:List D}(r:Ap N H vs ds):Ap N' H vs ds:=r.tr (M:=fun _=>False) (fun _ z=>z.elim) .refl fun p z=>.inl (h p z)
theorem DG(h:∀p,N' p->N p){v:V}{a:A}{L:List Addr}(r:Am K N H v a L):Am K N' H v a L:=r.tr (M:=fun _=>False) (fun _ z=>z.elim) .refl (fun p z=>.inl (h p z)) fun _ _ z=>z
theorem Ni(h:∀p,N' p->N p){vs:List V}{as:List A}{L:List Addr}(r:Ak K N H vs as L):Ak K N' H vs as L:=r.tr (M:=fun _=>False) (fun _ z=>z.elim) .refl (fun p z=>.inl (h p z)) fun _ _ z=>z
mutual
theorem Am.er:∀{a:A} {v:V} {L:List Addr} {d:D},Am K N H v a L->J.er a=some d->RepA (fun p=>N p/\p∉L) H v d
 | .fz d,v,L,d',r,e=>by
  simp only[Am] at r;simp only[J.er,Option.some.injEq] at e;subst e;exact Dh (fun p z=>z.1) r.2
 | .lst as,v,L,d',r,e=>by
  simp only[Am] at r;simp only[J.er,map_eq_some_iff] at e;obtain⟨a,vs,L',rfl,rfl,h,hz,hs⟩:=r;obtain⟨ds,e,rfl⟩:=e;exact SE h hz (fun z=>z.2 (by simp)) (IQ (fun p z=>⟨z.1,fun q=>z.2 (by simp[q])⟩) (Ak.er hs e))
 | .tup as,v,L,d',r,e=>by
  simp only[Am] at r;simp only[J.er,map_eq_some_iff] at e;obtain⟨a,vs,rfl,h,hz,hs⟩:=r;obtain⟨ds,e,rfl⟩:=e;exact KA h hz (Ak.er hs e)
 | .scr ns,v,L,d',r,e=>by simp[J.er] at e
 | .dic kvs,v,L,d',r,e=>by simp[J.er] at e
 | .dct kvs,v,L,d',r,e=>by simp[J.er] at e
 | .opq _ _,v,L,d',r,e=>by simp[J.er] at e
theorem Ak.er:∀{as:List A} {vs:List V} {L:List Addr} {ds:List D},Ak K N H vs as L->J.ers as=some ds->Ap (fun p=>N p/\p∉L) H vs ds
 | [],vs,L,ds,r,e=>by
  cases vs<;>simp only[Ak] at r;simp only[J.ers,Option.some.injEq] at e;subst e
  trivial
 | a::as,vs,L,ds,r,e=>by
  cases vs with
  | nil=>simp only[Ak] at r
  | cons v vs =>
   simp only[Ak] at r;simp only[J.ers,bind_eq_some_iff,map_eq_some_iff] at e;obtain⟨L1,L2,rfl,h1,h2⟩:=r;obtain⟨d,e1,ds',e2,rfl⟩:=e;exact⟨Dh (fun p z=>⟨z.1,fun q=>z.2 (by simp[q])⟩) (Am.er h1 e1),IQ (fun p z=>⟨z.1,fun q=>z.2 (by simp[q])⟩) (Ak.er h2 e2)⟩
end
theorem Ak.fzs:∀{as:List A} {vs:List V} {L:List Addr} {ds:List D},Ak K N H vs as L->J.fzs as=some ds->L=[]/\Ap N H vs ds
 | [],vs,L,ds,r,e=>by
  cases vs<;>simp only[Ak] at r;simp only[J.fzs,Option.some.injEq] at e;subst e;exact⟨r,trivial⟩
 | a::as,vs,L,ds,r,e=>by
  cases vs with
  | nil=>simp only[Ak] at r
  | cons v vs =>
   simp only[Ak] at r;obtain⟨L1,L2,rfl,h1,h2⟩:=r;cases a with
   | fz d =>
    simp only[J.fzs,map_eq_some_iff] at e;obtain⟨ds',e,rfl⟩:=e;simp only[Am] at h1;obtain⟨e1,q⟩:=Ak.fzs h2 e;exact⟨by rw[h1.1,e1]; rfl,h1.2,q⟩
   | _=>simp[J.fzs] at e
theorem E1{v:V}{d:D}(r:RepA N H v d):Am K N H v (.fz d) []:=by rw[Am]; exact⟨rfl,r⟩
theorem Ak.of:∀{vs:List V} {ds:List D},Ap N H vs ds->Ak K N H vs (ds.map A.fz) []:=by
 intro _l;induction _l with
 | nil =>
  intro _m;cases _m with
  | nil =>
   intro _;simp[Ak]
  | cons _ _ =>
   intro r;simp only[Ap] at r
 | cons v vs ih =>
  intro _m;cases _m with
  | nil =>
   intro r;simp only[Ap] at r
  | cons d ds =>
   intro r;simp only[List.map_cons,Ak];exact⟨[],[],rfl,E1 r.1,ih r.2⟩
end
section
variable{K:Frag}{Z Z' Z1 Z2:Ro}{σ σ' σ1 σ2:St}{H H' H1 H2:Hp}{O O':Addr->Prop}{fp fp' fp1 fp2:Nat->List Addr}{L L1 L2:List Addr}
noncomputable def pt(fp:Nat->List Addr)(i:Nat)(L:List Addr):Nat->List Addr:=fun j=>if j=i then L else fp j
theorem FO{i:Nat}:pt fp i L i=L:=by simp[pt]
theorem Ht{i j:Nat}(h:j≠i):pt fp i L j=fp j:=by simp[pt,h]
theorem BN{i j:Nat}{p:Addr}(h:p∈pt fp i L j):(j=i/\p∈L)\/(j≠i/\p∈fp j):=by
 by_cases e:j=i
 .subst e; rw[FO] at h; exact .inl ⟨rfl,h⟩
 .rw[Ht e] at h; exact .inr ⟨e,h⟩
theorem Rel.set(r:Rel K Z σ H O fp){i:Nat}{s:Slot}{o:Option V}(hi:i<Z.length)(hO:∀p,O' p->NN fp O p)(hL:∀p∈L,NN fp O p)(nd:L.Nodup)(hd:∀p∈L,∀j,j≠i->p∉fp j)(ho:∀p∈L,¬O' p)(hoo:∀j p,j≠i->p∈fp j->¬O' p)(hs:∀st a,s=some (st,a)->∃v,o=some v/\Am K (NN (pt fp i L) O') H v a L)(hn:s=none->L=[]):Rel K (Z.set i s) (σ.set i o) H O' (pt fp i L) where
 len:=by simp[r.len]
 slot:=fun j st a e=>by
  by_cases hj:j=i
  .subst hj
   rw[List.getElem?_set_self hi] at e;obtain⟨v,e1,q⟩:=hs st a (Option.some.inj e);refine⟨v,?_,by rw[FO]; exact q⟩;rw[List.getElem?_set_self (by rw[<- r.len]; exact hi),e1]
  .rw[List.getElem?_set_ne (Ne.symm hj)] at e
   obtain⟨v,e1,q⟩:=r.slot j st a e;refine⟨v,by rw[List.getElem?_set_ne (Ne.symm hj)]; exact e1,?_⟩;rw[Ht hj];refine DG (fun p z=>?_) q;rcases z with ⟨k,z⟩|z
   .rcases BN z with ⟨_,z⟩|⟨_,z⟩
    .exact hL p z
    .exact .inl ⟨k,z⟩
   .exact hO p z
 out:=fun j h=>by
  by_cases hj:j=i
  .subst hj
   rw[FO];cases s with
   | none=>exact hn rfl
   | some x=>exact absurd (List.getElem?_set_self hi) (h x.1 x.2)
  .rw[Ht hj]
   exact r.out j fun st a e=>h st a (by rw[List.getElem?_set_ne (Ne.symm hj)]; exact e)
 nd:=fun j=>by
  by_cases hj:j=i
  .subst hj; rw[FO]; exact nd
  .rw[Ht hj]; exact r.nd j
 inj:=fun j k p h1 h2=>by
  rcases BN h1 with ⟨e1,z1⟩|⟨e1,z1⟩
  .rcases BN h2 with ⟨e2,z2⟩|⟨e2,z2⟩
   .rw[e1,e2]
   .exact absurd z2 (hd p z1 k e2)
  .rcases BN h2 with ⟨e2,z2⟩|⟨e2,z2⟩
   .exact absurd z1 (hd p z2 j e1)
   .exact r.inj j k p z1 z2
 off:=fun j p h z=>by
  rcases BN h with ⟨e1,z1⟩|⟨e1,z1⟩
  .exact ho p z1 z
  .exact hoo j p e1 z1 z
 al:=fun p z=>by
  rcases z with ⟨j,z⟩|z
  .rcases BN z with ⟨_,z⟩|⟨_,z⟩
   .exact r.al p (hL p z)
   .exact r.al p (.inl ⟨j,z⟩)
  .exact r.al p (hO p z)
theorem II{i:Nat}{v:V}(h : σ[i]? = some (some v)): σ.set i (some v)=σ:=by
 apply List.ext_getElem?;intro j;by_cases e:j=i
 .subst e
  have:=(List.getElem?_eq_some_iff.mp h).1;rw[List.getElem?_set_self this,h]
 .rw[List.getElem?_set_ne (Ne.symm e)]
theorem Ay{α:Type}{l:List α}{i:Nat}{x:α}(h:l[i]? = some x):i<l.length:=(List.getElem?_eq_some_iff.mp h).1
theorem Fs{p:Addr}:NN fp (ad O []) p↔NN fp O p:=by simp[NN,ad]
theorem ET{v:V}{r:R}{d:D}(x:Post K O fp H Z Z1 σ σ L fp1 H1)(q:RR K (NN fp1 (ad O L)) H1 σ v r L)(e:share Z1 r=some (d,Z2)):
  ∃fp2,Post K O fp H Z Z2 σ σ [] fp2 H1/\RepA (NN fp2 (ad O [])) H1 v d:=by
 cases r with
 | val a =>
  simp only[share,map_eq_some_iff] at e;obtain⟨d',e,e'⟩:=e;cases e';refine⟨fp1,x.drop0,Dh (fun p z=>?_) (Am.er q e)⟩;have z':=Fs.mp z;refine⟨z'.imp id .inl,fun hp=>?_⟩;rcases z' with ⟨i,z⟩|z
  .exact x.rel.off i p z (.inr hp)
  .exact x.lo p hp z
 | ref i =>
  obtain⟨rfl,hv⟩:=q;simp only[share] at e;split at e
  .rename_i a ha
   simp only[map_eq_some_iff] at e;obtain⟨d',e,e'⟩:=e;cases e';obtain⟨v',hv',q⟩:=x.rel.slot i _ _ ha;rw[hv] at hv'; cases hv';have q2:RepA (NN (pt fp1 i []) (ad O [])) H1 v d:=Dh (fun p z=>by
    rcases z with ⟨j,z⟩|z
    .rcases BN z with ⟨_,z⟩|⟨hj,z⟩
     .simp at z
     .exact⟨.inl ⟨j,z⟩,fun hp=>hj (x.rel.inj j i p z hp)⟩
    .exact⟨.inr z,fun hp=>x.rel.off i p hp z⟩) (Am.er q e)
   have R:=x.rel.set (i:=i) (s:=some (.own,.fz d)) (o:=some v) (L:=[]) (O':=ad O []) (Ay ha) (fun p z=>.inr z) (fun p hp=>by simp at hp) List.nodup_nil (fun p hp=>by simp at hp) (fun p hp=>by simp at hp)
    (fun j p _ h=>x.rel.off j p h) (fun st a e=>by cases e; exact⟨v,rfl,E1 q2⟩) (fun e=>by cases e)
   rw[II hv] at R;refine⟨pt fp1 i [],⟨R,List.nodup_nil,fun p hp=>by simp at hp,fun p hp=>?_,x.kept,rfl,fun j st a' h n=>?_⟩,q2⟩
   .rcases hp with hp|⟨j,hp⟩
    .simp at hp
    .rcases BN hp with ⟨_,z⟩|⟨_,z⟩
     .simp at z
     .exact x.new p (.inr ⟨j,z⟩)
   .obtain⟨a2,h2,_,f2⟩:=x.stab j st a' h n
    refine⟨a2,?_,rfl,f2⟩;rw[List.getElem?_set_ne]
    .exact h2
    .rintro rfl
     rw[ha] at h2; cases h2; exact n rfl
  .cases e
theorem Oy{v:V}{r:R}{a:A}(x:Post K O fp H Z Z1 σ σ L fp1 H1)(q:RR K (NN fp1 (ad O L)) H1 σ v r L)(e:move Z1 r=some (a,Z2)):
  ∃L2 fp2,Post K O fp H Z Z2 σ σ L2 fp2 H1/\Am K (NN fp2 (ad O L2)) H1 v a L2:=by
 cases r with
 | val a =>
  simp only[move,Option.some.injEq] at e;cases e;exact⟨L,fp1,x,q⟩
 | ref i =>
  obtain⟨rfl,hv⟩:=q;simp only[move] at e;split at e
  .rename_i a' ha
   cases e;obtain⟨v',hv',q⟩:=x.rel.slot i _ _ ha;rw[hv] at hv'; cases hv';have nn:∀p,NN (pt fp1 i []) (ad O (fp1 i)) p->NN fp1 (ad O []) p:=fun p z=>by
    rcases z with ⟨j,z⟩|z|z
    .rcases BN z with ⟨_,z⟩|⟨_,z⟩
     .simp at z
     .exact .inl ⟨j,z⟩
    .exact .inr (.inl z)
    .exact .inl ⟨i,z⟩
   have R:=x.rel.set (i:=i) (s:=none) (o:=some v) (L:=[]) (O':=ad O (fp1 i)) (Ay ha) (fun p z=>nn p (.inr z)) (fun p hp=>by simp at hp) List.nodup_nil (fun p hp=>by simp at hp) (fun p hp=>by simp at hp)
    (fun j p hj h z=>by
     rcases z with z|z
     .exact x.rel.off j p h (.inl z)
     .exact hj (x.rel.inj j i p h z)) (fun st a e=>by cases e) (fun _=>rfl)
   rw[II hv] at R;refine⟨fp1 i,pt fp1 i [],⟨R,x.rel.nd i,fun p hp z=>x.rel.off i p hp (.inl z),fun p hp=>?_,x.kept,rfl,fun j st a' h n=>?_⟩,DG nn q⟩
   .rcases hp with hp|⟨j,hp⟩
    .exact x.new p (.inr ⟨i,hp⟩)
    .rcases BN hp with ⟨_,z⟩|⟨_,z⟩
     .simp at z
     .exact x.new p (.inr ⟨j,z⟩)
   .obtain⟨a2,h2,_,f2⟩:=x.stab j st a' h n
    refine⟨a2,?_,rfl,f2⟩;rw[List.getElem?_set_ne]
    .exact h2
    .rintro rfl
     rw[ha] at h2; cases h2; exact n rfl
  .cases e
end
section
variable{K:Frag}{Z Z' Z1 Z2:Ro}{σ σ' σ1 σ2:St}{H H' H1 H2:Hp}{O O' N:Addr->Prop}{fp fp' fp1 fp2:Nat->List Addr}{L L1 L2:List Addr}
theorem KC{v:V}{d:D}(r:RepA N H v d):RR K N H σ v (.val (.fz d)) []:=E1 (K:=K) r
noncomputable def K3(K:Frag)(N:Addr->Prop)(H:Hp)(a:A)(v:V)(H':Hp):Prop:=BW H H'/\∃L,Am K (fun p=>N p\/p∈L) H' v a L/\L.Nodup/\∀p∈L,H p=none
noncomputable abbrev JC(K:Frag)(N:Addr->Prop)(H:Hp):List V->List A->Prop
 | [],[]=>True
 | v::vs,a::as=>(∃L,Am K N H v a L)/\JC K N H vs as
 | _,_=>False
noncomputable def OpN(K:Frag)(f:List A->Option A)(r:List V->Hp->VK->Prop):Prop:=
 ∀N H xs as b Q,JC K N H xs as->f as=some b->(∀v H',K3 K N H b v H'->Q v H')->r xs H Q
theorem Rel.peek{r:R}{v:V}{a:A}(x:Rel K Z σ H O fp)(q:RR K (NN fp O) H σ v r L)(e:peek Z r=some a):∃L,Am K (NN fp O) H v a L:=by
 cases r with
 | val b =>
  simp only[J.peek,Option.some.injEq] at e;subst e;exact⟨L,q⟩
 | ref i =>
  simp only[J.peek] at e;split at e
  .rename_i st b hb
   cases e;obtain⟨v',h1,h2⟩:=x.slot i _ _ hb;rw[q.2] at h1; cases h1;exact⟨_,h2⟩
  .cases e
theorem Rel.peeks(x:Rel K Z σ H O fp):∀{rs:List R} {vs:List V} {as:List A} {L:List Addr},RRs K (NN fp O) H σ vs rs L->J.peeks Z rs=some as->JC K (NN fp O) H vs as
 | [],[],as,L,_,e=>by
  simp only[J.peeks,Option.some.injEq] at e;subst e
  trivial
 | [],_::_,_,_,q,_=>by simp only[RRs] at q
 | _::_,[],_,_,q,_=>by simp only[RRs] at q
 | r::rs,v::vs,as,L,q,e=>by
  simp only[J.peeks,bind_eq_some_iff,map_eq_some_iff] at e;obtain⟨a,e1,as',e2,rfl⟩:=e;simp only[RRs] at q;obtain⟨L1,L2,rfl,q1,q2⟩:=q;exact⟨x.peek q1 e1,x.peeks q2 e2⟩
theorem Post.out{a:A}{v:V}(x:Post K O fp H Z Z1 σ σ L fp1 H1)(o:K3 K (NN fp1 (ad O L)) H1 a v H2):Ji K O fp H Z Z1 σ (.val a) v H2:=by
 obtain⟨s,L',r,nd,nw⟩:=o;have al:=r.al;have alO:∀p,NN fp1 (ad O L) p->H1 p≠none:=x.rel.al;refine⟨L',fp1,⟨x.rel.grow s (fun p z=>z.imp .inl (nw p)) fun p z=>?_,nd,fun p hp z=>alO p (.inr (.inl z)) (nw p hp),fun p hp=>?_,x.kept.trans (BW.kept (L:=fun _=>False) s) fun _ z=>z.elim,x.ln,x.stab⟩,?_⟩
 .rcases z with z|z
  .intro q
   have:=alO p (.inr (.inl z));cases e:H1 p with
   | none=>exact this e
   | some o=>rw[s p o e] at q; cases q
  .exact al p z
 .rcases hp with hp|hp
  .have e1:=nw p hp
   cases e:H p with
   | none=>exact .inr rfl
   | some o =>
    by_cases hf:Fp fp p
    .exact .inl hf
    .rw[x.kept p o e (.inl hf)] at e1; cases e1
  .exact x.new p (.inr hp)
 .refine DG (fun p z=>?_) r
  rcases z with z|z|z
  .exact .inl (.inl z)
  .exact .inl (.inr (.inl z))
  .exact .inr z
theorem N5{f:List A->Option A}{r:List V->Hp->VK->Prop}{m:MA}{Q:VK}(ok:OpN K f r)(h:tE K (opM f m) σ H Q):tA K m σ H fun vs H1=>r vs H1 Q:=by
 obtain⟨Z,O,fp,rl,x,Z',e,k⟩:=h;simp only[opM,bind_eq_some_iff,map_eq_some_iff] at e;obtain⟨⟨rs,Z1⟩,e1,as,e2,b,e3,e4⟩:=e;cases e4;refine⟨Z,O,fp,rl,rs,_,e1,fun vs H1 yy=>?_⟩;obtain⟨L,fp1,p,q⟩:=yy;exact ok _ H1 vs as b Q (p.rel.peeks q e2) e3 fun v H' o=>k v H' (p.out o)
theorem VQ{i:Nat}{Q:VK}(h:tE K (Ad i) σ H Q):L9 i σ H Q:=by
 obtain⟨Z,O,fp,rl,x,Z',e,k⟩:=h;simp only[Ad] at e;split at e
 .rename_i st d hd
  cases e;obtain⟨v,h1,h2⟩:=rl.slot i _ _ hd;refine⟨v,h1,k v H ⟨[],fp,rl.post,?_⟩⟩;rw[Am] at h2;exact KC (Dh (fun p z=>Fs.mp z) h2.2)
 .rename_i y hn hy
  cases e;obtain⟨st,a⟩:=y;obtain⟨v,h1,h2⟩:=rl.slot i _ _ hy;exact⟨v,h1,k v H ⟨[],fp,rl.post,rfl,h1⟩⟩
 .cases e
theorem Hf{d:D}{v:V}{Q:VK}(hv:∀N H,RepA N H v d)(h:tE K (Ag d) σ H Q):tC v σ H Q:=by
 obtain⟨Z,O,fp,rl,x,Z',e,k⟩:=h;cases e;exact k v H ⟨[],fp,rl.post,KC (hv _ _)⟩
theorem Rg{m:ME}{Q:VK}(h:tE K (Ae m) σ H Q):tE K m σ H Q:=by
 obtain⟨Z,O,fp,rl,x,Z',e,k⟩:=h;simp only[Ae,bind_eq_some_iff,map_eq_some_iff] at e;obtain⟨⟨r,Z1⟩,e1,⟨d,Z2⟩,e2,e3⟩:=e;cases e3;refine⟨Z,O,fp,rl,r,Z1,e1,fun v H1 yy=>?_⟩;obtain⟨L,fp1,p,q⟩:=yy;obtain⟨fp2,p2,q2⟩:=ET p q e2;exact k v H1 ⟨[],fp2,p2,KC q2⟩
theorem NS{v:V}{a:A}{b:Bool}(h:Am K N H v a L)(e:DW a=some b):v=.bl b:=by
 cases a with
 | fz d =>
  cases d with
  | bl c =>
   simp only[DW,Option.some.injEq] at e;subst e;rw[Am] at h;obtain⟨_,h⟩:=h;cases h;rfl
  | _=>simp[DW] at e
 | _=>simp[DW] at e
theorem KP{m:ME}{Q:Bool->Hp->Prop}(h:tT K (AG m) σ H Q):tE K m σ H fun x H1=>∃c,x=.bl c/\Q c H1:=by
 obtain⟨Z,O,fp,rl,x,Z',e,k⟩:=h;simp only[AG,bind_eq_some_iff,map_eq_some_iff] at e;obtain⟨⟨r,Z1⟩,e1,a,e2,b,e3,e4⟩:=e;cases e4;refine⟨Z,O,fp,rl,r,_,e1,fun v H1 yy=>?_⟩;obtain⟨L,fp1,p,q⟩:=yy;obtain⟨L',q'⟩:=p.rel.peek q e2;exact⟨_,NS q' e3,k fp1 H1 p.drop0⟩
theorem Post.next{σ2:St}(x:Post K O fp H Z Z1 σ σ1 [] fp1 H1)(y:Post K O fp1 H1 Z1 Z2 σ1 σ2 L2 fp2 H2):Post K O fp H Z Z2 σ σ2 L2 fp2 H2:=by
 have e:ad O []=O:=funext fun p=>propext JF;exact Post.then (L1:=[]) x (by rw[e]; exact y)
theorem Post.rel0(x:Post K O fp H Z Z1 σ σ1 [] fp1 H1):Rel K Z1 σ1 H1 O fp1:=x.rel.congr fun p=>JF
theorem Ji.pre{r:R}{v:V}(x:Post K O fp H Z Z1 σ σ [] fp1 H1)(y:Ji K O fp1 H1 Z1 Z2 σ r v H2):Ji K O fp H Z Z2 σ r v H2:=by
 obtain⟨L,fp2,p,q⟩:=y;exact⟨L,fp2,x.next p,q⟩
theorem Xb{a b:MT}{Q:Bool->Hp->Prop}(h:tT K (orT a b) σ H Q):tT K a σ H fun c H1=>if c=true then Q true H1 else tT K b σ H1 Q:=by
 obtain⟨Z,O,fp,rl,x,Z',e,k⟩:=h;simp only[orT,bind_eq_some_iff] at e;obtain⟨⟨c,Z1⟩,e1,e2⟩:=e;refine⟨Z,O,fp,rl,c,Z1,e1,fun fp1 H1 p=>?_⟩;cases c with
 | false =>
  simp at e2;rw[if_neg Bool.false_ne_true];exact⟨Z1,O,fp1,p.rel0,x,Z',e2,fun fp2 H2 p2=>k fp2 H2 (p.next p2)⟩
 | true =>
  simp at e2;obtain⟨rfl,rfl⟩:=e2;rw[if_pos rfl];exact k fp1 H1 p
theorem V3{a:MT}{Q:Bool->Hp->Prop}(h:tT K (B3 a) σ H Q):tT K a σ H fun c H1=>Q (!c) H1:=by
 obtain⟨Z,O,fp,rl,x,Z',e,k⟩:=h;simp only[B3,map_eq_some_iff] at e;obtain⟨⟨c,Z1⟩,e1,e2⟩:=e;cases e2;exact⟨Z,O,fp,rl,c,_,e1,k⟩
theorem KQ{m:ME}{Q:Bool->Hp->Prop}{Z Z':Ro}{b:Bool}{O:Addr->Prop}{fp:Nat->List Addr}(rl:Rel K Z σ H O fp)(e:AG m Z=some (b,Z'))(k:∀fp' H',Post K O fp H Z Z' σ σ [] fp' H'->Q b H'):tE K m σ H fun x H1=>∃c,x=.bl c/\Q c H1:=
 KP ⟨Z,O,fp,rl,b,Z',e,k⟩
theorem VL{a b:ME}{Q:VK}(h:tE K (andM a b) σ H Q):tE K a σ H fun x H1=>∃c,x=.bl c/\if c=true then tE K b σ H1 Q else Q (.bl false) H1:=by
 obtain⟨Z,O,fp,rl,x,Z',e,k⟩:=h;simp only[andM,bind_eq_some_iff] at e;obtain⟨⟨c,Z1⟩,e1,e2⟩:=e;refine KQ (Q:=fun c H1=>if c=true then tE K b σ H1 Q else Q (.bl false) H1) rl e1 fun fp1 H1 p=>?_;cases c with
 | true =>
  rw[if_pos rfl] at e2 |-;exact⟨Z1,O,fp1,p.rel0,x,Z',e2,fun v H2 p2=>k v H2 (p2.pre p)⟩
 | false =>
  simp at e2;obtain⟨rfl,rfl⟩:=e2;rw[if_neg Bool.false_ne_true];exact k _ H1 ⟨[],fp1,p,KC (.bl _)⟩
theorem W2{a b:ME}{Q:VK}(h:tE K (orM a b) σ H Q):tE K a σ H fun x H1=>∃c,x=.bl c/\if c=true then Q (.bl true) H1 else tE K b σ H1 Q:=by
 obtain⟨Z,O,fp,rl,x,Z',e,k⟩:=h;simp only[orM,bind_eq_some_iff] at e;obtain⟨⟨c,Z1⟩,e1,e2⟩:=e;refine KQ (Q:=fun c H1=>if c=true then Q (.bl true) H1 else tE K b σ H1 Q) rl e1 fun fp1 H1 p=>?_;cases c with
 | false =>
  simp at e2;rw[if_neg Bool.false_ne_true];exact⟨Z1,O,fp1,p.rel0,x,Z',e2,fun v H2 p2=>k v H2 (p2.pre p)⟩
 | true =>
  simp at e2;obtain⟨rfl,rfl⟩:=e2;rw[if_pos rfl];exact k _ H1 ⟨[],fp1,p,KC (.bl _)⟩
theorem VO{a:ME}{Q:VK}(h:tE K (notM a) σ H Q):tE K a σ H fun x H1=>∃c,x=.bl c/\Q (.bl (!c)) H1:=by
 obtain⟨Z,O,fp,rl,x,Z',e,k⟩:=h;simp only[notM,map_eq_some_iff] at e;obtain⟨⟨c,Z1⟩,e1,e2⟩:=e;cases e2;exact KQ (Q:=fun c H1=>Q (.bl (!c)) H1) rl e1 fun fp1 H1 p=>k _ H1 ⟨[],fp1,p,KC (.bl _)⟩
theorem RRs.vals:∀{rs:List R} {vs:List V} {as:List A} {L:List Addr},RRs K N H σ vs rs L->J.vals rs=some as->Ak K N H vs as L:=by
 intro _l;induction _l with
 | nil =>
  intro _m;cases _m with
  | nil =>
   intro as L q e;simp only[J.vals,Option.some.injEq] at e;subst e;simp only[RRs] at q;simp only[Ak];exact q
  | cons _ _ =>
   intro _ _ q _;simp only[RRs] at q
 | cons r rs ih =>
  intro _m;cases _m with
  | nil =>
   intro _ _ q _;simp only[RRs] at q
  | cons v vs =>
   intro as L q e;cases r with
   | ref i=>simp[J.vals] at e
   | val a =>
    simp only[J.vals,map_eq_some_iff] at e;obtain⟨as',e2,rfl⟩:=e;simp only[RRs] at q;obtain⟨L1,L2,rfl,q1,q2⟩:=q;simp only[Ak];exact⟨L1,L2,rfl,q1,ih q2 e2⟩
theorem CW{p:Addr}{o:HO}(h:H p=none):BW H (upd H p o):=fun b o' e=>by
 rw[Au (Du e h)]; exact e
theorem Post.more{L':List Addr}(x:Post K O fp H Z Z1 σ σ1 L fp1 H1)(s:BW H1 H2)(nd:L'.Nodup)(h:∀p∈L',p∈L\/(H1 p=none/\H2 p≠none)):Post K O fp H Z Z1 σ σ1 L' fp1 H2 where
 rel:=x.rel.grow s (fun p z=>by
   rcases z with z|z
   .exact .inl (.inl z)
   .rcases h p z with q|q
    .exact .inl (.inr q)
    .exact .inr q.1) fun p z=>by
   have key:H1 p≠none->H2 p≠none:=fun n q=>by
    cases e:H1 p with
    | none=>exact n e
    | some o=>rw[s p o e] at q; cases q
   rcases z with z|z
   .exact key (x.rel.al p (.inr (.inl z)))
   .rcases h p z with q|q
    .exact key (x.rel.al p (.inr (.inr q)))
    .exact q.2
 nd:=nd
 lo:=fun p hp z=>by
  rcases h p hp with q|q
  .exact x.lo p q z
  .exact x.rel.al p (.inr (.inl z)) q.1
 new:=fun p hp=>by
  rcases hp with hp|hp
  .rcases h p hp with q|q
   .exact x.new p (.inl q)
   .cases e:H p with
    | none=>exact .inr rfl
    | some o =>
     by_cases hf:Fp fp p
     .exact .inl hf
     .have:=x.kept p o e (.inl hf)
      rw[q.1] at this; cases this
  .exact x.new p (.inr hp)
 kept:=x.kept.trans (BW.kept (L:=fun _=>False) s) fun _ z=>z.elim
 ln:=x.ln
 stab:=x.stab
theorem VP{m:MA}{Q:VK}(h:tE K (Hg m) σ H Q):V4 (tA K m) σ H Q:=by
 obtain⟨Z,O,fp,rl,x,Z',e,k⟩:=h;simp only[Hg,bind_eq_some_iff] at e;obtain⟨⟨rs,Z1⟩,e1,as,e2,e3⟩:=e;split at e3
 .rename_i hz
  cases e3;refine⟨Z,O,fp,rl,rs,_,e1,fun vs H1 yy=>?_⟩
  obtain⟨L,fp1,p,q⟩:=yy;have q':=q.vals e2;have hl:=q'.len;refine⟨by rw[hl]; exact hz,fun a ha=>k _ _ ?_⟩;have s:=CW (o:=.tup vs) ha;have q2:Ak K (NN fp1 (ad O L)) (upd H1 a (.tup vs)) vs as L:=q'.tr (M:=fun _=>False) (fun _ z=>z.elim) (BW.kept s) (fun p z=>.inl z) fun _ _ z=>z;unfold mkT;split
  .rename_i ds hd
   obtain⟨rfl,qd⟩:=q2.fzs hd;exact⟨[],fp1,p.more s List.nodup_nil (fun p hp=>by simp at hp),KC (KA AB (by rw[hl]; exact hz) qd)⟩
  .refine⟨L,fp1,p.more s p.nd (fun p hp=>.inl hp),?_⟩
   show Am _ _ _ _ _ _;rw[Am];exact⟨a,vs,rfl,AB,by rw[hl]; exact hz,q2⟩
 .cases e3
theorem VN{m:MA}{Q:VK}(h:tE K (lstM m) σ H Q):W4 (tA K m) σ H Q:=by
 obtain⟨Z,O,fp,rl,x,Z',e,k⟩:=h;simp only[lstM,bind_eq_some_iff] at e;obtain⟨⟨rs,Z1⟩,e1,as,e2,e3⟩:=e;split at e3
 .rename_i hz
  cases e3;refine⟨Z,O,fp,rl,rs,_,e1,fun vs H1 yy=>?_⟩
  obtain⟨L,fp1,p,q⟩:=yy;have q':=q.vals e2;have hl:=q'.len;refine⟨by rw[hl]; exact hz,fun a ha=>k _ _ ?_⟩;have s:=CW (o:=.lst vs) ha;have nL:a∉L:=fun z=>p.rel.al a (.inr (.inr z)) ha;refine⟨a::L,fp1,p.more s (List.nodup_cons.mpr ⟨nL,p.nd⟩) (fun b hb=>?_),?_⟩
  .rcases List.mem_cons.mp hb with rfl|hb
   .exact .inr ⟨ha,by rw[AB]; simp⟩
   .exact .inl hb
  .show Am _ _ _ _ _ _
   rw[Am];refine⟨a,vs,L,rfl,rfl,AB,by rw[hl]; exact hz,q'.tr (M:=fun _=>False) (fun _ z=>z.elim) (BW.kept s) (fun b z=>?_) fun _ _ z=>z⟩;rcases z with z|z|z
   .exact .inl (.inl z)
   .exact .inl (.inr (.inl z))
   .rcases List.mem_cons.mp z with rfl|z
    .exact .inr ha
    .exact .inl (.inr (.inr z))
 .cases e3
end
noncomputable def O4(K:Frag)(O:Addr->Prop)(fp:Nat->List Addr)(H:Hp)(Z:Ro)(σ:St)(D:Ends):Fl->Prop
 | .next Z'=>∀σ' fp' H',Post K O fp H Z Z' σ σ' [] fp' H'->D.nx σ' H'
 | .brk Z'=>∀σ' fp' H',Post K O fp H Z Z' σ σ' [] fp' H'->D.bk σ' H'
 | .cnt Z'=>∀σ' fp' H',Post K O fp H Z Z' σ σ' [] fp' H'->D.ct σ' H'
 | .ret a Z'=>∀σ' v L fp' H',Post K O fp H Z Z' σ σ' L fp' H'->Am K (NN fp' (ad O L)) H' v a L->D.rt v H'
noncomputable def tS(K:Frag)(m:MS):TS:=fun D σ H=>∃Z O fp,Rel K Z σ H O fp/\∃fl,m Z=some fl/\O4 K O fp H Z σ D fl
section
variable{K:Frag}{Z Z' Z1 Z2:Ro}{σ σ' σ1 σ2:St}{H H' H1 H2:Hp}{O O' N:Addr->Prop}{fp fp' fp1 fp2:Nat->List Addr}{L L1 L2:List Addr}{D:Ends}
theorem O4.pre{fl:Fl}(x:Post K O fp H Z Z1 σ σ1 [] fp1 H1)(w:O4 K O fp H Z σ D fl):O4 K O fp1 H1 Z1 σ1 D fl:=by
 cases fl with
 | next Z'=>exact fun σ' fp' H' p=>w σ' fp' H' (x.next p)
 | brk Z'=>exact fun σ' fp' H' p=>w σ' fp' H' (x.next p)
 | cnt Z'=>exact fun σ' fp' H' p=>w σ' fp' H' (x.next p)
 | ret a Z'=>exact fun σ' v L fp' H' p q=>w σ' v L fp' H' (x.next p) q
theorem SY(h:tS K Bf D σ H):Tz D σ H:=by
 obtain⟨Z,O,fp,rl,fl,e,w⟩:=h;cases e;exact w σ fp H rl.post
theorem V1{a b:MS}(h:tS K (AA a b) D σ H):Xa (tS K a) (tS K b) D σ H:=by
 obtain⟨Z,O,fp,rl,fl,e,w⟩:=h;simp only[AA,bind_eq_some_iff] at e;obtain⟨f1,e1,e2⟩:=e;refine⟨Z,O,fp,rl,f1,e1,?_⟩;cases f1 with
 | next Z1=>exact fun σ1 fp1 H1 p=>⟨Z1,O,fp1,p.rel0,fl,e2,w.pre p⟩
 | brk Z1=>cases e2; exact w
 | cnt Z1=>cases e2; exact w
 | ret a Z1=>cases e2; exact w
theorem W9{c:MT}{a b:MS}(h:tS K (ifS c a b) D σ H):VT (tT K c) (tS K a) (tS K b) D σ H:=by
 obtain⟨Z,O,fp,rl,fl,e,w⟩:=h;simp only[ifS,bind_eq_some_iff] at e;obtain⟨⟨c,Z1⟩,e1,e2⟩:=e;refine⟨Z,O,fp,rl,c,Z1,e1,fun fp1 H1 p=>?_⟩;cases c with
 | true =>
  simp at e2;rw[if_pos rfl];exact⟨Z1,O,fp1,p.rel0,fl,e2,w.pre p⟩
 | false =>
  simp at e2;rw[if_neg Bool.false_ne_true];exact⟨Z1,O,fp1,p.rel0,fl,e2,w.pre p⟩
theorem VV{m:ME}(h:tS K (Hw m) D σ H):JB (tE K m) D σ H:=by
 obtain⟨Z,O,fp,rl,fl,e,w⟩:=h;simp only[Hw,map_eq_some_iff] at e;obtain⟨⟨r,Z1⟩,e1,e2⟩:=e;cases e2;exact⟨Z,O,fp,rl,r,Z1,e1,fun v H1 ⟨L,fp1,p,q⟩=>w σ fp1 H1 p.drop0⟩
theorem V0{m:ME}(h:tS K (retS m) D σ H):W8 (tE K m) D σ H:=by
 obtain⟨Z,O,fp,rl,fl,e,w⟩:=h;simp only[retS,bind_eq_some_iff,map_eq_some_iff] at e;obtain⟨⟨r,Z1⟩,e1,⟨a,Z2⟩,e2,e3⟩:=e;cases e3;refine⟨Z,O,fp,rl,r,Z1,e1,fun v H1 yy=>?_⟩;obtain⟨L,fp1,p,q⟩:=yy;obtain⟨L2,fp2,p2,q2⟩:=Oy p q e2;exact w σ v L2 fp2 H1 p2 q2
theorem PD{i:Nat}(h:free Z i=true):i<Z.length/\∀st a,Z[i]? = some (some (st,a))->st=.own:=by
 unfold free at h;split at h
 .rename_i e
  exact⟨Ay e,fun st a e'=>by rw[e] at e'; cases e'⟩
 .rename_i a e
  exact⟨Ay e,fun st a e'=>by rw[e] at e'; cases e'; rfl⟩
 .cases h
theorem Post.store{i:Nat}{v:V}{a:A}{σ1:St}(x:Post K O fp H Z Z1 σ σ1 (L1++L2) fp1 H1)(hf:free Z1 i=true)(q:Am K (NN fp1 (ad O (L1++L2))) H1 v a L1):
  Post K O fp H Z (Z1.set i (some (.own,a))) σ (σ1.set i (some v)) L2 (pt fp1 i L1) H1:=by
 obtain⟨hi,ho⟩:=PD hf;have nd:=List.nodup_append.mp x.nd;have nn:∀p,NN (pt fp1 i L1) (ad O L2) p->NN fp1 (ad O (L1++L2)) p:=fun p z=>by
  rcases z with ⟨j,z⟩|z|z
  .rcases BN z with ⟨_,z⟩|⟨_,z⟩
   .exact .inr (.inr (List.mem_append_left _ z))
   .exact .inl ⟨j,z⟩
  .exact .inr (.inl z)
  .exact .inr (.inr (List.mem_append_right _ z))
 refine⟨x.rel.set (O':=ad O L2) hi (fun p z=>nn p (.inr z)) (fun p hp=>.inr (.inr (List.mem_append_left _ hp))) nd.1 (fun p hp j _ z=>x.rel.off j p z (.inr (List.mem_append_left _ hp))) (fun p hp z=>?_)
  (fun j p _ h z=>x.rel.off j p h (z.imp id (List.mem_append_right _))) (fun st a' e=>by cases e; exact⟨v,rfl,DG nn q⟩) (fun e=>by cases e),nd.2.1,fun p hp=>x.lo p (List.mem_append_right _ hp),fun p hp=>?_,x.kept,by rw[List.length_set]; exact x.ln,fun j st a' h n=>?_⟩
 .rcases z with z|z
  .exact x.lo p (List.mem_append_left _ hp) z
  .exact nd.2.2 p hp p z rfl
 .rcases hp with hp|⟨j,hp⟩
  .exact x.new p (.inl (List.mem_append_right _ hp))
  .rcases BN hp with ⟨_,z⟩|⟨_,z⟩
   .exact x.new p (.inl (List.mem_append_left _ z))
   .exact x.new p (.inr ⟨j,z⟩)
 .obtain⟨a2,h2,e2,f2⟩:=x.stab j st a' h n
  have hj:j≠i:=by
   rintro rfl;exact n (ho st a2 h2)
  exact⟨a2,by rw[List.getElem?_set_ne (Ne.symm hj)]; exact h2,by rw[List.getElem?_set_ne (Ne.symm hj)]; exact e2,f2⟩
theorem G3{v:V}{r:R}{a:A}(x:Post K O fp H Z Z1 σ σ L fp1 H1)(q:RR K (NN fp1 (ad O L)) H1 σ v r L)(e:keep Z1 r=some (a,Z2)):
  ∃L2 fp2,Post K O fp H Z Z2 σ σ L2 fp2 H1/\Am K (NN fp2 (ad O L2)) H1 v a L2:=by
 cases r with
 | val b =>
  simp only[keep,Option.some.injEq] at e;cases e;exact⟨L,fp1,x,q⟩
 | ref i =>
  simp only[keep,map_eq_some_iff] at e;obtain⟨⟨d,Z3⟩,e,e'⟩:=e;cases e';obtain⟨fp2,p,q2⟩:=ET x q e;exact⟨[],fp2,p,E1 q2⟩
theorem Rj{i:Nat}{m:ME}(h:tS K (A9 i m) D σ H):OY (tE K m) (HW i) D σ H:=by
 obtain⟨Z,O,fp,rl,fl,e,w⟩:=h;simp only[A9,bind_eq_some_iff] at e;obtain⟨⟨r,Z1⟩,e1,⟨a,Z2⟩,e2,e3⟩:=e;split at e3
 .rename_i hf
  cases e3;refine⟨Z,O,fp,rl,r,Z1,e1,fun v H1 yy=>?_⟩
  obtain⟨L,fp1,p,q⟩:=yy;obtain⟨L2,fp2,p2,q2⟩:=G3 p q e2;exact w _ _ H1 (Post.store (L1:=L2) (L2:=[]) (by rw[List.append_nil]; exact p2) hf (by rw[List.append_nil]; exact q2))
 .cases e3
noncomputable def Fi:List Nat->TGs
 | []=>Wn
 | i::is=>S9 (HW i) (Fi is)
theorem Jy{Q:St->Hp->Prop}:∀{is:List Nat} {as:List A} {vs:List V} {Z1 Z2:Ro} {σ1:St} {fp1:Nat->List Addr} {L:List Addr},Post K O fp H Z Z1 σ σ1 L fp1 H1->Ak K (NN fp1 (ad O L)) H1 vs as L->CC is as Z1=some Z2 ->
  (∀σ' fp',Post K O fp H Z Z2 σ σ' [] fp' H1->Q σ' H1)->Fi is vs σ1 H1 Q:=by
 intro _l;induction _l with
 | nil =>
  intro _m;cases _m with
  | nil =>
   intro vs Z1 Z2 σ1 fp1 L x q e k;cases vs with
   | cons v vs=>simp only[Ak] at q
   | nil =>
    simp only[CC,Option.some.injEq] at e;subst e;exact⟨rfl,k σ1 fp1 x.drop0⟩
  | cons _ _ =>
   intro _ _ _ _ _ _ _ _ e _;simp[CC] at e
 | cons i is ih =>
  intro _m;cases _m with
  | nil =>
   intro _ _ _ _ _ _ _ _ e _;simp[CC] at e
  | cons a as =>
   intro vs Z1 Z2 σ1 fp1 L x q e k;cases vs with
   | nil=>simp only[Ak] at q
   | cons v vs =>
    simp only[Ak] at q;obtain⟨L1,L2,rfl,q1,q2⟩:=q;simp only[CC] at e;split at e
    .rename_i hf
     refine⟨v,vs,rfl,?_⟩;have p:=x.store hf q1;refine ih p (Ni (fun p z=>?_) q2) e k;rcases z with ⟨j,z⟩|z|z
     .rcases BN z with ⟨_,z⟩|⟨_,z⟩
      .exact .inr (.inr (List.mem_append_left _ z))
      .exact .inl ⟨j,z⟩
     .exact .inr (.inl z)
     .exact .inr (.inr (List.mem_append_right _ z))
    .cases e
theorem Am.parts{v:V}{a:A}{as:List A}(q:Am K N H v a L)(e:EN a=some as):∃p vs,v=.ref p/\SqT K H p vs/\Ak K N H vs as L:=by
 cases a with
 | tup bs =>
  simp only[EN,Option.some.injEq] at e;subst e;rw[Am] at q;obtain⟨p,vs,rfl,h,hz,hs⟩:=q;exact⟨p,vs,rfl,.inl (.inl h),hs⟩
 | fz d =>
  cases d with
  | tup ds =>
   simp only[EN,Option.some.injEq] at e;subst e;rw[Am] at q;obtain⟨rfl,q⟩:=q;cases q with
   | tup h hz hl hr=>exact⟨_,_,rfl,.inl (.inl h),Ak.of (Ap.mk hl hr)⟩
  | _=>simp[EN] at e
 | _=>simp[EN] at e
theorem IH:∀{is:List Nat} {as:List A} {Z1 Z2:Ro},CC is as Z1=some Z2->is.length=as.length:=by
 intro _l;induction _l with
 | nil =>
  intro _m;cases _m with
  | nil =>
   intro _ _ _;exact rfl
  | cons _ _ =>
   intro _ _ e;simp[CC] at e
 | cons i is ih =>
  intro _m;cases _m with
  | nil =>
   intro _ _ e;simp[CC] at e
  | cons a as =>
   intro _ _ e;simp only[CC] at e;split at e
   .simp[ih e]
   .cases e
theorem V2{is:List Nat}{m:ME}(h:tS K (K0 is m) D σ H):OY (tE K m) (Ui K is.length (Fi is)) D σ H:=by
 obtain⟨Z,O,fp,rl,fl,e,w⟩:=h;simp only[K0,bind_eq_some_iff,map_eq_some_iff] at e;obtain⟨⟨r,Z1⟩,e1,⟨a,Z2⟩,e2,as,e3,Z3,e4,e5⟩:=e;cases e5;refine⟨Z,O,fp,rl,r,Z1,e1,fun v H1 yy=>?_⟩;obtain⟨L,fp1,p,q⟩:=yy;obtain⟨L2,fp2,p2,q2⟩:=G3 p q e2;obtain⟨pa,vs,rfl,hS,hs⟩:=q2.parts e3;exact⟨pa,vs,rfl,hS,by rw[hs.len,IH e4],Jy p2 hs e4 fun σ' fp' p'=>w σ' fp' H1 p'⟩
end
noncomputable def ItR(J:It)(C:(Addr->Prop)->Hp->Prop)(ds:List D):Prop:=∀N H,C N H->(∀i,i<ds.length->J.go i H)/\(∀i,ds.length<=i->J.stop i H)/\∀i x H' d,J.yld i H x H'->ds[i]? = some d->BW H H'/\RepA N H' x d
noncomputable def Xf(H H':Hp):Prop:=∀p xs,H p=some (.tup xs)->H' p=some (.tup xs)
noncomputable def ItP(K:Frag)(O:Addr->Prop)(fp:Nat->List Addr)(H:Hp)(Z Z':Ro)(σ:St)(ds:List D)(n:Option Nat)(J:It)(H':Hp):Prop:=
 ∃r v a L fp',Post K O fp H Z Z' σ σ L fp' H'/\RR K (NN fp' (ad O L)) H' σ v r L/\n=nameOf r/\peek Z' r=some a/\ItR J (fun N H=>(∃L,Am K N H v a L)/\Xf H' H/\∀z dz,RepA (NN fp' (ad O L)) H' z dz->RepA N H z dz) ds
noncomputable def tI(K:Frag)(m:MI):TI:=fun σ H R=>∃Z O fp,Rel K Z σ H O fp/\∃ds n Z',m Z=some (ds,n,Z')/\∀J H',ItP K O fp H Z Z' σ ds n J H'->R J H'
section
variable{K:Frag}{Z Z' Z1 Z2:Ro}{σ σ' σ1 σ2:St}{H H' H1 H2:Hp}{O O' N:Addr->Prop}{fp fp' fp1 fp2:Nat->List Addr}{L L1 L2:List Addr}
theorem Ey{n:Option Nat}{j:Nat}:(lock Z n)[j]? = match Z[j]? with
  | some (some (st,a))=>some (some (if n=some j then .ro else st,a))
  | x=>x:=by
 cases n with
 | none =>
  simp only[lock];split<;>simp_all
 | some i =>
  simp only[lock];split
  .rename_i st a e
   by_cases h:j=i
   .subst h
    rw[List.getElem?_set_self (Ay e),e];simp
   .rw[List.getElem?_set_ne (Ne.symm h)]
    split
    .have:¬(some i=some j):=fun z=>h (Option.some.inj z).symm
     simp[this, *]
    .rfl
  .rename_i hn
   by_cases h:j=i
   .subst h
    split
    .rename_i st a e
     exact absurd e (hn st a)
    .rfl
   .split
    .have:¬(some i=some j):=fun z=>h (Option.some.inj z).symm
     simp[this, *]
    .rfl
theorem Rel.lock{n:Option Nat}(r:Rel K Z σ H O fp):Rel K (J.lock Z n) σ H O fp where
 len:=by
  rw[<- r.len];cases n with
  | none=>rfl
  | some i=>simp only[J.lock]; split<;>simp
 slot:=fun i st a e=>by
  rw[Ey] at e;split at e
  .rename_i st' a' e'
   simp only[Option.some.injEq,Prod.mk.injEq] at e;obtain⟨_,rfl⟩:=e;exact r.slot i _ _ e'
  .exact r.slot i _ _ e
 out:=fun i h=>r.out i fun st a e=>h (if n=some i then .ro else st) a (by rw[Ey,e])
 nd:=r.nd
 inj:=r.inj
 off:=r.off
 al:=r.al
theorem Post.unlock{n:Option Nat}{a:A}(hn:∀i,n=some i->∃st,Z1[i]? = some (some (st,a)))(x:Post K O fp1 H1 (J.lock Z1 n) Z2 σ1 σ2 L fp2 H2):Post K O fp1 H1 Z1 (J.unlock Z1 Z2 n) σ1 σ2 L fp2 H2:=by
 cases n with
 | none=>exact x
 | some i =>
  obtain⟨st,e⟩:=hn i rfl;obtain⟨a',e2,es,ea⟩:=x.stab i .ro a (by rw[Ey,e]; simp) (by decide);cases ea rfl;have eu:J.unlock Z1 Z2 (some i)=Z2.set i (some (st,a)):=by simp only[J.unlock,e]
  rw[eu];have get:∀j st' b,(Z2.set i (some (st,a)))[j]? = some (some (st',b))->∃st'',Z2[j]? = some (some (st'',b)):=fun j st' b q=>by
   by_cases h:j=i
   .subst h
    rw[List.getElem?_set_self (Ay e2)] at q;cases q;exact⟨_,e2⟩
   .rw[List.getElem?_set_ne (Ne.symm h)] at q
    exact⟨_,q⟩
  refine⟨⟨by rw[List.length_set]; exact x.rel.len,fun j st' b q=>?_,fun j h=>?_,x.rel.nd,x.rel.inj,x.rel.off,x.rel.al⟩,x.nd,x.lo,x.new,x.kept,x.ln,fun j st' b q hs=>?_⟩
  .obtain⟨st'',q⟩:=get j st' b q
   exact x.rel.slot j _ _ q
  .refine x.rel.out j fun st' b q=>?_
   by_cases hj:j=i
   .subst hj
    exact h st a (List.getElem?_set_self (Ay e2))
   .exact h st' b (by rw[List.getElem?_set_ne (Ne.symm hj)]; exact q)
  .by_cases hj:j=i
   .subst hj
    rw[e] at q;cases q;exact⟨a,List.getElem?_set_self (Ay e2),es,fun _=>rfl⟩
   .have q':(J.lock Z1 (some i))[j]? = some (some (st',b)):=by
     rw[Ey,q];have:¬(some i=some j):=fun z=>hj (Option.some.inj z).symm;simp[this]
    obtain⟨b',q2,s2,f2⟩:=x.stab j st' b q' hs;exact⟨b',by rw[List.getElem?_set_ne (Ne.symm hj)]; exact q2,s2,f2⟩
noncomputable def Oi(K:Frag)(is:List Nat):Bool->TG
 | true=>HW (is.headD 0)
 | false=>Ui K is.length (Fi is)
theorem Rx{is:List Nat}{one:Bool}{d:D}{x:V}{Q:St->Hp->Prop}(p:Post K O fp H Z Z1 σ σ1 [] fp1 H1)(q:RepA (NN fp1 O) H1 x d)(e:Hi is one d Z1=some Z2)(k:∀σ' fp',Post K O fp H Z Z2 σ σ' [] fp' H1->Q σ' H1):
  Oi K is one x σ1 H1 Q:=by
 have q0:RepA (NN fp1 (ad O [])) H1 x d:=Dh (fun p z=>Fs.mp z) q;cases one with
 | true =>
  unfold Hi at e
  match is,e with
  | [i],e =>
   dsimp only at e;split at e
   .rename_i hf
    cases e;exact k _ _ (Post.store (L1:=[]) (L2:=[]) p hf (E1 (K:=K) q0))
   .cases e
  | [],e=>simp at e
  | _::_::_,e=>simp at e
 | false =>
  unfold Hi at e;dsimp only at e;cases d with
  | tup ds =>
   dsimp only at e;cases q0 with
   | tup h hz hl hr =>
    refine⟨_,_,rfl,.inl (.inl h),?_,Jy p (Ak.of (Ap.mk hl hr)) e k⟩;have:=IH e;rw[List.length_map] at this;rw[hl,this]
  | _=>simp at e
theorem VJ{r:R}{v:V}{a:A}{n:Option Nat}(hn:n=nameOf r)(hr:Rel K Z1 σ H1 (ad O L) fp1)(q:RR K (NN fp1 (ad O L)) H1 σ v r L)(e:peek Z1 r=some a)(p:Post K (ad O L) fp1 H1 (J.lock Z1 n) Z2 σ σ2 [] fp2 H2):
  ∃L',Am K (NN fp2 (ad O L)) H2 v a L':=by
 cases r with
 | val b =>
  simp only[peek,Option.some.injEq] at e;subst e;refine⟨L,Am.tr (M:=Fp fp1) (fun p z=>.inl z) p.kept (fun x z=>?_) (fun x hx z=>?_) q⟩
  .rcases z with z|z
   .exact(p.new x (.inr z)).imp (fun y=>.inl y) id
   .exact .inl (.inr z)
  .obtain⟨i,hi⟩:=z
   exact hr.off i x hi (.inr hx)
 | ref i =>
  subst hn;simp only[peek] at e;split at e
  .rename_i st b hb
   cases e;obtain⟨a',e2,es,ea⟩:=p.stab i .ro a (by rw[Ey,hb]; simp[nameOf]) (by decide);cases ea rfl;obtain⟨v',h1,h2⟩:=p.rel0.slot i _ _ e2;rw[es,q.2] at h1;cases h1;exact⟨_,h2⟩
  .cases e
theorem Post.stay{dz:D}{z:V}(p:Post K O fp1 H1 Z1 Z2 σ σ2 [] fp2 H2)(q:RepA (NN fp1 O) H1 z dz):RepA (NN fp2 O) H2 z dz:=
 q.tr (M:=Fp fp1) (fun p z=>.inl z) p.kept fun x z=>by
  rcases z with z|z
  .exact(p.new x (.inr z)).imp (fun y=>.inl y) id
  .exact .inl (.inr z)
theorem Post.stayT{dz:D}{z:V}(p:Post K O fp1 H1 Z1 Z2 σ σ2 L fp2 H2)(q:RepA (NN fp1 O) H1 z dz):RepA (NN fp2 (ad O L)) H2 z dz:=
 q.tr (M:=Fp fp1) (fun p z=>.inl z) p.kept fun x z=>by
  rcases z with z|z|z
  .exact(p.new x (.inr z)).imp (fun y=>.inl y) id
  .exact .inl (.inr z)
  .exact(p.new x (.inl z)).imp (fun y=>.inl y) id
theorem VX{is:List Nat}{one:Bool}{it:MI}{b:MS}{D:Ends}(h:tS K (J1 is one it b) D σ H):W3 (tI K it) (Oi K is one) (tS K b) D σ H:=by
 obtain⟨Z,O,fp,rl,fl,e,w⟩:=h;simp only[J1,bind_eq_some_iff,map_eq_some_iff] at e;obtain⟨⟨ds,n,Z1⟩,e1,f,e2,e3⟩:=e;subst e3;refine⟨Z,O,fp,rl,ds,n,Z1,e1,fun J H1 yy=>?_⟩;obtain⟨r,v,a,L,fp1,p1,q1,hn,ha,hJ⟩:=yy;have hlk:∀i,n=some i->∃st,Z1[i]? = some (some (st,a)):=fun i hi=>by
  rw[hn] at hi;cases r with
  | val b=>simp[nameOf] at hi
  | ref j =>
   simp only[nameOf,Option.some.injEq] at hi;subst hi;simp only[peek] at ha;split at ha
   .rename_i st b hb
    cases ha;exact⟨st,hb⟩
   .cases ha
 have rl1:Rel K (lock Z1 n) σ H1 (ad O L) fp1:=p1.rel.lock
 -- what is wanted of the loop's end
 have w1:O4 K (ad O L) fp1 H1 (lock Z1 n) σ D f:=by
  have un:∀{Z2:Ro} {σ2:St} {L2:List Addr} {fp2:Nat->List Addr} {H2:Hp},Post K (ad O L) fp1 H1 (lock Z1 n) Z2 σ σ2 L2 fp2 H2->Post K O fp H Z (unlock Z1 Z2 n) σ σ2 L2 fp2 H2:=fun y=>(p1.then (y.unlock hlk)).drop;cases f with
  | next Z2=>exact fun σ' fp' H' p=>w σ' fp' H' (un p)
  | brk Z2=>exact fun σ' fp' H' p=>w σ' fp' H' (un p)
  | cnt Z2=>exact fun σ' fp' H' p=>w σ' fp' H' (un p)
  | ret b Z2=>exact fun σ' v L2 fp' H' p q=>w σ' v L2 fp' H' (un p) (DG (fun x z=>by
    rcases z with z|z|z
    .exact .inl z
    .exact .inr (.inl (.inl z))
    .exact .inr (.inr z)) q)
 refine⟨fun i m σ' H'=>m=ds.length-i/\i<=ds.length/\∃Z' fp',Post K (ad O L) fp1 H1 (lock Z1 n) Z' σ σ' [] fp' H'/\forL is one b (ds.drop i) Z'=some f,⟨ds.length,by simp,Nat.zero_le _,lock Z1 n,fp1,rl1.post,by simpa using e2⟩,?_⟩;rintro i m σ2 H2 ⟨rfl,hi,Z2,fp2,p2,e2⟩;obtain⟨L',src⟩:=VJ hn p1.rel q1 ha p2;obtain⟨go,stop,yld⟩:=hJ _ _ ⟨⟨L',src⟩,fun _ _ h=>p2.kept _ _ h (.inr rfl),fun _ _ q=>p2.stay q⟩;by_cases hlt:i<ds.length
 .refine .inr ⟨go i hlt,_,fun σ' H' z=>⟨ds.length-(i+1),by omega,rfl,hlt,z⟩,fun x H3 y=>?_⟩
  have hd:ds[i]? = some ds[i]:=by simp[hlt]
  obtain⟨sm,qx⟩:=yld i x H3 _ y hd;rw[List.drop_eq_getElem_cons hlt] at e2;simp only[forL,bind_eq_some_iff] at e2;obtain⟨Z3,e3,g,e4,e5⟩:=e2;have p3:Post K (ad O L) fp1 H1 (lock Z1 n) Z2 σ σ2 [] fp2 H3:=p2.more sm List.nodup_nil (fun p hp=>by simp at hp);refine Rx p3 qx e3 fun σ4 fp4 p4=>?_;refine⟨Z3,ad O L,fp4,p4.rel0,g,e4,?_⟩;cases g with
  | next Z5=>exact fun σ' fp' H' p=>⟨Z5,fp',p4.next p,e5⟩
  | cnt Z5=>exact fun σ' fp' H' p=>⟨Z5,fp',p4.next p,e5⟩
  | brk Z5 =>
   cases e5;exact fun σ' fp' H' p=>w1 σ' fp' H' (p4.next p)
  | ret c Z5 =>
   cases e5;exact fun σ' v L fp' H' p q=>w1 σ' v L fp' H' (p4.next p) q
 .have:i=ds.length:=by omega
  subst this;simp only[List.drop_length,forL,Option.some.injEq] at e2;subst e2;exact .inl ⟨stop _ (Nat.le_refl _),w1 _ _ _ p2⟩
theorem Fm{v:V}{a:A}{ds:List D}(q:Am K N H v a L)(e:AI a=some ds):∃p vs,v=.ref p/\(SqL K H p vs\/SqT K H p vs)/\Ap N H vs ds:=by
 cases a with
 | fz d =>
  rw[Am] at q;obtain⟨rfl,q⟩:=q;cases d with
  | lst es =>
   simp only[AI,Option.some.injEq] at e;subst e;cases q with
   | lst h hz hn hl hr=>exact⟨_,_,rfl,.inl (.inl (.inl h)),Ap.mk hl hr⟩
  | tup es =>
   simp only[AI,Option.some.injEq] at e;subst e;cases q with
   | tup h hz hl hr=>exact⟨_,_,rfl,.inr (.inl (.inl h)),Ap.mk hl hr⟩
  | _=>simp[AI] at e
 | lst as =>
  simp only[AI] at e;rw[Am] at q;obtain⟨p,vs,L',rfl,rfl,h,hz,hs⟩:=q;exact⟨p,vs,rfl,.inl (.inl (.inl h)),(hs.fzs e).2⟩
 | scr ns =>
  simp only[AI,Option.some.injEq] at e;subst e;rw[Am] at q;obtain⟨p,rfl,rfl,h,hz⟩:=q;refine⟨p,_,rfl,.inl (h H fun _ _ z=>z),Ap.mk (by simp) fun i v d e1 e2=>?_⟩;rw[List.getElem?_map] at e1 e2;cases q:ns[i]? with
  | none=>rw[q] at e1; cases e1
  | some k =>
   rw[q] at e1 e2;cases e1; cases e2;exact .int k
 | _=>simp[AI] at e
noncomputable def PU:A->Bool
 | .fz (.tup _)=>true
 | _=>false
theorem F6{v:V}{a:A}{ds:List D}(q:Am K N H v a L)(e:AI a=some ds):∃p vs,v=.ref p/\(if PU a then SqT K H p vs else SqL K H p vs)/\Ap N H vs ds:=by
 cases a with
 | fz d =>
  rw[Am] at q;obtain⟨rfl,q⟩:=q;cases d with
  | lst es =>
   simp only[AI,Option.some.injEq] at e;subst e;cases q with
   | lst h hz hn hl hr=>exact⟨_,_,rfl,.inl (.inl h),Ap.mk hl hr⟩
  | tup es =>
   simp only[AI,Option.some.injEq] at e;subst e;cases q with
   | tup h hz hl hr=>exact⟨_,_,rfl,.inl (.inl h),Ap.mk hl hr⟩
  | _=>simp[AI] at e
 | lst as =>
  simp only[AI] at e;rw[Am] at q;obtain⟨p,vs,L',rfl,rfl,h,hz,hs⟩:=q;exact⟨p,vs,rfl,.inl (.inl h),(hs.fzs e).2⟩
 | scr ns =>
  obtain⟨p,vs,e1,e2,e3⟩:=Fm q e;rw[Am] at q;obtain⟨p',rfl,rfl,h,hz⟩:=q;cases e1;refine⟨p,_,rfl,h H fun _ _ z=>z,?_⟩;simp only[AI,Option.some.injEq] at e;subst e;refine Ap.mk (by simp) fun i v d e1 e2=>?_;rw[List.getElem?_map] at e1 e2;cases q:ns[i]? with
  | none=>rw[q] at e1; cases e1
  | some k =>
   rw[q] at e1 e2;cases e1; cases e2;exact .int k
 | _=>simp[AI] at e
noncomputable def Wr(K:Frag)(tl:TE):TI:=fun σ H R=>tl σ H fun x H1=>∃a,x=.ref a/\(((∃xs,SqL K H1 a xs)/\R (Itl K a) H1)\/((∃xs,SqT K H1 a xs)/\R (Itt K a) H1))
theorem T6{vs:List V}{ds:List D}(q:Ap N H vs ds){i:Nat}(h:i<ds.length):∃x,vs[i]? = some x:=⟨vs[i]'(by rw[q.len]; exact h),by simp⟩
theorem VR{m:ME}{R:It->Hp->Prop}(h:tI K (De m) σ H R):Wr K (tE K m) σ H R:=by
 obtain⟨Z,O,fp,rl,ds,n,Z',e,k⟩:=h;simp only[De,bind_eq_some_iff,map_eq_some_iff] at e;obtain⟨⟨r,Z1⟩,e1,a,e2,ds',e3,e4⟩:=e;cases e4;refine⟨Z,O,fp,rl,r,Z1,e1,fun v H1 yy=>?_⟩;obtain⟨L,fp1,p,q⟩:=yy;obtain⟨L',q'⟩:=p.rel.peek q e2;obtain⟨pa,vs,rfl,hk,_⟩:=F6 q' e3;refine⟨pa,rfl,?_⟩;cases hT:PU a with
 | false =>
  rw[hT] at hk;refine .inl ⟨⟨vs,hk⟩,k _ _ ⟨r,.ref pa,a,L,fp1,p,q,rfl,e2,fun N H2 yy=>?_⟩⟩;obtain⟨⟨L2,q2⟩,_⟩:=yy;obtain⟨pb,ws,e5,hk2,hd⟩:=F6 q2 e3;cases e5;rw[hT] at hk2;have hk2:SqL K H2 pa ws:=hk2;refine⟨fun i hi=>?_,fun i hi=>⟨ws,hk2,by rw[hd.len]; exact hi⟩,fun i x H' d y e=>?_⟩
  .obtain⟨x,hx⟩:=T6 hd hi
   exact⟨ws,x,hk2,hx⟩
  .obtain⟨rfl,y⟩:=y
   exact⟨fun _ _ z=>z,hd.get i x d (y ws hk2) e⟩
 | true =>
  rw[hT] at hk;refine .inr ⟨⟨vs,hk⟩,k _ _ ⟨r,.ref pa,a,L,fp1,p,q,rfl,e2,fun N H2 yy=>?_⟩⟩;obtain⟨⟨L2,q2⟩,_⟩:=yy;obtain⟨pb,ws,e5,hk2,hd⟩:=F6 q2 e3;cases e5;rw[hT] at hk2;have hk2:SqT K H2 pa ws:=hk2;refine⟨fun i hi=>?_,fun i hi=>⟨ws,hk2,by rw[hd.len]; exact hi⟩,fun i x H' d y e=>?_⟩
  .obtain⟨x,hx⟩:=T6 hd hi
   exact⟨ws,x,hk2,hx⟩
  .obtain⟨rfl,y⟩:=y
   exact⟨fun _ _ z=>z,hd.get i x d (y ws hk2) e⟩
end
noncomputable def S5(K:Frag):Nat->TU
 | 0=>S4
 | n+1=>fun v H vs=>∃a,v=.ref a/\SqT K H a vs/\vs.length=n+1
noncomputable def sh(n:Nat)(fp:Nat->List Addr):Nat->List Addr:=fun j=>if j<n then [] else fp (j-n)
section
variable{K:Frag}{Z Z' Z1 Z2:Ro}{σ σ' σ1 σ2:St}{H H' H1 H2:Hp}{O O' N:Addr->Prop}{fp fp' fp1 fp2:Nat->List Addr}{L L1:List Addr}
theorem Lk{n:Nat}{p:Addr}:Fp (sh n fp) p↔Fp fp p:=by
 constructor
 .rintro ⟨j,h⟩
  unfold sh at h;split at h
  .simp at h
  .exact⟨_,h⟩
 .rintro ⟨j,h⟩
  refine⟨j+n,?_⟩;unfold sh;rw[if_neg (by lia),Nat.add_sub_cancel];exact h
theorem Qq{n:Nat}{p:Addr}:NN (sh n fp) O p↔NN fp O p:=or_congr Lk Iff.rfl
theorem Rel.block{vs:List V}{bs:List D}(r:Rel K Z σ H O fp)(q:Ap (NN fp O) H vs bs):Rel K (bs.map own++Z) (vs.map some++σ) H O (sh bs.length fp) where
 len:=by simp[r.len,q.len]
 slot:=fun i st a e=>by
  by_cases hi:i<bs.length
  .rw[List.getElem?_append_left (by simpa using hi),List.getElem?_map] at e
   have hb:bs[i]? = some bs[i]:=by simp[hi]
   rw[hb] at e;simp only[Option.map_some,own,Option.some.injEq,Prod.mk.injEq] at e;obtain⟨rfl,rfl⟩:=e;have hv:vs[i]? = some (vs[i]'(by rw[q.len]; exact hi)):=by simp
   refine⟨_,by rw[List.getElem?_append_left (by simpa[q.len] using hi),List.getElem?_map,hv]; rfl,?_⟩;simp only[sh,hi,if_true];exact E1 (Dh (fun p z=>Qq.mp z) (q.get i _ _ hv hb))
  .rw[List.getElem?_append_right (by simpa using hi),List.length_map] at e
   obtain⟨v,e1,q1⟩:=r.slot _ _ _ e;refine⟨v,by rw[List.getElem?_append_right (by simpa[q.len] using hi),List.length_map,q.len]; exact e1,?_⟩;simp only[sh,hi,if_false];exact DG (fun p z=>Qq.mp z) q1
 out:=fun i h=>by
  unfold sh;split
  .rfl
  .rename_i hi
   exact r.out _ fun st a e=>h st a (by rw[List.getElem?_append_right (by simpa using hi),List.length_map]; exact e)
 nd:=fun i=>by
  unfold sh;split
  .exact List.nodup_nil
  .exact r.nd _
 inj:=fun i j p h1 h2=>by
  unfold sh at h1 h2;split at h1
  .simp at h1
  .split at h2
   .simp at h2
   .have:=r.inj _ _ p h1 h2
    lia
 off:=fun i p h=>by
  unfold sh at h;split at h
  .simp at h
  .exact r.off _ p h
 al:=fun p z=>r.al p (Qq.mp z)
theorem Post.unblock{vs:List V}{bs:List D}(hl:vs.length=bs.length)(x:Post K O (sh bs.length fp) H (bs.map own++Z) Z2 (vs.map some++σ) (vs.map some++σ) L fp2 H2):Post K O fp H Z (Z2.drop bs.length) σ σ L (fun j=>fp2 (j+bs.length)) H2 where
 rel:=by
  have nn:∀p,NN (fun j=>fp2 (j+bs.length)) (ad O L) p->NN fp2 (ad O L) p:=fun p z=>z.imp (fun⟨j,h⟩=>⟨_,h⟩) id;have hlen:=x.rel.len;rw[List.length_append,List.length_map,hl] at hlen;refine⟨by rw[List.length_drop,hlen]; lia,fun i st a e=>?_,fun i h=>?_,fun i=>x.rel.nd _,fun i j p h1 h2=>?_,fun i p h=>x.rel.off _ p h,fun p z=>x.rel.al p (nn p z)⟩
  .rw[List.getElem?_drop] at e
   obtain⟨v,e1,q⟩:=x.rel.slot _ _ _ e;refine⟨v,?_,DG nn (by rw[Nat.add_comm]; exact q)⟩;rw[List.getElem?_append_right (by rw[List.length_map]; lia),List.length_map] at e1;rw[<- e1];congr 1;lia
  .exact x.rel.out _ fun st a e=>h st a (by rw[List.getElem?_drop,Nat.add_comm]; exact e)
  .have:=x.rel.inj _ _ p h1 h2
   lia
 nd:=x.nd
 lo:=x.lo
 new:=fun p hp=>(x.new p (hp.imp id fun⟨j,h⟩=>⟨_,h⟩)).imp Lk.mp id
 kept:=x.kept.mono fun p z=>Lk.mp z
 ln:=rfl
 stab:=fun j st a h n=>by
  have e:(bs.map own++Z)[j+bs.length]? = some (some (st,a)):=by rw[List.getElem?_append_right (by simp),List.length_map,Nat.add_sub_cancel]; exact h
  obtain⟨a',e1,_,f⟩:=x.stab _ _ _ e n;exact⟨a',by rw[List.getElem?_drop,Nat.add_comm]; exact e1,rfl,f⟩
theorem Post.updT{p:Addr}{o:HO}{ys:List V}(x:Post K O fp H Z Z1 σ σ1 L fp1 H1)(hp:p∈L)(hn:H p=none)(hy:H1 p=some (.lst ys)):Post K O fp H Z Z1 σ σ1 L fp1 (upd H1 p o):=by
 have off:∀i,p∉fp1 i:=fun i z=>x.rel.off i p z (.inr hp);have alp:∀q,H1 q≠none->upd H1 p o q≠none:=fun q z=>by
  by_cases e:q=p
  .subst e; rw[AB]; simp
  .rw[Au e]; exact z
 have k:Kept (fun q=>q=p) H1 (upd H1 p o):=fun b u e c=>by
  by_cases hb:b=p
  .subst hb
   rcases c with c|c
   .exact absurd rfl c
   .rw[hy] at e; cases e; cases c
  .rw[Au hb]; exact e
 refine⟨⟨x.rel.len,fun i st a e=>?_,x.rel.out,x.rel.nd,x.rel.inj,x.rel.off,fun q z=>alp q (x.rel.al q z)⟩,x.nd,x.lo,x.new,fun b u e c=>?_,x.ln,x.stab⟩
 .obtain⟨v,e1,q⟩:=x.rel.slot i st a e
  exact⟨v,e1,q.tr (M:=fun q=>q=p) (fun b z=>by rw[z]; exact .inr (.inr hp)) k (fun b z=>.inl z) fun b hb z=>off i (z ▸ hb)⟩
 .have hb:b≠p:=fun z=>by rw[z,hn] at e; cases e
  rw[Au hb];exact x.kept b u e c
theorem Cs{p:Addr}{o:HO}{ys:List V}(hy:H p=some (.lst ys)):Kept (fun q=>q=p) H (upd H p o):=fun b u e c=>by
 by_cases hb:b=p
 .subst hb
  rcases c with c|c
  .exact absurd rfl c
  .rw[hy] at e; cases e; cases c
 .rw[Au hb]; exact e
theorem Post.ds{vs:List V}{ds:List D}(x:Post K O fp H Z Z1 σ σ1 L fp1 H1)(q:Ap (NN fp O) H vs ds):Ap (NN fp1 (ad O L)) H1 vs ds:=
 q.tr (M:=Fp fp) (fun p z=>.inl z) x.kept fun p z=>by
  rcases z with z|z|z
  .exact(x.new p (.inr z)).imp (fun y=>.inl y) id
  .exact .inl (.inr z)
  .exact(x.new p (.inl z)).imp (fun y=>.inl y) id
theorem EC:∀{vs ws:List V} {ds es:List D},Ap N H vs ds->Ap N H ws es->Ap N H (vs++ws) (ds++es)
 | [],_,[],_,_,q=>q
 | [],_,_::_,_,r,_=>by simp only[Ap] at r
 | _::_,_,[],_,r,_=>by simp only[Ap] at r
 | v::vs,ws,d::ds,es,r,q=>⟨r.1,EC r.2 q⟩
theorem NM{n:Nat}{d:D}{bs:List D}{x:V}(q:RepA N H x d)(e:Kt n d=some bs):∃vs,S5 K n x H vs/\Ap N H vs bs:=by
 cases n with
 | zero =>
  simp only[Kt,Option.some.injEq] at e;subst e;exact⟨[x],rfl,q,trivial⟩
 | succ n =>
  simp only[Kt] at e;cases d with
  | tup ds =>
   dsimp only at e;split at e
   .rename_i hl
    cases e;cases q with
    | tup h hz hl' hr=>exact⟨_,⟨_,rfl,.inl (.inl h),by rw[hl']; exact hl⟩,Ap.mk hl' hr⟩
   .cases e
  | _=>simp at e
theorem N2{r:R}{v:V}{a:A}{n:Option Nat}{Lt:List Addr}(hn:n=nameOf r)(hr:Rel K Z1 σ H1 (ad O L) fp1)(q:RR K (NN fp1 (ad O L)) H1 σ v r L)(e:peek Z1 r=some a)(p:Post K (ad O L) fp1 H1 (J.lock Z1 n) Z2 σ σ2 Lt fp2 H2):
  ∃L',Am K (NN fp2 (ad (ad O L) Lt)) H2 v a L':=by
 cases r with
 | val b =>
  simp only[peek,Option.some.injEq] at e;subst e;refine⟨L,Am.tr (M:=Fp fp1) (fun p z=>.inl z) p.kept (fun x z=>?_) (fun x hx z=>?_) q⟩
  .rcases z with z|z|z
   .exact(p.new x (.inr z)).imp (fun y=>.inl y) id
   .exact .inl (.inr z)
   .exact(p.new x (.inl z)).imp (fun y=>.inl y) id
  .obtain⟨i,hi⟩:=z
   exact hr.off i x hi (.inr hx)
 | ref i =>
  subst hn;simp only[peek] at e;split at e
  .rename_i st b hb
   cases e;obtain⟨a',e2,es,ea⟩:=p.stab i .ro a (by rw[Ey,hb]; simp[nameOf]) (by decide);cases ea rfl;obtain⟨v',h1,h2⟩:=p.rel.slot i _ _ e2;rw[es,q.2] at h1;cases h1;exact⟨_,h2⟩
  .cases e
theorem KO{it:MI}{pat:Nat}{c:MT}{e:ME}{Q:VK}(h:tE K (Bn it pat c e) σ H Q):tLc (tI K it) (S5 K pat) (tT K c) (tE K e) σ H Q:=by
 obtain⟨Z,O,fp,rl,x,Z',h0,k⟩:=h;simp only[Bn,bind_eq_some_iff] at h0;obtain⟨⟨ds,n,Z1⟩,e1,h0⟩:=h0;split at h0
 case isFalse=>cases h0
 rename_i hz;simp only[map_eq_some_iff] at h0;obtain⟨⟨es,Z8⟩,e2,e3⟩:=h0;cases e3;refine⟨Z,O,fp,rl,ds,n,Z1,e1,fun J H1 yy acc hacc=>?_⟩;obtain⟨r,v,a,L,fp1,p1,q1,hn,ha,hJ⟩:=yy;have hlk:∀i,n=some i->∃st,Z1[i]? = some (some (st,a)):=fun i hi=>by
  rw[hn] at hi;cases r with
  | val b=>simp[nameOf] at hi
  | ref j =>
   simp only[nameOf,Option.some.injEq] at hi;subst hi;simp only[peek] at ha;split at ha
   .rename_i st b hb
    cases ha;exact⟨st,hb⟩
   .cases ha
 have rl1:Rel K (lock Z1 n) σ H1 (ad O L) fp1:=p1.rel.lock;have st0:Post K (ad O L) fp1 H1 (lock Z1 n) (lock Z1 n) σ σ [acc] fp1 (upd H1 acc (.lst [])):=rl1.post.more (CW hacc) (by simp) fun p hp=>by
  have:p=acc:=by simpa using hp
  subst this;exact .inr ⟨hacc,by rw[AB]; simp⟩
 refine⟨fun i m ys H'=>m=ds.length-i/\i<=ds.length/\H' acc=some (.lst ys)/\ys.length<=i/\∃Z' fp' done rest,Post K (ad O L) fp1 H1 (lock Z1 n) Z' σ σ [acc] fp' H'/\Ap (NN fp' (ad (ad O L) [acc])) H' ys done/\E7 pat c e (ds.drop i) Z'=some (rest,Z8)/\es=done++rest,
  ⟨ds.length,by simp,Nat.zero_le _,AB,by simp,lock Z1 n,fp1,[],es,st0,trivial,by simpa using e2,rfl⟩,?_⟩
 rintro i m ys H2 ⟨rfl,hi,hy,hyl,Z2,fp2,done,rest,p2,qd,e2,ees⟩;refine⟨hy,?_⟩;obtain⟨L',src⟩:=N2 hn p1.rel q1 ha p2;have offacc:∀j,acc∉fp2 j:=fun j z=>p2.rel.off j acc z (.inr (by simp));by_cases hlt:i<ds.length
 .obtain⟨go,stop,yld⟩:=hJ _ _ ⟨⟨L',src⟩,fun _ _ h=>p2.kept _ _ h (.inr rfl),fun _ _ q=>p2.stayT q⟩
  refine .inr ⟨go i hlt,fun x H3 y=>?_⟩;have hd:ds[i]? = some ds[i]:=by simp[hlt]
  obtain⟨sm,qx0⟩:=yld i x H3 _ y hd;have qx:RepA (NN fp2 (ad (ad O L) [acc])) H3 x ds[i]:=qx0;have p3:Post K (ad O L) fp1 H1 (lock Z1 n) Z2 σ σ [acc] fp2 H3:=p2.more sm p2.nd fun p hp=>.inl hp;have hy3:H3 acc=some (.lst ys):=sm _ _ hy;have qd3:Ap (NN fp2 (ad (ad O L) [acc])) H3 ys done:=qd.tr (M:=fun _=>False) (fun _ z=>z.elim) (BW.kept sm) fun p z=>.inl z;rw[List.drop_eq_getElem_cons hlt] at e2;simp only[E7,bind_eq_some_iff] at e2;obtain⟨bs,eb,⟨b,Z3⟩,ec,e4⟩:=e2;obtain⟨vs,hu,hvs⟩:=NM (K:=K) qx eb;have rb:=p3.rel.block hvs;refine⟨vs,hu,_,_,_,rb,b,Z3,ec,fun fp4 H4 p4=>?_⟩;have keep:∀{Z5:Ro} {fp5:Nat->List Addr} {H5:Hp},Post K (ad (ad O L) [acc]) (sh bs.length fp2) H3 (bs.map own++Z2) Z5 (vs.map some++σ) (vs.map some++σ) [] fp5 H5 ->
    H5 acc=some (.lst ys)/\Post K (ad O L) fp1 H1 (lock Z1 n) (Z5.drop bs.length) σ σ [acc] (fun j=>fp5 (j+bs.length)) H5/\Ap (NN (fun j=>fp5 (j+bs.length)) (ad (ad O L) [acc])) H5 ys done:=fun {Z5 fp5 H5} p5=>by
   have u:=p5.unblock hvs.len;refine⟨p5.kept _ _ hy3 (.inl fun z=>?_),p3.then u,IQ (fun p z=>Fs.mpr z) (u.ds qd3)⟩;obtain⟨j,z⟩:=Lk.mp z;exact offacc j z
  cases b with
  | false =>
   simp only[Bool.false_eq_true,if_false] at e4;dsimp only;rw[if_neg Bool.false_ne_true];obtain⟨h1,h2,h3⟩:=keep p4;exact⟨ds.length-(i+1),by lia,rfl,hlt,h1,by lia,_,_,done,rest,h2,h3,e4,ees⟩
  | true =>
   simp only[if_true,bind_eq_some_iff,map_eq_some_iff] at e4;obtain⟨⟨r5,Z5⟩,e5,⟨d6,Z6⟩,e6,⟨rest',Z7⟩,e7,e8⟩:=e4;cases e8;dsimp only;rw[if_pos rfl];refine⟨Z3,_,fp4,p4.rel0,r5,Z5,e5,fun y H5 yy=>?_⟩;obtain⟨L5,fp5,p5,q5⟩:=yy;obtain⟨fp6,p6,q6⟩:=ET p5 q5 e6;obtain⟨h1,h2,h3⟩:=keep (p4.next p6);have hacc1:H1 acc=none:=hacc;refine⟨h1,Nat.lt_of_lt_of_le (Nat.lt_of_le_of_lt hyl hlt) hz,ds.length-(i+1),by lia,rfl,hlt,AB,by simp; lia,_,_,done++[d6],rest',h2.updT (by simp) hacc1 h1,?_,e7,by rw[ees]; simp⟩;have tr:∀{ws:List V} {fs:List D},Ap (NN (fun j=>fp6 (j+bs.length)) (ad (ad O L) [acc])) H5 ws fs->Ap (NN (fun j=>fp6 (j+bs.length)) (ad (ad O L) [acc])) (upd H5 acc (.lst (ys++[y]))) ws fs:=fun q =>
    q.tr (M:=fun q=>q=acc) (fun b z=>by rw[z]; exact .inr (.inr (by simp))) (Cs h1) fun p z=>.inl z
   refine tr (EC h3 ⟨Dh (fun p z=>?_) q6,trivial⟩);exact Fs.mpr (z.imp (fun⟨j,q⟩=>⟨_,q⟩) id)
 .have:i=ds.length:=by lia
  subst this;obtain⟨go,stop,yld⟩:=hJ _ _ ⟨⟨L',src⟩,fun _ _ h=>p2.kept _ _ h (.inr rfl),fun _ _ q=>p2.stayT q⟩;simp only[List.drop_length,E7,Option.some.injEq,Prod.mk.injEq] at e2;obtain⟨rfl,rfl⟩:=e2;refine .inl ⟨stop _ (Nat.le_refl _),k _ _ ?_⟩;have p3:=(p1.then (p2.unlock hlk)).drop;refine⟨[acc],fp2,p3,?_⟩;show Am _ _ _ _ _ _;rw[Am];rw[List.append_nil] at ees;subst ees;refine⟨acc,ys,[],rfl,rfl,hy,Nat.le_trans hyl hz,Ak.of (IQ (fun p z=>?_) qd)⟩;rcases z with z|z|z
  .exact .inl z
  .exact .inr (.inl (.inl z))
  .exact .inr (.inr z)
end
noncomputable def Fx:List (Own×A)->List A->Ro
 | (st,_)::args,a::as=>(if st=.own then none else some (st,a))::Fx args as
 | [],_=>[]
 | _::_,[]=>[]
noncomputable def V8(K:Frag)(O:Addr->Prop)(fp:Nat->List Addr)(H:Hp)(args:List (Own×A))(as':List A)(vs:List V)(a:A)(v:V)(H':Hp):Prop:=
 ∃L fp',Post K O fp H (args.map some) (Fx args as') (vs.map some) (vs.map some) L fp' H'/\Am K (NN fp' (ad O L)) H' v a L
noncomputable def spJ(K:Frag)(Φ:Fn)(np:Nat):Sp:=fun vs H Q _=>∃args O fp,vs.length=np/\Rel K (args.map some) (vs.map some) H O fp/\∃a as',Φ args=some (a,as')/\∀v H',V8 K O fp H args as' vs a v H'->Q v H'
theorem Ir:∀{args:List (Own×A)} {as:List A} {j:Nat} {st:Own} {a:A},(Fx args as)[j]? = some (some (st,a))->∃a0,args[j]? = some (st,a0)/\st≠.own/\as[j]? = some a
 | [],_,j,st,a,h=>by simp[Fx] at h
 | _::_,[],j,st,a,h=>by simp[Fx] at h
 | (st0,a0)::args,b::as,0,st,a,h=>by
  simp only[Fx,List.getElem?_cons_zero,Option.some.injEq] at h;split at h
  .cases h
  .rename_i hs
   cases h;exact⟨a0,rfl,hs,rfl⟩
 | (st0,a0)::args,b::as,j+1,st,a,h=>by
  simp only[Fx,List.getElem?_cons_succ] at h;obtain⟨a1,h1,h2,h3⟩:=Ir h;exact⟨a1,by simpa using h1,h2,by simpa using h3⟩
theorem HX:∀{args:List (Own×A)} {as:List A} {j:Nat} {st:Own} {a0 a:A},args[j]? = some (st,a0)->st≠.own->as[j]? = some a->(Fx args as)[j]? = some (some (st,a))
 | [],_,j,st,a0,a,h,_,_=>by simp at h
 | _::_,[],j,st,a0,a,_,_,h=>by simp at h
 | (st0,b0)::args,b::as,0,st,a0,a,h,hs,h2=>by
  simp at h h2;obtain⟨rfl,rfl⟩:=h;subst h2;simp[Fx,hs]
 | (st0,b0)::args,b::as,j+1,st,a0,a,h,hs,h2=>by
  simp only[Fx,List.getElem?_cons_succ];exact HX (by simpa using h) hs (by simpa using h2)
theorem Iu:∀{args:List (Own×A)} {as:List A},(Fx args as).length=min args.length as.length
 | [],_=>by simp[Fx]
 | _::_,[]=>by simp[Fx]
 | (st,_)::args,a::as=>by simp[Fx,Iu]
section
variable{K:Frag}{Z Z' Z1 Z2:Ro}{σ σ' σ1 σ2:St}{H H' H1 H2:Hp}{O O' N:Addr->Prop}{fp fp' fp1 fp2:Nat->List Addr}{L L1:List Addr}
theorem LS{args:List (Own×A)}{vs:List V}{n:Nat}(hl:vs.length=args.length)(x:Post K O fp H (args.map some++List.replicate n none) Z' (vs.map some++List.replicate n none) σ' L fp' H'):
  ∃fp2,Post K O fp H (args.map some) (Fx args ((Z'.take args.length).map GH)) (vs.map some) (vs.map some) L fp2 H'/\∀p,NN fp2 (ad O L) p->NN fp' (ad O L) p:=by
 have hlen:args.length <= Z'.length:=by
  have:=x.rel.len;have:=x.ln;simp at this;lia
 have a0:∀{j:Nat} {st:Own} {a:A},args[j]? = some (st,a)->(args.map some++List.replicate n (none:Slot))[j]? = some (some (st,a)):=fun {j st a} e=>by
  rw[List.getElem?_append_left (by simpa using Ay e),List.getElem?_map,e]; rfl
 have v0:∀{j:Nat},j<args.length->(vs.map some++List.replicate n (none:Option V))[j]? = (vs.map some)[j]?:=fun {j} h=>by
  rw[List.getElem?_append_left (by rw[List.length_map,hl]; exact h)]
 -- where a lent name stands
 have key:∀{j:Nat} {st:Own} {a:A},args[j]? = some (st,a)->st≠.own->∃a',Z'[j]? = some (some (st,a'))/\σ'[j]? = (vs.map some)[j]?/\(st=.ro->a'=a)/\((Z'.take args.length).map GH)[j]? = some a':=fun {j st a} e h=>by
  obtain⟨a',e1,e2,e3⟩:=x.stab j st a (a0 e) h;refine⟨a',e1,by rw[e2,v0 (Ay e)],e3,?_⟩;rw[List.getElem?_map,List.getElem?_take_of_lt (Ay e),e1];rfl
 let fp2:Nat->List Addr:=fun j=>match (Fx args ((Z'.take args.length).map GH))[j]? with
  | some (some _)=>fp' j
  | _=>[]
 have sub:∀j p,p∈fp2 j->p∈fp' j/\∃st a,(Fx args ((Z'.take args.length).map GH))[j]? = some (some (st,a)):=fun j p h=>by
  simp only[fp2] at h;split at h
  .rename_i y e
   exact⟨h,y.1,y.2,e⟩
  .simp at h
 have nn:∀p,NN fp2 (ad O L) p->NN fp' (ad O L) p:=fun p z=>z.imp (fun⟨j,q⟩=>⟨j,(sub j p q).1⟩) id;refine⟨fp2,⟨⟨?_,fun j st a e=>?_,fun j h=>?_,fun j=>?_,fun i j p h1 h2=>x.rel.inj i j p (sub i p h1).1 (sub j p h2).1,fun j p h=>x.rel.off j p (sub j p h).1,fun p z=>x.rel.al p (nn p z)⟩,x.nd,x.lo,fun p hp=>x.new p (hp.imp id fun⟨j,q⟩=>⟨j,(sub j p q).1⟩),x.kept,rfl,fun j st a e h=>?_⟩,nn⟩
 .rw[Iu]; simp[hl]; lia
 .obtain⟨a0,e1,e2,e3⟩:=Ir e
  obtain⟨a',e4,e5,_,e6⟩:=key e1 e2;rw[e3] at e6; cases e6;obtain⟨v,e7,q⟩:=x.rel.slot j st a e4;refine⟨v,by rw[<- e5]; exact e7,?_⟩;have:fp2 j=fp' j:=by simp only[fp2,e]
  rw[this];exact DG nn q
 .simp only[fp2]
  split
  .rename_i y e
   exact absurd e (h y.1 y.2)
  .rfl
 .simp only[fp2]
  split
  .exact x.rel.nd j
  .exact List.nodup_nil
 .rw[List.getElem?_map] at e
  cases q:args[j]? with
  | none=>rw[q] at e; cases e
  | some y =>
   rw[q] at e;cases e;obtain⟨a',e4,e5,e6,e7⟩:=key q h;exact⟨a',HX q h e7,rfl,e6⟩
theorem Rel.start{args:List (Own×A)}{vs:List V}(r:Rel K (args.map some) (vs.map some) H O fp)(n:Nat):Rel K (args.map some++List.replicate n none) (vs.map some++List.replicate n none) H O fp where
 len:=by have:=r.len; simp at this |-; exact this
 slot:=fun i st a e=>by
  by_cases hi:i<args.length
  .rw[List.getElem?_append_left (by simpa using hi)] at e
   obtain⟨v,e1,q⟩:=r.slot i st a e;exact⟨v,by rw[List.getElem?_append_left (by simpa using Ay e1)]; exact e1,q⟩
  .rw[List.getElem?_append_right (by simpa using hi),List.getElem?_replicate] at e
   split at e<;>cases e
 out:=fun i h=>r.out i fun st a e=>h st a (by rw[List.getElem?_append_left (by simpa using Ay e)]; exact e)
 nd:=r.nd
 inj:=r.inj
 off:=r.off
 al:=r.al
theorem JL{np nn:Nat}{b:MS}{vs:List V}{Q:VK}{E:XK}(h:spJ K (fnM np nn b) np vs H Q E):tS K b { nx:=fun _ H'=>Q .non H',rt:=Q } (vs.map some++List.replicate (nn-np) none) H:=by
 obtain⟨args,O,fp,hl,rl,a,as',e,k⟩:=h;have hl2:vs.length=args.length:=by have:=rl.len; simp at this; exact this.symm
 simp only[fnM] at e;split at e
 .rename_i ha
  simp only[bind_eq_some_iff] at e;obtain⟨f,e1,e2⟩:=e;refine⟨_,O,fp,rl.start (nn-np),f,e1,?_⟩;cases f with
  | next Z' =>
   cases e2;intro σ' fp' H' p;obtain⟨fp2,p2,_⟩:=LS hl2 p;rw[ha] at p2;exact k _ _ ⟨[],fp2,p2,E1 .non⟩
  | ret b Z' =>
   cases e2;intro σ' v L fp' H' p q;obtain⟨fp2,p2,n2⟩:=LS hl2 p;rw[ha] at p2;exact k _ _ ⟨L,fp2,p2,DG n2 q⟩
  | brk Z'=>cases e2
  | cnt Z'=>cases e2
 .cases e
theorem RRs.split:∀{rs:List R} {vs:List V} {L:List Addr},RRs K N H σ vs rs L->L.Nodup->∃Ls:Nat->List Addr,(∀j v r,vs[j]? = some v->rs[j]? = some r->RR K N H σ v r (Ls j))/\(∀j p,p∈Ls j->p∈L)/\(∀j,(Ls j).Nodup) /\
  (∀i j p,p∈Ls i->p∈Ls j->i=j)/\vs.length=rs.length/\∀j,rs.length<=j->Ls j=[]:=by
 intro _l;induction _l with
 | nil =>
  intro _m;cases _m with
  | nil =>
   intro L q nd;exact⟨fun _=>[],fun j v r h=>by simp at h,fun j p h=>by simp at h,fun _=>List.nodup_nil,fun i j p h=>by simp at h,rfl,fun _ _=>rfl⟩
  | cons _ _ =>
   intro _ q _;simp only[RRs] at q
 | cons r rs ih =>
  intro _m;cases _m with
  | nil =>
   intro _ q _;simp only[RRs] at q
  | cons v vs =>
   intro L q nd;simp only[RRs] at q;obtain⟨L1,L2,rfl,q1,q2⟩:=q;obtain⟨n1,n2,n3⟩:=List.nodup_append.mp nd;obtain⟨Ls,h1,h2,h3,h4,h5,h6⟩:=ih q2 n2;refine⟨fun j=>match j with|0=>L1|j+1=>Ls j,fun j w s e1 e2=>?_,fun j p h=>?_,fun j=>?_,fun i j p e1 e2=>?_,by simp[h5],fun j hj=>?_⟩
   .cases j with
    | zero=>simp at e1 e2; subst e1; subst e2; exact q1
    | succ j=>exact h1 j w s (by simpa using e1) (by simpa using e2)
   .cases j with
    | zero=>exact List.mem_append_left _ h
    | succ j=>exact List.mem_append_right _ (h2 j p h)
   .cases j with
    | zero=>exact n1
    | succ j=>exact h3 j
   .cases i with
    | zero =>
     cases j with
     | zero=>rfl
     | succ j=>exact absurd rfl (n3 p e1 p (h2 j p e2))
    | succ i =>
     cases j with
     | zero=>exact absurd rfl (n3 p e2 p (h2 i p e1))
     | succ j=>rw[h4 i j p e1 e2]
   .cases j with
    | zero=>simp at hj
    | succ j=>exact h6 j (by simpa using hj)
theorem Ez:∀{rs:List R} {j i:Nat},rs[j]? = some (.ref i)->i∈refs rs
 | [],j,i,h=>by simp at h
 | .ref k::rs,0,i,h=>by simp at h; subst h; simp[refs]
 | .val a::rs,0,i,h=>by simp at h
 | .ref k::rs,j+1,i,h=>by simp only[refs]; exact List.mem_cons_of_mem _ (Ez (by simpa using h))
 | .val a::rs,j+1,i,h=>by simp only[refs]; exact Ez (by simpa using h)
theorem IC:∀{rs:List R},(refs rs).Nodup->∀{i j k:Nat},rs[i]? = some (.ref k)->rs[j]? = some (.ref k)->i=j
 | [],_,i,j,k,h,_=>by simp at h
 | .val a::rs,nd,0,_,_,h,_=>by simp at h
 | .val a::rs,nd,_+1,0,_,_,h=>by simp at h
 | .val a::rs,nd,i+1,j+1,k,h1,h2=>by
  have e:=IC (rs:=rs) nd (i:=i) (j:=j) (k:=k) (by simpa using h1) (by simpa using h2);rw[e]
 | .ref a::rs,nd,0,0,_,_,_=>rfl
 | .ref a::rs,nd,0,j+1,k,h1,h2=>by
  simp at h1; subst h1;simp only[refs,List.nodup_cons] at nd;exact absurd (Ez (by simpa using h2)) nd.1
 | .ref a::rs,nd,i+1,0,k,h1,h2=>by
  simp at h2; subst h2;simp only[refs,List.nodup_cons] at nd;exact absurd (Ez (by simpa using h1)) nd.1
 | .ref a::rs,nd,i+1,j+1,k,h1,h2=>by
  simp only[refs,List.nodup_cons] at nd;have e:=IC (rs:=rs) nd.2 (i:=i) (j:=j) (k:=k) (by simpa using h1) (by simpa using h2);rw[e]
theorem IG{i k:Nat}{a:A}:(M9 Z k a)[i]? = if i=k then (match Z[i]? with|some (some (st,_))=>some (some (st,a))|x=>x) else Z[i]?:=by
 unfold M9;split
 .rename_i st b e
  by_cases h:i=k
  .subst h
   rw[List.getElem?_set_self (Ay e),if_pos rfl,e]
  .rw[List.getElem?_set_ne (Ne.symm h),if_neg h]
 .rename_i hn
  by_cases h:i=k
  .subst h
   rw[if_pos rfl];split
   .rename_i st b e
    exact absurd e (hn st b)
   .rfl
  .rw[if_neg h]
theorem Es:∀{rs:List R} {as:List A} {Z:Ro} {i:Nat},i∉refs rs->(back rs as Z)[i]? = Z[i]?
 | [],as,Z,i,_=>by cases as<;>rfl
 | .ref k::rs,[],Z,i,_=>rfl
 | .val k::rs,[],Z,i,_=>rfl
 | .ref k::rs,a::as,Z,i,h=>by
  simp only[refs,List.mem_cons,not_or] at h;simp only[back];rw[Es h.2,IG,if_neg h.1]
 | .val k::rs,a::as,Z,i,h=>by
  simp only[refs] at h;simp only[back];exact Es h
theorem Gm:∀{rs:List R} {as:List A} {Z:Ro} {i j:Nat} {st:Own} {b a:A},(refs rs).Nodup->rs[j]? = some (.ref i)->as[j]? = some a -> Z[i]? = some (some (st,b))->(back rs as Z)[i]? = some (some (st,a))
 | [],as,Z,i,j,st,b,a,_,h,_,_=>by simp at h
 | _::_,[],Z,i,j,st,b,a,_,_,h,_=>by simp at h
 | .ref k::rs,c::as,Z,i,0,st,b,a,nd,h1,h2,h3=>by
  simp at h1 h2;subst h1; subst h2;simp only[refs,List.nodup_cons] at nd;simp only[back];rw[Es nd.1,IG,if_pos rfl,h3]
 | .val k::rs,c::as,Z,i,0,st,b,a,nd,h1,h2,h3=>by simp at h1
 | .ref k::rs,c::as,Z,i,j+1,st,b,a,nd,h1,h2,h3=>by
  simp only[refs,List.nodup_cons] at nd;simp only[back];have hk:i≠k:=by
   rintro rfl;exact nd.1 (Ez (by simpa using h1))
  exact Gm nd.2 (by simpa using h1) (by simpa using h2) (by rw[IG,if_neg hk]; exact h3)
 | .val k::rs,c::as,Z,i,j+1,st,b,a,nd,h1,h2,h3=>by
  simp only[refs] at nd;simp only[back];exact Gm nd (by simpa using h1) (by simpa using h2) h3
theorem HH:∀{rs:List R} {as:List A} {Z:Ro},(back rs as Z).length=Z.length
 | [],as,Z=>by cases as<;>rfl
 | .ref k::rs,[],Z=>rfl
 | .val k::rs,[],Z=>rfl
 | .ref k::rs,a::as,Z=>by
  simp only[back];rw[HH];unfold M9;split<;>simp
 | .val k::rs,a::as,Z=>by simp only[back]; exact HH
theorem args_get:∀{rs:List R} {args:List (Own×A)},Cw Z rs=some args->args.length=rs.length/\∀(j:Nat) (r:R),rs[j]? = some r->∃y,args[j]? = some y/\E6 Z r=some y:=by
 intro _l;induction _l with
 | nil =>
  intro args h;simp only[Cw,Option.some.injEq] at h;subst h;exact⟨rfl,fun j r h=>by simp at h⟩
 | cons r rs ih =>
  intro args h;simp only[Cw,bind_eq_some_iff,map_eq_some_iff] at h;obtain⟨y,h1,ys,h2,rfl⟩:=h;obtain⟨e1,e2⟩:=ih h2;refine⟨by simp[e1],fun j s hj=>?_⟩;cases j with
  | zero=>simp at hj; subst hj; exact⟨y,rfl,h1⟩
  | succ j=>exact e2 j s (by simpa using hj)
theorem Er{i:Nat}{y:Own×A}(h:E6 Z (.ref i)=some y):∃st,Z[i]? = some (some (st,y.2))/\y.1≠.own/\(st=.ro->y.1=.ro):=by
 simp only[E6] at h;split at h
 .rename_i a e
  cases h;exact⟨_,e,fun z=>(by cases z),fun _=>rfl⟩
 .rename_i st a hn e
  cases h;refine⟨_,e,fun z=>(by cases z),fun z=>?_⟩
  exact(hn z).elim
 .cases h
end
section
variable{K:Frag}{Z Z' Z1 Z2:Ro}{σ σ' σ1 σ2:St}{H H' H1 H2:Hp}{O O' N:Addr->Prop}{fp fp' fp1 fp2:Nat->List Addr}{L L1:List Addr}
noncomputable def fpC(rs:List R)(Ls fp1:Nat->List Addr):Nat->List Addr:=fun j=>match rs[j]? with
 | some (.val _)=>Ls j
 | some (.ref i)=>fp1 i
 | none=>[]
noncomputable def ixR(rs:List R)(i:Nat):Option Nat:=rs.findIdx? fun r=>match r with
 | .ref k=>k==i
 | .val _=>false
theorem Gy{rs:List R}{i j:Nat}(h:ixR rs i=some j):rs[j]? = some (.ref i):=by
 unfold ixR at h;obtain⟨hj,h1,_⟩:=List.findIdx?_eq_some_iff_getElem.mp h;cases e:rs[j] with
 | val a=>rw[e] at h1; simp at h1
 | ref k =>
  rw[e] at h1;have:k=i:=by simpa using h1
  subst this;rw[List.getElem?_eq_getElem hj,e]
theorem Gx{rs:List R}{i:Nat}(h:ixR rs i=none):i∉refs rs:=by
 unfold ixR at h;rw[List.findIdx?_eq_none_iff] at h;intro hm;have:∀{rs:List R},i∈refs rs->R.ref i∈rs:=by
  intro rs;induction rs with
  | nil=>intro h; simp[refs] at h
  | cons r rs ih =>
   intro h;cases r with
   | val a=>simp only[refs] at h; exact List.mem_cons_of_mem _ (ih h)
   | ref k =>
    simp only[refs,List.mem_cons] at h;rcases h with rfl|h
    .exact List.mem_cons_self
    .exact List.mem_cons_of_mem _ (ih h)
 have:=h _ (this hm);simp at this
theorem N4{Φ:Fn}{np:Nat}{m:MA}{Q:VK}{E:XK}(hnp:∀args y,Φ args=some y->args.length=np)(h:tE K (Ar Φ m) σ H Q):Jz (spJ K Φ np) [] E (tA K m) σ H Q:=by
 obtain⟨Z,O,fp,rl,x,Z',e,k⟩:=h;simp only[Ar,bind_eq_some_iff] at e;obtain⟨⟨rs,Z1⟩,e1,args,e2,e3⟩:=e;split at e3
 case isFalse=>cases e3
 rename_i hnd;simp only[map_eq_some_iff] at e3;obtain⟨⟨a,as'⟩,e3,e4⟩:=e3;cases e4;refine⟨Z,O,fp,rl,rs,Z1,e1,fun vs H1 yy=>?_⟩;obtain⟨L,fp1,p,q⟩:=yy;obtain⟨Ls,s1,s2,s3,s4,s5,s6⟩:=q.split p.nd;obtain⟨g1,g2⟩:=args_get e2;rw[List.append_nil];have rs_of:∀{j:Nat} {y:Own×A},args[j]? = some y->∃r v,rs[j]? = some r/\vs[j]? = some v/\E6 Z1 r=some y:=fun {j y} hy=>by
  have hj:j<rs.length:=by rw[<- g1]; exact Ay hy
  obtain⟨y',h1,h2⟩:=g2 j rs[j] (by simp[hj]);rw[hy] at h1; cases h1;exact⟨rs[j],vs[j]'(by rw[s5]; exact hj),by simp[hj],by simp,h2⟩
 -- what goes with the call
 have fpc:∀j pp,pp∈fpC rs Ls fp1 j->(∃a,rs[j]? = some (.val a)/\pp∈Ls j)\/(∃i,rs[j]? = some (.ref i)/\pp∈fp1 i):=fun j pp hp=>by
  unfold fpC at hp;split at hp
  .rename_i a e; exact .inl ⟨a,e,hp⟩
  .rename_i i e; exact .inr ⟨i,e,hp⟩
  .simp at hp
 have cN:∀pp,Fp (fpC rs Ls fp1) pp->NN fp1 (ad O L) pp:=fun pp ⟨j,hp⟩=>by
  rcases fpc j pp hp with ⟨_,_,hp⟩|⟨i,_,hp⟩
  .exact .inr (.inr (s2 j pp hp))
  .exact .inl ⟨i,hp⟩
 have oN:∀pp,O pp->¬Fp (fpC rs Ls fp1) pp:=fun pp ho ⟨j,hp⟩=>by
  rcases fpc j pp hp with ⟨_,_,hp⟩|⟨i,_,hp⟩
  .exact p.lo pp (s2 j pp hp) ho
  .exact p.rel.off i pp hp (.inl ho)
 have kN:∀i pp,pp∈fp1 i->i∉refs rs->¬Fp (fpC rs Ls fp1) pp:=fun i pp hp hi ⟨j,hq⟩=>by
  rcases fpc j pp hq with ⟨_,_,hq⟩|⟨i',hr,hq⟩
  .exact p.rel.off i pp hp (.inr (s2 j pp hq))
  .have:=p.rel.inj i i' pp hp hq
   subst this;exact hi (Ez hr)
 let OC:Addr->Prop:=fun pp=>NN fp1 (ad O L) pp/\¬Fp (fpC rs Ls fp1) pp
 have cNN:∀pp,NN (fpC rs Ls fp1) OC pp->NN fp1 (ad O L) pp:=fun pp z=>z.elim (cN pp) fun z=>z.1;have relC:Rel K (args.map some) (vs.map some) H1 OC (fpC rs Ls fp1):=by
  refine⟨by simp[g1,s5],fun j st b hb=>?_,fun j h=>?_,fun j=>?_,fun i j pp h1 h2=>?_,fun j pp hp z=>z.2 ⟨j,hp⟩,fun pp z=>p.rel.al pp (cNN pp z)⟩
  .rw[List.getElem?_map] at hb
   cases hy:args[j]? with
   | none=>rw[hy] at hb; cases hb
   | some y =>
    rw[hy] at hb;cases hb;obtain⟨r,v,hr,hv,ha⟩:=rs_of hy;refine⟨v,by rw[List.getElem?_map,hv]; rfl,DG cNN ?_⟩;have q1:=s1 j v r hv hr;cases r with
    | val c =>
     simp only[E6,Option.some.injEq] at ha;cases ha;have:fpC rs Ls fp1 j=Ls j:=by simp[fpC,hr]
     rw[this];exact q1
    | ref i =>
     obtain⟨st',h1,h2,_⟩:=Er ha;obtain⟨v',h3,h4⟩:=p.rel.slot i _ _ h1;rw[q1.2] at h3; cases h3;have:fpC rs Ls fp1 j=fp1 i:=by simp[fpC,hr]
     rw[this];exact h4
  .unfold fpC
   split
   .rename_i c e
    obtain⟨y,hy,_⟩:=g2 j _ e;exact absurd (by rw[List.getElem?_map,hy]; rfl) (h y.1 y.2)
   .rename_i c e
    obtain⟨y,hy,_⟩:=g2 j _ e;exact absurd (by rw[List.getElem?_map,hy]; rfl) (h y.1 y.2)
   .rfl
  .unfold fpC
   split
   .exact s3 j
   .exact p.rel.nd _
   .exact List.nodup_nil
  .rcases fpc i pp h1 with ⟨c1,r1,z1⟩|⟨i1,r1,z1⟩
   .rcases fpc j pp h2 with ⟨c2,r2,z2⟩|⟨i2,r2,z2⟩
    .exact s4 i j pp z1 z2
    .exact absurd (.inr (s2 i pp z1)) (p.rel.off i2 pp z2)
   .rcases fpc j pp h2 with ⟨c2,r2,z2⟩|⟨i2,r2,z2⟩
    .exact absurd (.inr (s2 j pp z2)) (p.rel.off i1 pp z1)
    .have:=p.rel.inj i1 i2 pp z1 z2
     subst this;exact IC hnd r1 r2
 refine⟨args,OC,fpC rs Ls fp1,by rw[s5,<- g1]; exact hnp _ _ e3,relC,a,as',e3,fun v H2 ⟨L',fpD,pc,qc⟩=>k v H2 ?_⟩
 -- behind the call
 have hlen:rs.length<=as'.length:=by
  have:=pc.rel.len;rw[Iu] at this;simp at this;lia
 let fp2:Nat->List Addr:=fun i=>match ixR rs i with
  | some j=>fpD j
  | none=>fp1 i
 have fp2c:∀i pp,pp∈fp2 i->(∃j,rs[j]? = some (.ref i)/\pp∈fpD j)\/(i∉refs rs/\pp∈fp1 i):=fun i pp hp=>by
  simp only[fp2] at hp;split at hp
  .rename_i j e; exact .inl ⟨j,Gy e,hp⟩
  .rename_i e; exact .inr ⟨Gx e,hp⟩
 have oOC:∀pp,O pp->OC pp:=fun pp z=>⟨.inr (.inl z),oN pp z⟩;have fOC:∀i pp,pp∈fp1 i->i∉refs rs->OC pp:=fun i pp hp hi=>⟨.inl ⟨i,hp⟩,kN i pp hp hi⟩;have nD:∀pp,NN fp2 (ad O L') pp->NN fpD (ad OC L') pp:=fun pp z=>by
  rcases z with ⟨i,z⟩|z|z
  .rcases fp2c i pp z with ⟨j,_,z⟩|⟨hi,z⟩
   .exact .inl ⟨j,z⟩
   .exact .inr (.inl (fOC i pp z hi))
  .exact .inr (.inl (oOC pp z))
  .exact .inr (.inr z)
 have hnew:∀pp,(pp∈L'\/Fp fpD pp)->NN fp1 (ad O L) pp\/H1 pp=none:=fun pp z=>(pc.new pp z).imp (cN pp) id;have back1:∀pp,(Fp (fpC rs Ls fp1) pp\/H1 pp=none)->Fp fp pp\/H pp=none:=fun pp z=>by
  rcases z with ⟨j,z⟩|z
  .rcases fpc j pp z with ⟨_,_,z⟩|⟨i,_,z⟩
   .exact p.new pp (.inl (s2 j pp z))
   .exact p.new pp (.inr ⟨i,z⟩)
  .cases e:H pp with
   | none=>exact .inr rfl
   | some o =>
    by_cases hf:Fp fp pp
    .exact .inl hf
    .rw[p.kept pp o e (.inl hf)] at z; cases z
 have slot2:∀i st b,(back rs as' Z1)[i]? = some (some (st,b))->(∃j,ixR rs i=some j/\rs[j]? = some (.ref i)/\as'[j]? = some b/\∃c,Z1[i]? = some (some (st,c)))\/(ixR rs i=none/\i∉refs rs/\Z1[i]? = some (some (st,b))):=fun i st b hb=>by
  cases e:ixR rs i with
  | some j =>
   have hr:=Gy e;have hj:j<rs.length:=Ay hr;obtain⟨y,hy,ha⟩:=g2 j _ hr;obtain⟨st',h1,_,_⟩:=Er ha;have hb':=Gm (as:=as') (a:=as'[j]'(by lia)) hnd hr (by simp) h1;rw[hb] at hb';cases hb';exact .inl ⟨j,rfl,hr,by simp,_,h1⟩
  | none =>
   have hi:=Gx e;rw[Es hi] at hb;exact .inr ⟨rfl,hi,hb⟩
 have rel2:Rel K (back rs as' Z1) σ H2 (ad O L') fp2:=by
  refine⟨by rw[HH]; exact p.rel.len,fun i st b hb=>?_,fun i h=>?_,fun i=>?_,fun i1 i2 pp h1 h2=>?_,fun i pp h z=>?_,fun pp z=>pc.rel.al pp (nD pp z)⟩
  .rcases slot2 i st b hb with ⟨j,ej,hr,hb2,c,hc⟩|⟨ej,hi,hb2⟩
   .obtain⟨y,hy,ha⟩:=g2 j _ hr
    obtain⟨st',h1,h2,_⟩:=Er ha;obtain⟨v',h3,h4⟩:=pc.rel.slot j _ _ (HX (st:=y.1) (a0:=y.2) hy h2 hb2);have hv:vs[j]? = some v':=by
     rw[List.getElem?_map] at h3;cases e:vs[j]? with
     | none=>rw[e] at h3; cases h3
     | some w=>rw[e] at h3; cases h3; rfl
    have q1:=s1 j v' _ hv hr;have:fp2 i=fpD j:=by simp only[fp2,ej]
    exact⟨v',q1.2,by rw[this]; exact DG nD h4⟩
   .obtain⟨v',h3,h4⟩:=p.rel.slot i _ _ hb2
    have:fp2 i=fp1 i:=by simp only[fp2,ej]
    refine⟨v',h3,?_⟩;rw[this];refine h4.tr (M:=Fp (fpC rs Ls fp1)) cN pc.kept (fun pp z=>?_) fun pp hp=>kN i pp hp hi;rcases z with ⟨i',z⟩|z|z
    .rcases fp2c i' pp z with ⟨j,_,z⟩|⟨_,z⟩
     .exact hnew pp (.inr ⟨j,z⟩)
     .exact .inl (.inl ⟨i',z⟩)
    .exact .inl (.inr (.inl z))
    .exact hnew pp (.inl z)
  .simp only[fp2]
   split
   .rename_i j ej
    have hr:=Gy ej;have hj:j<rs.length:=Ay hr;obtain⟨y,hy,ha⟩:=g2 j _ hr;obtain⟨st',h1,_,_⟩:=Er ha;exact absurd (Gm (as:=as') (a:=as'[j]'(by lia)) hnd hr (by simp) h1) (h _ _)
   .rename_i ej
    exact p.rel.out i fun st b hb=>h st b (by rw[Es (Gx ej)]; exact hb)
  .simp only[fp2]
   split
   .exact pc.rel.nd _
   .exact p.rel.nd _
  .rcases fp2c i1 pp h1 with ⟨j1,r1,z1⟩|⟨r1,z1⟩
   .rcases fp2c i2 pp h2 with ⟨j2,r2,z2⟩|⟨r2,z2⟩
    .have:=pc.rel.inj j1 j2 pp z1 z2
     subst this;rw[r1] at r2; cases r2; rfl
    .exact absurd (.inl (fOC i2 pp z2 r2)) (pc.rel.off j1 pp z1)
   .rcases fp2c i2 pp h2 with ⟨j2,r2,z2⟩|⟨r2,z2⟩
    .exact absurd (.inl (fOC i1 pp z1 r1)) (pc.rel.off j2 pp z2)
    .exact p.rel.inj i1 i2 pp z1 z2
  .rcases fp2c i pp h with ⟨j,r1,z1⟩|⟨r1,z1⟩
   .exact pc.rel.off j pp z1 (z.imp (oOC pp) id)
   .rcases z with z|z
    .exact p.rel.off i pp z1 (.inl z)
    .exact pc.lo pp z (fOC i pp z1 r1)
 refine⟨L',fp2,⟨rel2,pc.nd,fun pp hp z=>pc.lo pp hp (oOC pp z),fun pp hp=>?_,p.kept.trans pc.kept fun pp z=>back1 pp (.inl z),rfl,p.stab.trans fun i st b hb hs=>?_⟩,DG nD qc⟩
 .rcases hp with hp|⟨i,hp⟩
  .exact back1 pp (pc.new pp (.inl hp))
  .rcases fp2c i pp hp with ⟨j,_,z⟩|⟨_,z⟩
   .exact back1 pp (pc.new pp (.inr ⟨j,z⟩))
   .exact p.new pp (.inr ⟨i,z⟩)
 .cases e:ixR rs i with
  | none=>exact⟨b,by rw[Es (Gx e)]; exact hb,rfl,fun _=>rfl⟩
  | some j =>
   have hr:=Gy e;have hj:j<rs.length:=Ay hr;obtain⟨y,hy,ha⟩:=g2 j _ hr;obtain⟨st',h1,h2,h3⟩:=Er ha;rw[hb] at h1; cases h1;refine⟨_,Gm (as:=as') (a:=as'[j]'(by lia)) hnd hr (by simp) hb,rfl,fun z=>?_⟩;obtain⟨a',h4,_,h5⟩:=pc.stab j y.1 y.2 (by rw[List.getElem?_map,hy]; rfl) h2;obtain⟨_,_,_,h6⟩:=Ir h4;have:as'[j]? = some (as'[j]'(by lia)):=by simp
   rw[this] at h6;have e5:=h5 (h3 z);have e6:as'[j]'(by lia)=a':=Option.some.inj h6;rw[e6,e5]
end
end J
end
section
namespace J
open PySem PySem.Spec PyProof.Rows L2
noncomputable def JE(X:Cx)(e:Expr)(m:ME):Prop:=PE X e (tE X.K m)
noncomputable def JT(X:Cx)(e:Expr)(m:MT):Prop:=PT X e (tT X.K m)
noncomputable def JW(X:Cx)(e:Expr)(m:MT):Prop:=PW X e (tT X.K m)
noncomputable def JA(X:Cx)(es:List Expr)(m:MA):Prop:=PA X es (tA X.K m)
noncomputable def JI(X:Cx)(tg e:Expr)(m:MI):Prop:=PI X tg e (tI X.K m)
noncomputable def JS(X:Cx)(s:Stmt)(m:MS):Prop:=PS X s (tS X.K m)
noncomputable def JSs(X:Cx)(s:List Stmt)(m:MS):Prop:=PSs X s (tS X.K m)
section
variable{X:Cx}{a b c e:Expr}{es:List Expr}{m m1 m2 m3:ME}{ms:MA}{mt mt2:MT}{mi:MI}{p pos pos':Pos}{x:Str}{s:Stmt}{ss:List Stmt}{w1 w2:MS}
theorem Az{t t':TE}(h:PE X e t)(w:∀σ H Q,t' σ H Q->t σ H Q):PE X e t':=fun pins s σ H Q I q=>h pins s σ H Q I (w σ H Q q)
theorem HG{t t':TT}(h:PT X e t)(w:∀σ H Q,t' σ H Q->t σ H Q):PT X e t':=fun pins s σ H Q I q=>h pins s σ H Q I (w σ H Q q)
theorem SA{t t':TT}(h:PW X e t)(w:∀σ H Q,t' σ H Q->t σ H Q):PW X e t':=fun wh pins s σ H Q I q=>h wh pins s σ H Q I (w σ H Q q)
theorem NL{t t':TA}(h:PA X es t)(w:∀σ H Q,t' σ H Q->t σ H Q):PA X es t':=fun pp pins s σ H Q I q=>h pp pins s σ H Q I (w σ H Q q)
theorem Cd{t t':TS}(h:PS X s t)(w:∀D σ H,t' D σ H->t D σ H):PS X s t':=fun pins s σ H D I q=>h pins s σ H D I (w D σ H q)
theorem IB{t t':TS}(h:PSs X ss t)(w:∀D σ H,t' D σ H->t D σ H):PSs X ss t':=fun pins s σ H D I q=>h pins s σ H D I (w D σ H q)
theorem Kx{tg:Expr}{t t':TI}(h:PI X tg e t)(w:∀σ H R,t' σ H R->t σ H R):PI X tg e t':=fun pins s σ H R I q=>h pins s σ H R I (w σ H R q)
theorem MC(i:Nat)(hN:X.N[i]? = some x)(hv:Vis X.env.scope x)(hd:(x==("__debug__" : Str))=false)(hcd:(x==("__classdict__" : Str))=false):JE X (.Name x pos) (Ad i):=Az (Iy hN hv hd hcd) fun _ _ _ h=>VQ h
theorem Ah{i:Int}{j:Nat}:JE X (.Constant (.int i) j pos) (Ag (.int i)):=Az MX fun _ _ _ h=>Hf (fun _ _=>.int i) h
theorem D5{b:Bool}{j:Nat}:JE X (.Constant (.bool b) j pos) (Ag (.bl b)):=Az WI fun _ _ _ h=>Hf (fun _ _=>.bl b) h
theorem F7{j:Nat}:JE X (.Constant .none j pos) (Ag .non):=Az Vg fun _ _ _ h=>Hf (fun _ _=>.non) h
theorem AD{z:Str}{j:Nat}(hz:z.length<=sizeLine):JE X (.Constant (.str z) j pos) (Ag (.str z)):=Az Vj fun _ _ _ h=>Hf (fun _ _=>.str z hz) h
theorem J6{n:Int}(G:GInt X.mg x n)(hg:Gl X x)(hd:(x==("__debug__" : Str))=false):JE X (.Name x pos) (Ag (.int n)):=Az (So G rfl hg hd) fun _ _ _ h=>Hf (fun _ _=>.int n) h
theorem Ac(h:JE X e m):JE X e (Ae m):=Az h fun _ _ _ h=>Rg h
theorem Af:JA X [] Aj:=NL Eo fun _ _ _ h=>IL h
theorem Aa(hs:starEach (e::es) X.env=(false,eval e X.env)::starEach es X.env)(h:JE X e m)(t:JA X es ms):JA X (e::es) (Ab m ms):=NL (CL h t hs) fun _ _ _ h=>FP h
noncomputable def r1L(r:V->Hp->VK->Prop):List V->Hp->VK->Prop:=fun xs H Q=>∃x,xs=[x]/\r x H Q
noncomputable def r2L(r:R2):List V->Hp->VK->Prop:=fun xs H Q=>∃x y,xs=[x,y]/\r x y H Q
noncomputable def m1L(m:ME):MA:=Ab m Aj
noncomputable def m2L(m m':ME):MA:=Ab m (Ab m' Aj)
theorem two{K:Frag}{f:List A->Option A}{r:R2}(ok:OpN K f (r2L r)){σ:L2.St}{H:Hp}{Q:VK}(h:tE K (opM f (m2L m1 m2)) σ H Q):tOp r (tE K m1) (tE K m2) σ H Q:=by
 have h1:=FP (N5 ok h);refine tE.mono h1 fun v H1 h2=>tE.mono (FP h2) fun u H2 h3=>?_;obtain⟨x,y,e,q⟩:=IL h3;cases e;exact q
theorem one{K:Frag}{f:List A->Option A}{r:V->Hp->VK->Prop}(ok:OpN K f (r1L r)){σ:L2.St}{H:Hp}{Q:VK}(h:tE K (opM f (m1L m)) σ H Q):tUn r (tE K m) σ H Q:=by
 refine tE.mono (FP (N5 ok h)) fun v H1 h2=>?_;obtain⟨x,e,q⟩:=IL h2;cases e;exact q
theorem Aw{op:Operator}{f:List A->Option A}{r:R2}(ok:OpN X.K f (r2L r))(ho:OpR X (binaryOp op) r)(ha:JE X a m1)(hb:JE X b m2):JE X (.BinOp a op b pos) (opM f (m2L m1 m2)):=Az (WJ ho ha hb) fun _ _ _ h=>two ok h
theorem Nz{op:UnaryOp}{f:List A->Option A}{r:V->Hp->VK->Prop}(ok:OpN X.K f (r1L r))(ho:UnR X (unaryOp op) r)(ha:JE X a m):JE X (.UnaryOp op a pos) (opM f (m1L m)):=Az (WL ho ha) fun _ _ _ h=>one ok h
theorem Dc{op:CmpOp}{f:List A->Option A}{r:R2}(ok:OpN X.K f (r2L r))(ho:OpR X (compareOp op) r)(hm:behindInMarks op b=false)(ha:JE X a m1)(hb:JE X b m2):JE X (.Compare a [op] [b] pos) (opM f (m2L m1 m2)):=Az (Sn ho ha hb hm) fun _ _ _ h=>two ok h
theorem B7{op:CmpOp}{f:List A->Option A}{r:R2}(ok:OpN X.K f (r2L r))(ho:OpR X (compareOp op) r)(hm:behindInMarks op b=false)(ha:JE X a m1)(hb:JE X b m2):JT X (.Compare a [op] [b] pos) (AG (opM f (m2L m1 m2))):=
 HG (Sv ho ha hb hm) fun _ _ _ h=>two ok (KP h)
theorem AK{f:List A->Option A}{r:R2}(ok:OpN X.K f (r2L r))(ho:IxR X r)(hs:Nk b)(ha:JE X a m1)(hb:JE X b m2):JE X (.Subscript a b pos) (opM f (m2L m1 m2)):=Az (Tn ho ha hb hs) fun _ _ _ h=>two ok h
theorem AU{id:String}{f:List A->Option A}{r:List V->Hp->VK->Prop}(ok:OpN X.K f r)(hc:B1 X (.builtin id) r)(hm:X.mg x=none)(hv:bootBuiltins x=some (.builtin id))(hn:x ≠ "__name__")(hdb:(x==("__debug__" : Str))=false)(hg:Gl X x)(he:starEach (e::es) X.env=(false,eval e X.env)::starEach es X.env)(hpl:(backTo pos (starEach es X.env)).any (·.1)=false)(ha:JA X (e::es) ms):JE X (.Call (.Name x p) (e::es) [] pos) (opM f ms):=
 Az (OG hc hm hv hn hdb hg he hpl ha) fun _ _ _ h=>N5 ok h
theorem C9{T:String}{f:List A->Option A}{r:List V->Hp->VK->Prop}(ok:OpN X.K f r)(hc:B1 X (.type T) r)(hm:X.mg x=none)(hv:bootBuiltins x=some (.type T))(hn:x ≠ "__name__")(hdb:(x==("__debug__" : Str))=false)(hg:Gl X x)(he:starEach (e::es) X.env=(false,eval e X.env)::starEach es X.env)(hpl:(backTo pos (starEach es X.env)).any (·.1)=false)(ha:JA X (e::es) ms):JE X (.Call (.Name x p) (e::es) [] pos) (opM f ms):=
 Az (OH hc hm hv hn hdb hg he hpl ha) fun _ _ _ h=>N5 ok h
theorem CB{op:BoolOp}(h:JE X a m):JE X (.BoolOp op [a] pos) m:=Vi h
theorem CA(ha:JE X a m1)(hb:JE X (.BoolOp .And (b::es) pos) m2):JE X (.BoolOp .And (a::b::es) pos) (andM m1 m2):=Az (U7 ha hb) fun _ _ _ h=>VL h
theorem Wt(ha:JE X a m1)(hb:JE X (.BoolOp .Or (b::es) pos) m2):JE X (.BoolOp .Or (a::b::es) pos) (orM m1 m2):=Az (WK ha hb) fun _ _ _ h=>W2 h
theorem P7(ha:JE X a m1):JE X (.UnaryOp .Not a pos) (notM m1):=Az (Vh ha) fun _ _ _ h=>VO h
theorem BQ(he:∀whole,isTrue e X.env whole=(do let v <- whole; standAt e.pos; holding [v] (truthy v)))(h:JE X e m):JT X e (AG m):=HG (Sw he h) fun _ _ _ h=>KP h
theorem G2(ha:JT X a mt):JW X (.BoolOp .Or [a] pos) mt:=Vs ha
theorem Ic(ha:JT X a mt)(hb:JW X (.BoolOp .Or (b::es) pos) mt2):JW X (.BoolOp .Or (a::b::es) pos) (orT mt mt2):=SA (WM ha hb) fun _ _ _ h=>Xb h
theorem FI(h:JW X e mt):JT X e mt:=h.pt
theorem B8(ha:JT X a mt):JT X (.UnaryOp .Not a pos) (B3 mt):=HG (Vq ha) fun _ _ _ h=>V3 h
theorem Rc{K:Frag}{f g:List A->Option A}{r r':R2}(ok:OpN K f (r2L r))(ok':OpN K g (r2L r')){σ:L2.St}{H:Hp}{Q:VK}(h:tE K (Gn f g m1 m2 m3) σ H Q):Nc r r' (tE K m1) (tE K m2) (tE K m3) σ H Q:=by
 obtain⟨Z,O,fp,rl,y,Z',h0,k⟩:=h;simp only[Gn,bind_eq_some_iff] at h0;obtain⟨⟨r1,Z1⟩,e1,⟨r2,Z2⟩,e2,as,e3,z,e4,kb,e5,e6⟩:=h0;refine⟨Z,O,fp,rl,r1,Z1,e1,fun v1 H1 yy=>?_⟩;obtain⟨L1,fp1,p1,q1⟩:=yy;refine⟨Z1,ad O L1,fp1,p1.rel,r2,Z2,e2,fun v2 H2 yy=>?_⟩;obtain⟨L2,fp2,p2,q2⟩:=yy;have p12:=p1.then p2;have q1':=p2.rr p1.rel q1 fun _ z=>z;have q2':RR K (NN fp2 (ad O (L1++L2))) H2 σ v2 r2 L2:=by
  have e:ad (ad O L1) L2=ad O (L1++L2):=funext fun p=>propext JD;rw[<- e];exact q2
 have hs:JC K (NN fp2 (ad O (L1++L2))) H2 [v1,v2] as:=p12.rel.peeks (rs:=[r1,r2]) (L:=L1++L2) ⟨L1,L2,rfl,q1',L2,[],by simp,q2',rfl⟩ e3;have key:=ok _ H2 [v1,v2] as z (fun u H3=>∃kk,u=.bl kk/\if kk=true then tE K m3 σ H3 fun w H4=>r' v2 w H4 Q else Q (.bl false) H3) hs e4 ?_
 .obtain⟨x',y',e,q⟩:=key
  cases e;exact q
 intro u H3 o;obtain⟨sm,L3,q3,nd3,nw3⟩:=o;have hb:=NS q3 e5;refine⟨kb,hb,?_⟩;have p3:Post K O fp H Z Z2 σ σ (L1++L2) fp2 H3:=p12.more sm p12.nd fun p hp=>.inl hp;cases kb with
 | false =>
  rw[if_neg Bool.false_ne_true];simp at e6;obtain⟨rfl,rfl⟩:=e6;exact k _ H3 ⟨[],fp2,p3.drop0,KC (.bl _)⟩
 | true =>
  rw[if_pos rfl];simp only[if_true,bind_eq_some_iff,map_eq_some_iff] at e6;obtain⟨⟨r3,Z3⟩,e7,bs,e8,z2,e9,e10⟩:=e6;cases e10;refine⟨Z2,ad O (L1++L2),fp2,p3.rel,r3,Z3,e7,fun v3 H4 yy=>?_⟩;obtain⟨L4,fp4,p4,q4⟩:=yy;have p34:=p3.then p4;have q2'':RR K (NN fp2 (ad O (L1++L2))) H3 σ v2 r2 L2:=by
   cases r2 with
   | ref i=>exact q2'
   | val a=>exact Am.tr (M:=fun _=>False) (fun _ z=>z.elim) (BW.kept sm) (fun p z=>.inl z) (fun _ _ z=>z) q2'
  have q2f:=p4.rr p3.rel q2'' fun p z=>List.mem_append_right _ z;have q4':RR K (NN fp4 (ad O ((L1++L2)++L4))) H4 σ v3 r3 L4:=by
   have e:ad (ad O (L1++L2)) L4=ad O ((L1++L2)++L4):=funext fun p=>propext JD;rw[<- e];exact q4
  have hs2:JC K (NN fp4 (ad O ((L1++L2)++L4))) H4 [v2,v3] bs:=p34.rel.peeks (rs:=[r2,r3]) (L:=L2++L4) ⟨L2,L4,rfl,q2f,L4,[],by simp,q4',rfl⟩ e8;obtain⟨x',y',e,q⟩:=ok' _ H4 [v2,v3] bs z2 Q hs2 e9 fun u H5 o=>k u H5 (p34.out o);cases e;exact q
theorem MB{op op':CmpOp}{f g:List A->Option A}{r r':R2}(ok:OpN X.K f (r2L r))(ok':OpN X.K g (r2L r'))(ho:OpR X (compareOp op) r)(ho':OpR X (compareOp op') r')(hm:lastMarks [op,op'] [b,c]=false)(ha:JE X a m1)(hb:JE X b m2)(hc:JE X c m3):
  JE X (.Compare a [op,op'] [b,c] pos) (Gn f g m1 m2 m3):=Az (QC ho ho' ha hb hc hm) fun _ _ _ h=>Rc ok ok' h
theorem Uw{op op':CmpOp}{f g:List A->Option A}{r r':R2}(ok:OpN X.K f (r2L r))(ok':OpN X.K g (r2L r'))(ho:OpR X (compareOp op) r)(ho':OpR X (compareOp op') r')(hm:lastMarks [op,op'] [b,c]=false)(ha:JE X a m1)(hb:JE X b m2)(hc:JE X c m3):
  JT X (.Compare a [op,op'] [b,c] pos) (AG (Gn f g m1 m2 m3)):=HG (QO ho ho' ha hb hc hm) fun _ _ _ h=>Rc ok ok' (KP h)
theorem Ka{k:Nat}(h:JA X es ms):JE X (.Tuple es k pos) (Hg ms):=Az (QE h) fun _ _ _ h=>VP h
theorem AZ(h:JA X es ms):JE X (.List es pos) (lstM ms):=Az (Vf h) fun _ _ _ h=>VN h
theorem As{P:Program}{w:World}{K:Frag}{mg:Str->Option Value}{base:Heap}{CX:CXT}{k j:Nat}{ps:List Str}{Φ:Fn}{np:Nat}{E:XK}(D:Def P w K mg base CX k x ps (spJ K Φ np))(hnp:∀args y,Φ args=some y->args.length=np)(hP:X.prog=P)(hw:X.w=w)(hK:X.K=K)(hm:X.mg=mg)(hb:X.base=base)(hr:Room j X.A)(hkj:k<=j)(hx:Passes CX X E)(hdb:(x==("__debug__" : Str))=false)(hg:Gl X x)(he:starEach (e::es) X.env=(false,eval e X.env)::starEach es X.env)(hpl:(backTo pos (starEach es X.env)).any (·.1)=false)(ha:JA X (e::es) ms):JE X (.Call (.Name x p) (e::es) [] pos) (Ar Φ ms):=by
 subst hP hw hK hm hb;exact Az (MW D hr hkj hx ha hg hdb he hpl) fun _ _ _ h=>N4 hnp h
noncomputable def JEc(X:Cx)(own:List Str)(scope:Scope)(e:Expr)(m:ME):Prop:=∀C s H fp pins,JE (cxC X own scope C s H fp pins) e m
noncomputable def JTc(X:Cx)(own:List Str)(scope:Scope)(ifs:List Expr)(m:MT):Prop:=∀C s H fp pins,PTs (cxC X own scope C s H fp pins) ifs (tT X.K m)
theorem BY{own:List Str}{scope:Scope}:JTc X own scope [] Dw:=fun C s H fp pins=>fun _ _ _ H _ I h=>by
 obtain⟨Z,O,fp,r,x,Z',e,k⟩:=h;cases e;exact Sy _ _ _ H _ I (k fp H r.post)
theorem NB{own:List Str}{scope:Scope}(h:∀C s H fp pins,JT (cxC X own scope C s H fp pins) c mt):JTc X own scope [c] mt:=fun C s H fp pins=>Sz (h C s H fp pins)
theorem Sl{own N:List Str}{sc sco:Scope}(hok:BR own N sc sco=true):∀y∈own,y∉N:=fun y hy=>by
 simp only[BR,Bool.and_eq_true,List.all_eq_true] at hok;have:=hok.2 y hy;simpa using this
theorem Dr{scope:Scope}{iter elt:Expr}{ifs:List Expr}{px:Pos}(hok:BR [x] X.N scope X.env.scope=true)(hc:X.calm=true)(hn:X.N.Nodup)(hx:scope.names.lookup x=some .local)(hs:∀z,foldedSetIterable iter X.env z=pure z)(hi:JI X (.Name x px) iter mi)(ht:JTc X [x] scope ifs mt)(he:JEc X [x] scope elt m):
  JE X (.ListComp elt [⟨.Name x px,iter,ifs,0⟩] scope pos) (Bn mi 0 mt m):=
 Az (Ve (te:=tE X.K m) hok hc ⟨hn⟩ rfl hx hs hi ht (fun C s H fp pins=>he C s H fp pins)) fun _ _ _ h=>KO h
theorem P5{scope:Scope}{iter elt:Expr}{ifs:List Expr}{px py pt':Pos}{y:Str}{k:Nat}(hok:BR [x,y] X.N scope X.env.scope=true)(hc:X.calm=true)(hn:X.N.Nodup)(hxy:x≠y)(hx:scope.names.lookup x=some .local)(hy:scope.names.lookup y=some .local)(hs:∀z,foldedSetIterable iter X.env z=pure z)(hi:JI X (.Tuple [.Name x px,.Name y py] k pt') iter mi)(ht:JTc X [x,y] scope ifs mt)(he:JEc X [x,y] scope elt m):
  JE X (.ListComp elt [⟨.Tuple [.Name x px,.Name y py] k pt',iter,ifs,0⟩] scope pos) (Bn mi 2 mt m):=by
 have nw:=Sl hok;refine Az (To (un:=S5 X.K 2) hc hok hi (te:=tE X.K m) (fun C s H fp pins=>?_) ht (fun C s H fp pins=>he C s H fp pins) hs) fun _ _ _ h=>KO h;have P:=QH (X:=cxC X [x,y] scope C s H fp pins) (px:=px) (py:=py) (pos:=pt') (k:=k) hc rfl rfl (List.nodup_cons.mpr ⟨by
  intro z;rcases List.mem_cons.mp z with z|z
  .exact hxy z
  .exact nw x (by simp) z,List.nodup_cons.mpr ⟨nw y (by simp),hn⟩⟩) (lookup_relabel_local hx) (lookup_relabel_local hy)
 intro pins' s' σ0 σ H' v u vs h0 I r hu;obtain⟨a,rfl,hq,hl⟩:=hu;obtain⟨v1,v2,rfl⟩:=UE hl;exact P pins' s' σ0 σ H' _ u _ h0 I r ⟨a,v1,v2,rfl,hq,rfl⟩
theorem Vl{tg l:Expr}{tl:TE}(hl:PE X l tl):PI X tg l (Wr X.K tl):=by
 intro pins s σ H R I h;refine thn (hl pins s σ H _ I h) fun v s1 yy=>?_;obtain⟨y,H1,I1,r1,q1⟩:=yy;obtain⟨a,e,q1⟩:=q1;subst e;cases r1;rcases q1 with ⟨⟨xs,hq⟩,q⟩|⟨⟨xs,hq⟩,q⟩
 .obtain⟨its,rv,p,hz⟩:=I1.list hq
  refine wpAny_pyIter_list p.isList ?_;refine⟨s1.heap.objs.size,[s1.heap.objs.size],_,_,H1,rfl,I1.kept (t':=s1.toks) fun b o e=>Heap.get?_push_of_some _ e,O0 a _,⟨_,Heap.get?_push_size _ rfl,rfl,rfl⟩,fun b hb=>?_,q⟩;have e:b=s1.heap.objs.size:=by simpa using hb
  subst e;exact I1.fpOk (Nat.le_refl _) (I1.hok.fresh (Nat.le_refl _))
 .obtain⟨its,rv,p,hz⟩:=I1.tuple hq
  refine wpAny_pyIter_tuple (show s1.heap.IsTuple a its.toArray from p) ?_;refine⟨s1.heap.objs.size,[s1.heap.objs.size],_,_,H1,rfl,I1.kept (t':=s1.toks) fun b o e=>Heap.get?_push_of_some _ e,Ng a _,⟨_,Heap.get?_push_size _ rfl,rfl,rfl⟩,fun b hb=>?_,q⟩;have e:b=s1.heap.objs.size:=by simpa using hb
  subst e;exact I1.fpOk (Nat.le_refl _) (I1.hok.fresh (Nat.le_refl _))
theorem Ds{tg:Expr}(h:JE X e m):JI X tg e (De m):=Kx (Vl h) fun _ _ _ h=>VR h
theorem VS{K:Frag}{σ:L2.St}{H:Hp}{R:It->Hp->Prop}(h:tI K (L7 m) σ H R):Ws (tE K m) σ H R:=by
 obtain⟨Z,O,fp,rl,ds,n,Z',e,k⟩:=h;simp only[L7,bind_eq_some_iff] at e;obtain⟨⟨r,Z1⟩,e1,e2⟩:=e;dsimp only at e2;split at e2
 .rename_i z
  split at e2
  .rename_i hz
   cases e2;refine⟨Z,O,fp,rl,_,_,e1,fun v H1 yy=>?_⟩
   obtain⟨L,fp1,p,q⟩:=yy;have q':Am K (NN fp1 (ad O L)) H1 v (.fz (.str z)) L:=q;rw[Am] at q';obtain⟨rfl,q'⟩:=q';cases q';refine⟨z,rfl,k _ _ ⟨.val (.fz .non),.non,.fz .non,[],fp1,p,E1 (K:=K) .non,rfl,rfl,fun N H2 _=>?_⟩⟩;have hl:(Hd z).length=z.cps.size:=by simp[Hd]
   refine⟨fun i hi=>by show i<z.cps.size; lia,fun i hi=>by show z.cps.size<=i; lia,fun i v H' d y e=>?_⟩;obtain⟨rfl,c,hc,rfl⟩:=y;refine⟨fun _ _ z=>z,?_⟩;have:d=.str ⟨#[c]⟩:=by
    simp only[Hd,List.getElem?_map] at e;have hc':z.cps.toList[i]? = some c:=by simpa using hc
    rw[hc'] at e;cases e;rfl
   subst this;exact .str _ (by show 1<=sizeLine; decide)
  .cases e2
 .cases e2
theorem P8{tg:Expr}(h:JE X e m):JI X tg e (L7 m):=Kx (Vm h) fun _ _ _ h=>VS h
theorem N6{K:Frag}{σ:L2.St}{H:Hp}{R:It->Hp->Prop}(h:tI K (CV m) σ H R):PL (Ce (tE K m) FT) σ H R:=by
 obtain⟨Z,O,fp,rl,ds,n,Z',e,k⟩:=h;simp only[CV,bind_eq_some_iff] at e;obtain⟨⟨r,Z1⟩,e1,e2⟩:=e;dsimp only at e2;split at e2
 .rename_i j
  split at e2
  .rename_i hz
   cases e2;refine⟨Z,O,fp,rl,_,_,e1,fun v H1 yy=>?_⟩
   obtain⟨L,fp1,p,q⟩:=yy;have q':Am K (NN fp1 (ad O L)) H1 v (.fz (.int j)) L:=q;rw[Am] at q';obtain⟨rfl,q'⟩:=q';cases q';refine⟨j,rfl,hz.1,hz.2,k _ _ ⟨.val (.fz .non),.non,.fz .non,[],fp1,p,E1 (K:=K) .non,rfl,rfl,fun N H2 _=>?_⟩⟩;have hl:(E3 0 j.toNat).length=j.toNat:=by simp[E3]
   refine⟨fun i hi=>by show i<j.toNat; lia,fun i hi=>by show j.toNat<=i; lia,fun i v H' d y e=>?_⟩;obtain⟨rfl,rfl⟩:=y;refine⟨fun _ _ z=>z,?_⟩;have hi:i<j.toNat:=by have:=Ay e; lia
   simp only[E3,List.getElem?_map,List.getElem?_range hi,Option.map_some,Option.some.injEq] at e;subst e;exact .int _
  .cases e2
 .cases e2
theorem GA{tg:Expr}(hg:Gl X "range")(hm:X.mg "range" = none)(hs:starEach [a] X.env=[(false,eval a X.env)])(h:JE X a m):JI X tg (.Call (.Name "range" p) [a] [] pos) (CV m):=Kx (OJ hg hm (CL h Eo hs) hs) fun _ _ _ h=>N6 h
theorem A6:JSs X [] Bf:=IB Ss fun _ _ _ h=>SY h
theorem Al(h:JS X s w1):JSs X [s] w1:=Su h
theorem Ai(h:JS X s w1)(t:JSs X ss w2):JSs X (s::ss) (AA w1 w2):=IB (LO h t) fun _ _ _ h=>V1 h
theorem Ot:JSs X ss EU:=fun _ _ _ _ _ _ y=>by
 obtain⟨_,_,_,_,_,h,_⟩:=y;cases h
theorem Lv:JS X s EU:=fun _ _ _ _ _ _ y=>by
 obtain⟨_,_,_,_,_,h,_⟩:=y;cases h
theorem Ib(hs:swapsWith e none pos.line X.env=pure false)(h:JE X e m):JS X (.Expr e pos) (Hw m):=Cd (GI h hs) fun _ _ _ h=>VV h
theorem Ax(h:JE X e m):JS X (.Return (some e) pos) (retS m):=Cd (Vo h) fun _ _ _ h=>V0 h
theorem BJ{st st':List Stmt}(hc:JT X c mt)(ha:JSs X st w1)(hb:JSs X st' w2):JS X (.If c st st' pos) (ifS mt w1 w2):=Cd (Tp hc ha hb) fun _ _ _ h=>W9 h
theorem AX(i:Nat)(hN:X.N.Nodup)(hi:X.N[i]? = some x)(hx:Loc X.env.scope x)(hf:X.fn x=true)(hs:swapsWith e (some (.Name x pos')) pos.line X.env=pure false)(h:JE X e m):JS X (.Assign [.Name x pos'] e pos) (A9 i m):=
 Cd (Vp hN hi hx h hs (.inl hf)) fun _ _ _ h=>Rj h
theorem Kb{tg iter:Expr}{st:List Stmt}{is:List Nat}{one:Bool}(hp:PassesOwn (model X.prog X.w) X.A X.env X.xe)(hc:X.calm=true)(hi:JI X tg iter mi)(hg:PG X tg (Oi X.K is one))(hb:JSs X st w1)(hs:∀y,foldedSetIterable iter X.env y=pure y):JS X (.For tg iter st [] pos) (J1 is one mi w1):=Cd (Vn hp hc hi hg hb hs) fun _ _ _ h=>VX h
theorem MY(i:Nat)(hN:X.N.Nodup)(hi:X.N[i]? = some x)(hx:Loc X.env.scope x)(hf:X.fn x=true):PG X (.Name x pos) (Oi X.K [i] true):=HF hN hi hx (.inl hf)
theorem Kw:PGs X [] (Fi []):=NO
theorem EB(i:Nat){is:List Nat}(hN:X.N.Nodup)(hi:X.N[i]? = some x)(hx:Loc X.env.scope x)(hf:X.fn x=true)(t:PGs X es (Fi is))(hs:(assignEach (.Name x pos::es) X.env).map (·.2)=assign (.Name x pos) X.env::(assignEach es X.env).map (·.2)):PGs X (.Name x pos::es) (Fi (i::is)):=IA (HF hN hi hx (.inl hf)) t hs
theorem Kv{is:List Nat}{k:Nat}(hc:X.calm=true)(h:PGs X es (Fi is))(hn:(assignEach es X.env).length=is.length)(hst:(assignEach es X.env).findIdx? (·.1)=none):PG X (.Tuple es k pos) (Oi X.K is false):=QG hc h hn hst
theorem Qe{tg:Expr}{is:List Nat}(hg:PG X tg (Oi X.K is false))(hs:swapsWithSole [tg] e pos.line X.env=pure false)(hw:swappedStores [tg] e X.env=pure none)(h1:(assignEach [tg] X.env).map (·.2)=[assign tg X.env])(h:JE X e m):
  JS X (.Assign [tg] e pos) (K0 is m):=Cd (QM h hg hs hw h1) fun _ _ _ h=>V2 h
end
end J
end
section
namespace L2
open PySem PySem.Spec PyProof.Rows
section
variable{P:Program}{w:World}{H:Hp}{s:Shared}{N N':Addr->Prop}
theorem LR(hok:HOk P w H s.heap){A:Around}{n:Nat}{x y:V}{d e:D}{v u:Value}(r:RepA N H x d)(q:RepA N' H y e)(rx:RelV x v)(ry:RelV y u)(hs:Sh n d)(hu:A.units+n<cLine):SeqAt.RcNeAt A s v u (!eqD d e):=by
 cases r with
 | non =>
  cases rx;cases q with
  | non=>cases ry; exact SeqAt.RcNeAt.none_none
  | bl b=>cases ry; exact SeqAt.RcNeAt.none_bool b
  | int b=>obtain⟨t,rfl⟩:=ry; exact SeqAt.RcNeAt.none_int b t
  | str b=>obtain⟨t,rfl⟩:=ry; exact SeqAt.RcNeAt.none_str b t
  | lst h=>cases ry; obtain⟨its,_,hl⟩:=A3 hok h; exact SeqAt.RcNeAt.none_list hl (lt0 hu)
  | tup h=>cases ry; obtain⟨its,_,hl⟩:=Bi hok h; exact SeqAt.RcNeAt.none_tuple hl (lt0 hu)
 | bl a =>
  cases rx;cases q with
  | non=>cases ry; exact SeqAt.RcNeAt.bool_none a
  | bl b=>cases ry; exact SeqAt.RcNeAt.bool_bool a b
  | int b=>obtain⟨t,rfl⟩:=ry; exact SeqAt.RcNeAt.bool_int a b t
  | str b=>obtain⟨t,rfl⟩:=ry; exact SeqAt.RcNeAt.bool_str a b t
  | lst h=>cases ry; obtain⟨its,_,hl⟩:=A3 hok h; exact SeqAt.RcNeAt.bool_list a hl (lt0 hu)
  | tup h=>cases ry; obtain⟨its,_,hl⟩:=Bi hok h; exact SeqAt.RcNeAt.bool_tuple a hl (lt0 hu)
 | int a =>
  obtain⟨t',rfl⟩:=rx;cases q with
  | non=>cases ry; exact SeqAt.RcNeAt.int_none a t'
  | bl b=>cases ry; exact SeqAt.RcNeAt.int_bool a t' b
  | int b=>obtain⟨t,rfl⟩:=ry; exact SeqAt.RcNeAt.int_int a t' b t
  | str b=>obtain⟨t,rfl⟩:=ry; exact SeqAt.RcNeAt.int_str a t' b t
  | lst h=>cases ry; obtain⟨its,_,hl⟩:=A3 hok h; exact SeqAt.RcNeAt.int_list a t' hl (lt0 hu)
  | tup h=>cases ry; obtain⟨its,_,hl⟩:=Bi hok h; exact SeqAt.RcNeAt.int_tuple a t' hl (lt0 hu)
 | str a =>
  obtain⟨t',rfl⟩:=rx;cases q with
  | non=>cases ry; exact SeqAt.RcNeAt.str_none a t'
  | bl b=>cases ry; exact SeqAt.RcNeAt.str_bool a t' b
  | int b=>obtain⟨t,rfl⟩:=ry; exact SeqAt.RcNeAt.str_int a t' b t
  | str b=>obtain⟨t,rfl⟩:=ry; exact SeqAt.RcNeAt.str_str a t' b t
  | lst h=>cases ry; obtain⟨its,_,hl⟩:=A3 hok h; exact SeqAt.RcNeAt.str_list a t' hl (lt0 hu)
  | tup h=>cases ry; obtain⟨its,_,hl⟩:=Bi hok h; exact SeqAt.RcNeAt.str_tuple a t' hl (lt0 hu)
 | @lst a vs ds h hz hn hl hr =>
  cases rx;obtain⟨its,rv,hil⟩:=A3 hok h;cases hs with
  | @lst n _ hs =>
   cases q with
   | non=>cases ry; exact SeqAt.RcNeAt.list_none hil (lt0 hu)
   | bl b=>cases ry; exact SeqAt.RcNeAt.list_bool b hil (lt0 hu)
   | int b=>obtain⟨t,rfl⟩:=ry; exact SeqAt.RcNeAt.list_int b t hil (lt0 hu)
   | str b=>obtain⟨t,rfl⟩:=ry; exact SeqAt.RcNeAt.list_str b t hil (lt0 hu)
   | @lst a' vs' es h' hz' hn' hl' hr' =>
    cases ry;obtain⟨its',rv',hil'⟩:=A3 hok h';have l1:=rv.length;have l2:=rv'.length;rw[HP];by_cases hlen:ds.length=es.length
    .rw[Dz hlen,show ds.length=its.toArray.size by simp; lia]
     refine SeqAt.RcNeAt.lists hil hil' (by simp; lia) (lt0 hu) (Ex rv rv' hl hl' fun i v d v' e u u' e1 e2 e3 e4 ru ru'=>?_);exact HN hok (hr i v d e1 e2) (hr' i v' e e3 e4) ru ru' (hs d (List.mem_of_getElem? e2)) (lt1 hu)
    .have:D9 ds es=false:=by
      cases q:D9 ds es with
      | false=>rfl
      | true=>exact absurd (DA q) hlen
     rw[this];exact SeqAt.RcNeAt.lists_lengths hil hil' (by simp; lia) (lt0 hu)
   | tup h' =>
    cases ry;obtain⟨its',_,hl'⟩:=Bi hok h';exact SeqAt.RcNeAt.list_tuple hil hl' (lt0 hu)
 | @tup a vs ds h hz hl hr =>
  cases rx;obtain⟨its,rv,hil⟩:=Bi hok h;cases hs with
  | @tup n _ hs =>
   cases q with
   | non=>cases ry; exact SeqAt.RcNeAt.tuple_none hil (lt0 hu)
   | bl b=>cases ry; exact SeqAt.RcNeAt.tuple_bool b hil (lt0 hu)
   | int b=>obtain⟨t,rfl⟩:=ry; exact SeqAt.RcNeAt.tuple_int b t hil (lt0 hu)
   | str b=>obtain⟨t,rfl⟩:=ry; exact SeqAt.RcNeAt.tuple_str b t hil (lt0 hu)
   | @tup a' vs' es h' hz' hl' hr' =>
    cases ry;obtain⟨its',rv',hil'⟩:=Bi hok h';have l1:=rv.length;have l2:=rv'.length;have q:=SeqAt.RcNeAt.tuples (A:=A) hil hil' (lt0 hu) (Ex rv rv' hl hl' fun i v d v' e u u' e1 e2 e3 e4 ru ru'=>HN hok (hr i v d e1 e2) (hr' i v' e e3 e4) ru ru' (hs d (List.mem_of_getElem? e2)) (lt1 hu))
    rw[Hn];by_cases hlen:ds.length=es.length
    .have e1:(its.toArray.size==its'.toArray.size)=true:=by simp; lia
     have e2:min its.toArray.size its'.toArray.size=ds.length:=by simp; lia
     rw[e1,e2,Bool.and_true,<- Dz hlen] at q;exact q
    .have e1:(its.toArray.size==its'.toArray.size)=false:=by simp; lia
     have e3:D9 ds es=false:=by
      cases q:D9 ds es with
      | false=>rfl
      | true=>exact absurd (DA q) hlen
     rw[e1,Bool.and_false] at q;rw[e3];exact q
   | lst h' =>
    cases ry;obtain⟨its',_,hl'⟩:=A3 hok h';exact SeqAt.RcNeAt.tuple_list hil hl' (lt0 hu)
end
section
variable{X:Cx}{k:Nat}
noncomputable def Vu:R2:=fun x y H Q=>∃d e,Rep H x d/\Rep H y e/\Sh 16 d/\Q (.bl (!eqD d e)) H
theorem MQ(hr:Room k X.A):OpR X (compareOp .NotEq) Vu:=by
 intro pins s σ H x y v u Q I rx ry h;obtain⟨d,e,r1,r2,hs,q⟩:=h;exact EqBoolInt.of_rcne (LR I.hok r1 r2 rx ry hs (by have:=hr.units; lia)) ⟨.bl _,H,I,rfl,q⟩
end
end L2
namespace J
open PySem PySem.Spec PyProof.Rows L2
section
variable{K:Frag}{N:Addr->Prop}{H H':Hp}{L:List Addr}{v:V}{a:A}
theorem EO{d:D}:Am K N H v (.fz d) L↔L=[]/\RepA N H v d:=by rw[Am]
theorem Ba{i:Int}(h:Am K N H v (.fz (.int i)) L):v=.int i:=by
 obtain⟨_,h⟩:=EO.mp h;cases h; rfl
theorem Dv{z:Str}(h:Am K N H v (.fz (.str z)) L):v=.str z/\z.length<=sizeLine:=by
 obtain⟨_,h⟩:=EO.mp h;cases h with
 | str z hz=>exact⟨rfl,hz⟩
theorem Gf{d:D}(h:RepA N H v d):K3 K N H (.fz d) v H:=⟨fun _ _ z=>z,[],E1 (K:=K) (Dh (fun p z=>z.elim id fun q=>by simp at q) h),List.nodup_nil,fun _ h=>by simp at h⟩
theorem Dd{i:Int}:K3 K N H (.fz (.int i)) (.int i) H:=Gf (.int i)
theorem DM{b:Bool}:K3 K N H (.fz (.bl b)) (.bl b) H:=Gf (.bl b)
theorem HD{z:Str}(h:z.length<=sizeLine):K3 K N H (.fz (.str z)) (.str z) H:=Gf (.str z h)
theorem EM{p:Addr}{vs:List V}{ds:List D}(hp:H p=none)(hz:vs.length<=sizeLine)(q:Ap N H vs ds):K3 K N H (.lst (ds.map A.fz)) (.ref p) (upd H p (.lst vs)):=by
 have sm:=CW (o:=.lst vs) hp;refine⟨sm,[p],?_,by simp,fun b hb=>by simp at hb; rw[hb]; exact hp⟩;rw[Am];refine⟨p,vs,[],rfl,rfl,AB,hz,Ak.of (q.tr (M:=fun _=>False) (fun _ z=>z.elim) (BW.kept sm) fun b z=>?_)⟩;rcases z with z|z
 .exact .inl z
 .simp at z; subst z; exact .inr hp
theorem Sk{p:Addr}{vs:List V}{ds:List D}(hp:H p=none)(hz:vs.length<=sizeLine)(q:Ap N H vs ds):K3 K N H (.fz (.tup ds)) (.ref p) (upd H p (.tup vs)):=by
 have sm:=CW (o:=.tup vs) hp;refine⟨sm,[],E1 (K:=K) (KA AB hz (q.tr (M:=fun _=>False) (fun _ z=>z.elim) (BW.kept sm) fun b z=>?_)),List.nodup_nil,fun _ h=>by simp at h⟩;rcases z with z|z
 .exact .inl z
 .simp at z
noncomputable def fzU:A->Option D
 | .fz d=>some d
 | .lst _ | .tup _ | .scr _ | .dic _ | .dct _ | .opq _ _=>none
noncomputable def DR:D->Option Int
 | .int i=>some i
 | .non | .bl _ | .str _ | .lst _ | .tup _=>none
noncomputable def Fz:D->Option Str
 | .str z=>some z
 | .non | .bl _ | .int _ | .lst _ | .tup _=>none
noncomputable def Bj(a:A):Option Int:=(fzU a).bind DR
noncomputable def CD(a:A):Option Str:=(fzU a).bind Fz
theorem Mt{a:A}{d:D}(h:fzU a=some d):a=.fz d:=by
 cases a with
 | fz d'=>cases h; rfl
 | _=>cases h
theorem A1{a:A}{i:Int}(h:Bj a=some i):a=.fz (.int i):=by
 obtain⟨d,h1,h2⟩:=bind_eq_some_iff.mp h;cases Mt h1;cases d with
 | int j=>cases h2; rfl
 | _=>cases h2
theorem CM{a:A}{z:Str}(h:CD a=some z):a=.fz (.str z):=by
 obtain⟨d,h1,h2⟩:=bind_eq_some_iff.mp h;cases Mt h1;cases d with
 | str j=>cases h2; rfl
 | _=>cases h2
noncomputable def on1(f:A->Option A):List A->Option A
 | []=>none
 | [a]=>f a
 | _::_::_=>none
noncomputable def on2(f:A->A->Option A):List A->Option A
 | []=>none
 | [_]=>none
 | [a,b]=>f a b
 | _::_::_::_=>none
noncomputable def on3(f:A->A->A->Option A):List A->Option A
 | []=>none
 | [_]=>none
 | [_,_]=>none
 | [a,b,c]=>f a b c
 | _::_::_::_::_=>none
theorem DL{f:A->Option A}{as:List A}{c:A}(h:on1 f as=some c):∃a,as=[a]/\f a=some c:=by
 cases as with
 | nil=>cases h
 | cons a as=>cases as with
  | nil=>exact⟨a,rfl,h⟩
  | cons b as=>cases h
theorem B9{f:A->A->Option A}{as:List A}{c:A}(h:on2 f as=some c):∃a b,as=[a,b]/\f a b=some c:=by
 cases as with
 | nil=>cases h
 | cons a as=>cases as with
  | nil=>cases h
  | cons b as=>cases as with
   | nil=>exact⟨a,b,rfl,h⟩
   | cons b as=>cases h
noncomputable def IT:A->Option (List (Key×D))
 | .dic kvs=>some kvs
 | .fz _ | .lst _ | .tup _ | .scr _ | .dct _ | .opq _ _=>none
noncomputable def Hy:A->Option Unit
 | .fz .non=>some ()
 | .fz (.bl _) | .fz (.int _) | .fz (.str _) | .fz (.lst _) | .fz (.tup _) | .lst _ | .tup _ | .scr _ | .dic _ | .dct _ | .opq _ _=>none
theorem R5{a:A}{u:Unit}(h:Hy a=some u):a=.fz .non:=by
 cases a with
 | fz d=>cases d with
  | non=>rfl
  | _=>cases h
 | _=>cases h
noncomputable def F5(C:Int->Int->Bool)(g:Int->Int->Int):List A->Option A:=on2 fun a b=>(Bj a).bind fun i=>(Bj b).bind fun j=>if C i j then some (.fz (.int (g i j))) else none
noncomputable def Lo(g:Int->Int->Bool):List A->Option A:=on2 fun q1 q2=>(Bj q1).bind fun i=>(Bj q2).bind fun j=>some (.fz (.bl (g i j)))
theorem cons_of{xs:List V}{a:A}{as:List A}(h:JC K N H xs (a::as)):∃x t L1,xs=x::t/\Am K N H x a L1/\JC K N H t as:=by
 cases xs with
 | nil=>cases h
 | cons x t =>
  obtain⟨⟨L,h⟩,q⟩:=h;exact⟨x,t,L,rfl,h,q⟩
theorem CQ{xs:List V}{a:A}(h:JC K N H xs [a]):∃x L1,xs=[x]/\Am K N H x a L1:=by
 obtain⟨x,t,L1,rfl,h1,q⟩:=cons_of h;cases t with
 | nil=>exact⟨x,L1,rfl,h1⟩
 | cons y t=>cases q
theorem Bu{xs:List V}{a b:A}(h:JC K N H xs [a,b]):∃x y L1 L2,xs=[x,y]/\Am K N H x a L1/\Am K N H y b L2:=by
 obtain⟨x,t,L1,rfl,h1,q⟩:=cons_of h;obtain⟨y,L2,rfl,h2⟩:=CQ q;exact⟨x,y,L1,L2,rfl,h1,h2⟩
theorem GD{C:Int->Int->Bool}{C':Int->Int->Prop}{g:Int->Int->Int}(hC:∀i j,C i j=true->C' i j):OpN K (F5 C g) (r2L (rI C' fun i j=>.int (g i j))):=by
 intro N H xs as b Q hs e k
 replace e:=B9 e
 obtain⟨a1,b1,rfl,e⟩:=e;simp only[bind_eq_some_iff] at e;obtain⟨i,ei,j,ej,e⟩:=e;cases A1 ei;cases A1 ej;split at e
 .rename_i hc
  cases e;obtain⟨x,y,L1,L2,rfl,h1,h2⟩:=Bu hs;cases Ba h1;cases Ba h2;exact⟨_,_,rfl,i,j,rfl,rfl,hC i j hc,k _ _ Dd⟩
 .cases e
theorem Im{g:Int->Int->Int}:OpN K (F5 (fun _ _=>true) g) (r2L (rI0 fun i j=>.int (g i j))):=by
 intro N H xs as b Q hs e k
 replace e:=B9 e
 obtain⟨a1,b1,rfl,e⟩:=e;simp only[bind_eq_some_iff] at e;obtain⟨i,ei,j,ej,e⟩:=e;cases A1 ei;cases A1 ej;rw[if_pos trivial] at e;cases e;obtain⟨x,y,L1,L2,rfl,h1,h2⟩:=Bu hs;cases Ba h1;cases Ba h2;exact⟨_,_,rfl,i,j,rfl,rfl,k _ _ Dd⟩
theorem LI{g:Int->Int->Bool}:OpN K (Lo g) (r2L (rI0 fun i j=>.bl (g i j))):=by
 intro N H xs as b Q hs e k
 replace e:=B9 e
 obtain⟨q1,q2,rfl,e⟩:=e
 replace e:=bind_eq_some_iff.mp e
 obtain⟨i,eq1,e⟩:=e;cases A1 eq1;clear eq1
 replace e:=bind_eq_some_iff.mp e
 obtain⟨j,eq2,e⟩:=e;cases A1 eq2;clear eq2;cases e;obtain⟨x,y,L1,L2,rfl,h1,h2⟩:=Bu hs;cases Ba h1;cases Ba h2;exact⟨_,_,rfl,i,j,rfl,rfl,k _ _ DM⟩
noncomputable def He:=F5 (fun _ _=>true) fun i j=>i-j
noncomputable def Lj:=F5 (fun _ j=>decide (0<j/\j<1099511627776)) fun i j=>i / j
noncomputable def LC:=F5 (fun _ j=>decide (0<j)) fun i j=>i % j
noncomputable def OL:=F5 (fun i j=>decide (0<=j/\j<=1000000/\i.natAbs<2 ^ 64)) fun i j=>i ^ j.toNat
noncomputable def KJ:=F5 (fun i j=>decide (0<=j/\j<=1000000/\i.natAbs<2 ^ 64)) fun i j=>i*2 ^ j.toNat
noncomputable def Nb:=F5 (fun _ j=>decide (0<=j)) fun i j=>i / 2 ^ j.toNat
noncomputable def K5:=F5 (fun _ _=>true) fun i j=>Builtin.bitAnd i j
noncomputable def RB:=F5 (fun _ _=>true) fun i j=>Builtin.bitOr i j
noncomputable def gtA:=Lo fun i j=>decide (j<i)
noncomputable def geA:=Lo fun i j=>decide (j<=i)
theorem NG:OpN K Lj (r2L (rI TM fun i j=>.int (i / j))):=GD fun i j h=>by simpa[TM] using h
theorem Ip:OpN K LC (r2L (rI (fun _ j=>0<j) fun i j=>.int (i % j))):=GD fun i j h=>by simpa using h
theorem MN:OpN K OL (r2L (rI Ob fun i j=>.int (i ^ j.toNat))):=GD fun i j h=>by simpa[Ob] using h
theorem MO:OpN K KJ (r2L (rI Ob fun i j=>.int (i*2 ^ j.toNat))):=GD fun i j h=>by simpa[Ob] using h
theorem UZ:OpN K Nb (r2L (rI (fun _ j=>0<=j) fun i j=>.int (i / 2 ^ j.toNat))):=GD fun i j h=>by simpa using h
noncomputable def Co:A->Option (List D)
 | .fz (.lst ds)=>some ds
 | .lst as=>fzs as
 | .fz .non | .fz (.bl _) | .fz (.int _) | .fz (.str _) | .fz (.tup _) | .tup _ | .scr _ | .dic _ | .dct _ | .opq _ _=>none
theorem CP{ds:List D}(q:Am K N H v a L)(e:Co a=some ds):∃p vs,v=.ref p/\H p=some (.lst vs)/\vs.length<=sizeLine/\Ap N H vs ds:=by
 cases a with
 | fz d =>
  obtain⟨_,q⟩:=EO.mp q;cases d with
  | lst es =>
   simp only[Co,Option.some.injEq] at e;subst e;cases q with
   | lst h hz hn hl hr=>exact⟨_,_,rfl,h,hz,Ap.mk hl hr⟩
  | _=>simp[Co] at e
 | lst as =>
  simp only[Co] at e;rw[Am] at q;obtain⟨p,vs,L',rfl,rfl,h,hz,hs⟩:=q;exact⟨p,vs,rfl,h,hz,(hs.fzs e).2⟩
 | _=>simp[Co] at e
noncomputable def Bg:List A->Option A:=on2 fun a b=>((Bj a).bind fun i=>(Bj b).map fun j=>A.fz (.int (i+j))).or (((CD a).bind fun x=>(CD b).bind fun y=>if x.length+y.length<=LIM then some (.fz (.str (x++y))) else none).or ((Co a).bind fun xs=>(Co b).bind fun ys=>if xs.length+ys.length<=LIM then some (.lst ((xs++ys).map A.fz)) else none))
theorem L8(x y:Str):(x++y).length=x.length+y.length:=strLen_append x y
theorem Bk:OpN K Bg (r2L fun x y H Q=>(rI0 (fun i j=>.int (i+j))) x y H Q\/(∃i j,x=.str i/\y=.str j/\i.length+j.length<=sizeLine/\Q (.str (i++j)) H)\/Vt x y H Q):=by
 intro N H xs as b Q hs e k
 replace e:=B9 e
 obtain⟨a,b,rfl,e⟩:=e;rcases Option.or_eq_some_iff.mp e with e|⟨_,e⟩
 .simp only[bind_eq_some_iff,map_eq_some_iff] at e
  obtain⟨i,ei,j,ej,rfl⟩:=e;cases A1 ei;cases A1 ej;obtain⟨x,y,L1,L2,rfl,h1,h2⟩:=Bu hs;cases Ba h1;cases Ba h2;exact⟨_,_,rfl,.inl ⟨i,j,rfl,rfl,k _ _ Dd⟩⟩
 .rcases Option.or_eq_some_iff.mp e with e|⟨_,e⟩
  .simp only[bind_eq_some_iff] at e
   obtain⟨i,ei,j,ej,e9⟩:=e;cases CM ei;cases CM ej;split at e9
   .rename_i hz
    cases e9;obtain⟨x,y,L1,L2,rfl,h1,h2⟩:=Bu hs;obtain⟨rfl,_⟩:=Dv h1;obtain⟨rfl,_⟩:=Dv h2;exact⟨_,_,rfl,.inr (.inl ⟨i,j,rfl,rfl,hz,k _ _ (HD (by rw[L8]; exact hz))⟩)⟩
   .cases e9
  .simp only[bind_eq_some_iff] at e
   obtain⟨ds,e1,es,e2,e3⟩:=e;split at e3
   .rename_i hz
    cases e3;obtain⟨x,y,L1,L2,rfl,h1,h2⟩:=Bu hs;obtain⟨p,vs,rfl,hp,z1,q1⟩:=CP h1 e1;obtain⟨p',vs',rfl,hp',z2,q2⟩:=CP h2 e2;have hl:(vs++vs').length<=sizeLine:=by rw[List.length_append,q1.len,q2.len]; exact hz
    exact⟨_,_,rfl,.inr (.inr ⟨p,p',vs,vs',rfl,rfl,hp,hp',by rw[List.length_append] at hl; exact hl,fun q hq=>k _ _ (EM hq hl (EC q1 q2))⟩)⟩
   .cases e3
theorem A2{X:Cx}:OpR X (binaryOp .Add) (fun x y H Q=>(rI0 (fun i j=>.int (i+j))) x y H Q\/(∃i j,x=.str i/\y=.str j/\i.length+j.length<=sizeLine/\Q (.str (i++j)) H)\/Vt x y H Q):=U1.or (MP.or U3)
noncomputable def Kg:List A->Option A:=on2 fun q1 q2=>(Bj q1).bind fun i=>(Bj q2).bind fun j=>if (-(2 ^ 64)<i/\i<2 ^ 64)\/(-(2 ^ 64)<j/\j<2 ^ 64) then some (.fz (.int (i*j))) else none
theorem Kn:OpN K Kg (r2L (rI Rr fun i j=>.int (i*j))):=by
 intro N H xs as b Q hs e k
 replace e:=B9 e
 obtain⟨q1,q2,rfl,e⟩:=e
 replace e:=bind_eq_some_iff.mp e
 obtain⟨i,eq1,e⟩:=e;cases A1 eq1;clear eq1
 replace e:=bind_eq_some_iff.mp e
 obtain⟨j,eq2,e⟩:=e;cases A1 eq2;clear eq2;split at e
 .rename_i hc
  cases e;obtain⟨x,y,L1,L2,rfl,h1,h2⟩:=Bu hs;cases Ba h1;cases Ba h2;exact⟨_,_,rfl,i,j,rfl,rfl,hc,k _ _ Dd⟩
 .cases e
noncomputable def MJ:List A->Option A:=on1 fun q1=>(Bj q1).bind fun i=>some (.fz (.int (-i)))
theorem Ko:OpN K MJ (r1L (rU fun i=>.int (-i))):=by
 intro N H xs as b Q hs e k
 replace e:=DL e
 obtain⟨q1,rfl,e⟩:=e
 replace e:=bind_eq_some_iff.mp e
 obtain⟨i,eq1,e⟩:=e;cases A1 eq1;clear eq1;cases e;obtain⟨x,L1,rfl,h1⟩:=CQ hs;cases Ba h1;exact⟨_,rfl,i,rfl,k _ _ Dd⟩
mutual
noncomputable def shB:Nat->D->Bool
 | _,.non=>true
 | _,.bl _=>true
 | _,.int _=>true
 | _,.str _=>true
 | 0,.lst _=>false
 | 0,.tup _=>false
 | n+1,.lst ds=>HC n ds
 | n+1,.tup ds=>HC n ds
noncomputable def HC:Nat->List D->Bool
 | _,[]=>true
 | n,d::ds=>shB n d&&HC n ds
end
mutual
theorem Na:∀{n:Nat} {d:D},shB n d=true->Sh n d
 | _,.non,_=>.non
 | _,.bl b,_=>.bl b
 | _,.int i,_=>.int i
 | _,.str x,_=>.str x
 | 0,.lst _,h=>by simp[shB] at h
 | 0,.tup _,h=>by simp[shB] at h
 | n+1,.lst ds,h=>.lst (KI (by simpa[shB] using h))
 | n+1,.tup ds,h=>.tup (KI (by simpa[shB] using h))
theorem KI:∀{n:Nat} {ds:List D},HC n ds=true->∀d∈ds,Sh n d
 | _,[],_,d,hd=>by simp at hd
 | n,e::ds,h,d,hd=>by
  simp only[HC,Bool.and_eq_true] at h;rcases List.mem_cons.mp hd with q|hd
  .rw[q]; exact Na h.1
  .exact KI h.2 d hd
end
noncomputable def eqA:List A->Option A:=on2 fun a b=>(er a).bind fun d=>(er b).bind fun e=>if shB 16 d then some (.fz (.bl (eqD d e))) else none
noncomputable def neA:List A->Option A:=on2 fun a b=>(er a).bind fun d=>(er b).bind fun e=>if shB 16 d then some (.fz (.bl (!eqD d e))) else none
theorem ID{d:D}(q:Am K N H v a L)(e:er a=some d):Rep H v d:=(Am.er q e).rep
theorem DF:OpN K eqA (r2L Xq):=by
 intro N H xs as b Q hs e k
 replace e:=B9 e
 obtain⟨a,b,rfl,e⟩:=e;simp only[bind_eq_some_iff] at e;obtain⟨d,e1,d',e2,e3⟩:=e;split at e3
 .rename_i hz
  cases e3;obtain⟨x,y,L1,L2,rfl,h1,h2⟩:=Bu hs;exact⟨_,_,rfl,d,d',ID h1 e1,ID h2 e2,Na hz,k _ _ DM⟩
 .cases e3
theorem NI:OpN K neA (r2L Vu):=by
 intro N H xs as b Q hs e k
 replace e:=B9 e
 obtain⟨a,b,rfl,e⟩:=e;simp only[bind_eq_some_iff] at e;obtain⟨d,e1,d',e2,e3⟩:=e;split at e3
 .rename_i hz
  cases e3;obtain⟨x,y,L1,L2,rfl,h1,h2⟩:=Bu hs;exact⟨_,_,rfl,d,d',ID h1 e1,ID h2 e2,Na hz,k _ _ DM⟩
 .cases e3
noncomputable def ltA:List A->Option A:=on2 fun a b=>((Bj a).bind fun i=>(Bj b).map fun j=>A.fz (.bl (decide (i<j)))).or ((CD a).bind fun x=>(CD b).map fun y=>A.fz (.bl (decide (x.cps.toList<y.cps.toList))))
noncomputable def leA:List A->Option A:=on2 fun a b=>((Bj a).bind fun i=>(Bj b).map fun j=>A.fz (.bl (decide (i<=j)))).or ((CD a).bind fun x=>(CD b).map fun y=>A.fz (.bl (!decide (y.cps.toList<x.cps.toList))))
theorem Ju:OpN K ltA (r2L Tt):=by
 intro N H xs as b Q hs e k
 replace e:=B9 e
 obtain⟨a,b,rfl,e⟩:=e;rcases Option.or_eq_some_iff.mp e with e|⟨_,e⟩
 .simp only[bind_eq_some_iff,map_eq_some_iff] at e
  obtain⟨i,ei,j,ej,rfl⟩:=e;cases A1 ei;cases A1 ej;obtain⟨x,y,L1,L2,rfl,h1,h2⟩:=Bu hs;cases Ba h1;cases Ba h2;exact⟨_,_,rfl,.inl ⟨i,j,rfl,rfl,k _ _ DM⟩⟩
 .simp only[bind_eq_some_iff,map_eq_some_iff] at e
  obtain⟨i,ei,j,ej,rfl⟩:=e;cases CM ei;cases CM ej;obtain⟨x,y,L1,L2,rfl,h1,h2⟩:=Bu hs;obtain⟨rfl,_⟩:=Dv h1;obtain⟨rfl,_⟩:=Dv h2;exact⟨_,_,rfl,.inr ⟨i,j,rfl,rfl,k _ _ DM⟩⟩
theorem Io:OpN K leA (r2L Ts):=by
 intro N H xs as b Q hs e k
 replace e:=B9 e
 obtain⟨a,b,rfl,e⟩:=e;rcases Option.or_eq_some_iff.mp e with e|⟨_,e⟩
 .simp only[bind_eq_some_iff,map_eq_some_iff] at e
  obtain⟨i,ei,j,ej,rfl⟩:=e;cases A1 ei;cases A1 ej;obtain⟨x,y,L1,L2,rfl,h1,h2⟩:=Bu hs;cases Ba h1;cases Ba h2;exact⟨_,_,rfl,.inl ⟨i,j,rfl,rfl,k _ _ DM⟩⟩
 .simp only[bind_eq_some_iff,map_eq_some_iff] at e
  obtain⟨i,ei,j,ej,rfl⟩:=e;cases CM ei;cases CM ej;obtain⟨x,y,L1,L2,rfl,h1,h2⟩:=Bu hs;obtain⟨rfl,_⟩:=Dv h1;obtain⟨rfl,_⟩:=Dv h2;exact⟨_,_,rfl,.inr ⟨i,j,rfl,rfl,k _ _ DM⟩⟩
noncomputable def DD:D->Bool
 | .lst _=>false
 | .tup _=>false
 | .non | .bl _ | .int _ | .str _=>true
theorem Nu{d:D}(r:RepA N H v d)(h:DD d=true):FY v=true:=by
 cases r with
 | lst=>simp[DD] at h
 | tup=>simp[DD] at h
 | _=>rfl
theorem T9{x y:V}{d e:D}(r:RepA N H x d)(q:RepA N H y e)(hd:DD d=true)(he:DD e=true):eqV x y=eqD d e:=by
 cases r with
 | lst=>simp[DD] at hd
 | tup=>simp[DD] at hd
 | _ =>
  cases q with
  | lst=>simp[DD] at he
  | tup=>simp[DD] at he
  | _=>rfl
noncomputable def inD(d:D)(ds:List D):Bool:=ds.any fun e=>eqD e d
theorem PN{x:V}{d:D}(r:RepA N H x d)(hd:DD d=true):∀{vs:List V} {ds:List D},Ap N H vs ds->ds.all DD=true->vs.all FY=true/\inV x vs=inD d ds
 | [],[],_,_=>⟨rfl,rfl⟩
 | [],_::_,q,_=>by simp only[Ap] at q
 | _::_,[],q,_=>by simp only[Ap] at q
 | v::vs,e::ds,q,h=>by
  simp only[List.all_cons,Bool.and_eq_true] at h;obtain⟨h1,h2⟩:=PN r hd q.2 h.2;refine⟨by simp[Nu q.1 h.1,h1],?_⟩;simp only[inV,inD,List.any_cons] at h2 |-;rw[h2,T9 q.1 r h.1 hd]
noncomputable def inA(neg:Bool):List A->Option A:=on2 fun a b=>((CD a).bind fun x=>(CD b).map fun y=>A.fz (.bl (if neg then !(!(Builtin.Str.occurrences y x 0 y.length 1).isEmpty) else !(Builtin.Str.occurrences y x 0 y.length 1).isEmpty))).or ((fzU a).bind fun d=>(AI b).bind fun ds=>if DD d&&ds.all DD then some (.fz (.bl (if neg then !inD d ds else inD d ds))) else none)
theorem WB(neg:Bool):OpN K (inA neg) (r2L fun x y H Q=>rIn K neg x y H Q\/∃i j,x=.str i/\y=.str j/\Q (.bl (if neg then !(!(Builtin.Str.occurrences j i 0 j.length 1).isEmpty) else !(Builtin.Str.occurrences j i 0 j.length 1).isEmpty)) H):=by
 intro N H xs as b Q hs e k
 replace e:=B9 e
 obtain⟨a,b,rfl,e⟩:=e;rcases Option.or_eq_some_iff.mp e with e|⟨_,e⟩
 .simp only[bind_eq_some_iff,map_eq_some_iff] at e
  obtain⟨i,ei,j,ej,rfl⟩:=e;cases CM ei;cases CM ej;obtain⟨x,y,L1,L2,rfl,h1,h2⟩:=Bu hs;obtain⟨rfl,_⟩:=Dv h1;obtain⟨rfl,_⟩:=Dv h2;exact⟨_,_,rfl,.inr ⟨i,j,rfl,rfl,k _ _ DM⟩⟩
 .simp only[bind_eq_some_iff] at e
  obtain⟨d,ed,ds,e1,e2⟩:=e;cases Mt ed;split at e2
  .rename_i hz
   cases e2;simp only[Bool.and_eq_true] at hz;obtain⟨x,y,L1,L2,rfl,h1,h2⟩:=Bu hs;obtain⟨_,h1⟩:=EO.mp h1;obtain⟨p,vs,rfl,hp,q⟩:=Fm h2 e1;obtain⟨f1,f2⟩:=PN h1 hz.1 q hz.2;refine⟨_,_,rfl,.inl ⟨p,vs,rfl,hp,Nu h1 hz.1,f1,?_⟩⟩;rw[f2];exact k _ _ DM
  .cases e2
theorem U4{X:Cx}:OpR X (compareOp .In) (fun x y H Q=>rIn X.K false x y H Q\/∃i j,x=.str i/\y=.str j/\Q (.bl (if false=true then !(!(Builtin.Str.occurrences j i 0 j.length 1).isEmpty) else !(Builtin.Str.occurrences j i 0 j.length 1).isEmpty)) H):=OB.or OD
noncomputable def ixA:List A->Option A:=on2 fun a b=>(Bj b).bind fun i=>((CD a).bind fun z=>(atI z.cps.toList i).map fun c=>A.fz (.str ⟨#[c]⟩)).or ((AI a).bind fun ds=>(atI ds i).map A.fz)
theorem TX{vs:List V}{ds:List D}{i:Int}{d:D}(q:Ap N H vs ds)(e:atI ds i=some d):∃v,atI vs i=some v/\RepA N H v d:=by
 unfold atI at e |-;rw[q.len];simp only[bind_eq_some_iff] at e |-;obtain⟨j,e1,e2⟩:=e;obtain⟨v,hv⟩:=T6 q (Ay e2);exact⟨v,⟨j,e1,hv⟩,q.get j v d hv e2⟩
theorem AL:OpN K ixA (r2L (rIx K)):=by
 intro N H xs as b Q hs e k
 replace e:=B9 e
 obtain⟨a,b,rfl,e⟩:=e;obtain⟨i,ei,e8⟩:=bind_eq_some_iff.mp e;cases A1 ei;rcases Option.or_eq_some_iff.mp e8 with e|⟨_,e⟩
 .simp only[bind_eq_some_iff,map_eq_some_iff] at e
  obtain⟨z,ez,c,e1,rfl⟩:=e;cases CM ez;obtain⟨x,y,L1,L2,rfl,h1,h2⟩:=Bu hs;obtain⟨rfl,hz⟩:=Dv h1;cases Ba h2;exact⟨_,_,rfl,.inr (.inr ⟨z,i,c,rfl,rfl,hz,e1,k _ _ (HD (by show 1<=sizeLine; decide))⟩)⟩
 .simp only[bind_eq_some_iff,map_eq_some_iff] at e
  obtain⟨ds,e1,d,e2,rfl⟩:=e;obtain⟨x,y,L1,L2,rfl,h1,h2⟩:=Bu hs;cases Ba h2;obtain⟨p,vs,rfl,hp,q⟩:=Fm h1 e1;obtain⟨v,hv,q2⟩:=TX q e2;rcases hp with hp|hp
  .exact⟨_,_,rfl,.inl ⟨p,vs,i,v,rfl,rfl,hp,hv,k _ _ (Gf q2)⟩⟩
  .exact⟨_,_,rfl,.inr (.inl ⟨p,vs,i,v,rfl,rfl,hp,hv,k _ _ (Gf q2)⟩)⟩
noncomputable def DJ:List A->Option A:=on1 fun a=>((CD a).map fun z=>A.fz (.int z.length)).or ((AI a).map fun ds=>A.fz (.int ds.length))
theorem DK:OpN K DJ (WT K):=by
 intro N H xs as b Q hs e k
 replace e:=DL e
 obtain⟨a,rfl,e⟩:=e;rcases Option.or_eq_some_iff.mp e with e|⟨_,e⟩
 .obtain⟨z,ez,rfl⟩:=map_eq_some_iff.mp e
  cases CM ez;obtain⟨x,L1,rfl,h1⟩:=CQ hs;obtain⟨rfl,hz⟩:=Dv h1;exact .inr ⟨z,rfl,hz,k _ _ Dd⟩
 .obtain⟨ds,e1,rfl⟩:=map_eq_some_iff.mp e
  obtain⟨x,L1,rfl,h1⟩:=CQ hs;obtain⟨p,vs,rfl,hp,q⟩:=Fm h1 e1;refine .inl ⟨p,vs,rfl,hp,?_⟩;rw[q.len];exact k _ _ Dd
theorem BD{X:Cx}:B1 X (.builtin "len") (WT X.K):=JM.or JN
noncomputable def O6:List A->Option A:=on1 fun q1=>(Bj q1).bind fun i=>some (.fz (.int (if i<0 then -i else i)))
theorem Qt:OpN K O6 (fun xs H Q=>∃i,xs=[.int i]/\Q (.int (if i<0 then -i else i)) H):=by
 intro N H xs as b Q hs e k
 replace e:=DL e
 obtain⟨q1,rfl,e⟩:=e
 replace e:=bind_eq_some_iff.mp e
 obtain⟨i,eq1,e⟩:=e;cases A1 eq1;clear eq1;cases e;obtain⟨x,L1,rfl,h1⟩:=CQ hs;cases Ba h1;exact⟨i,rfl,k _ _ Dd⟩
noncomputable def UI:List A->Option A:=on2 fun q1 q2=>(Bj q1).bind fun i=>(Bj q2).bind fun j=>some (.fz (.int (if j > i then j else i)))
noncomputable def UK:List A->Option A:=on2 fun q1 q2=>(Bj q1).bind fun i=>(Bj q2).bind fun j=>some (.fz (.int (if j<i then j else i)))
theorem UX:OpN K UI (fun xs H Q=>∃i j,xs=[.int i,.int j]/\Q (.int (if j > i then j else i)) H):=by
 intro N H xs as b Q hs e k
 replace e:=B9 e
 obtain⟨q1,q2,rfl,e⟩:=e
 replace e:=bind_eq_some_iff.mp e
 obtain⟨i,eq1,e⟩:=e;cases A1 eq1;clear eq1
 replace e:=bind_eq_some_iff.mp e
 obtain⟨j,eq2,e⟩:=e;cases A1 eq2;clear eq2;cases e;obtain⟨x,y,L1,L2,rfl,h1,h2⟩:=Bu hs;cases Ba h1;cases Ba h2;exact⟨i,j,rfl,k _ _ Dd⟩
theorem UY:OpN K UK (fun xs H Q=>∃i j,xs=[.int i,.int j]/\Q (.int (if j<i then j else i)) H):=by
 intro N H xs as b Q hs e k
 replace e:=B9 e
 obtain⟨q1,q2,rfl,e⟩:=e
 replace e:=bind_eq_some_iff.mp e
 obtain⟨i,eq1,e⟩:=e;cases A1 eq1;clear eq1
 replace e:=bind_eq_some_iff.mp e
 obtain⟨j,eq2,e⟩:=e;cases A1 eq2;clear eq2;cases e;obtain⟨x,y,L1,L2,rfl,h1,h2⟩:=Bu hs;cases Ba h1;cases Ba h2;exact⟨i,j,rfl,k _ _ Dd⟩
noncomputable def Dn:List D->Option (List Bool)
 | []=>some []
 | .bl b::ds=>(Dn ds).map (b :: ·)
 | _::_=>none
theorem Pe:∀{vs:List V} {ds:List D} {bs:List Bool},Ap N H vs ds->Dn ds=some bs->vs=GP bs:=by
 intro _l;induction _l with
 | nil =>
  intro _m;cases _m with
  | nil =>
   intro bs _ e;simp[Dn] at e; subst e; rfl
  | cons _ _ =>
   intro _ q _;simp only[Ap] at q
 | cons v vs ih =>
  intro _m;cases _m with
  | nil =>
   intro _ q _;simp only[Ap] at q
  | cons d ds =>
   intro bs q e;cases d with
   | bl b =>
    simp only[Dn,map_eq_some_iff] at e;obtain⟨bs',e1,rfl⟩:=e;have:=ih q.2 e1;obtain⟨q1,_⟩:=q;cases q1;subst this;rfl
   | _=>simp[Dn] at e
noncomputable def EG:List A->Option A:=on1 fun a=>(Co a).bind fun ds=>(Dn ds).map fun bs=>.fz (.bl (bs.all id))
noncomputable def Xi:List A->Option A:=on1 fun a=>(Co a).bind fun ds=>(Dn ds).map fun bs=>.fz (.bl (bs.any id))
theorem Gb:OpN K EG (Xp K):=by
 intro N H xs as b Q hs e k
 replace e:=DL e
 obtain⟨a,rfl,e⟩:=e;simp only[bind_eq_some_iff,map_eq_some_iff] at e;obtain⟨ds,e1,bs,e2,rfl⟩:=e;obtain⟨x,L1,rfl,h1⟩:=CQ hs;obtain⟨p,vs,rfl,hp,hz,q⟩:=CP h1 e1;cases Pe q e2;exact⟨p,bs,rfl,.inl (.inl hp),k _ _ DM⟩
noncomputable def Jt:List A->Option A:=on1 fun a=>(AI a).bind fun ds=>if ds.length<=LIM then some (.lst (ds.map A.fz)) else none
theorem Sb:OpN K Jt (SD K):=by
 intro N H xs as b Q hs e k
 replace e:=DL e
 obtain⟨a,rfl,e⟩:=e;simp only[bind_eq_some_iff] at e;obtain⟨ds,e1,e2⟩:=e;split at e2
 .rename_i hz
  cases e2;obtain⟨x,L1,rfl,h1⟩:=CQ hs;obtain⟨p,vs,rfl,hp,q⟩:=Fm h1 e1;exact⟨p,vs,rfl,hp,fun l hl=>k _ _ (EM hl (by rw[q.len]; exact hz) q)⟩
 .cases e2
noncomputable def CY(f:D->Bool):List A->Option A:=on1 fun a=>(er a).map fun d=>.fz (.bl (f d))
theorem UT{T:String}{f:D->Bool}:OpN K (CY f) (r1L fun x H Q=>∃d,Rep H x d/\Q (.bl (f d)) H):=by
 intro N H xs as b Q hs e k
 replace e:=DL e
 obtain⟨a,rfl,e⟩:=e;simp only[map_eq_some_iff] at e;obtain⟨d,e1,rfl⟩:=e;obtain⟨x,L1,rfl,h1⟩:=CQ hs;exact⟨x,rfl,d,ID h1 e1,k _ _ DM⟩
theorem IM{T:String}{f:D->Bool}{m:ME}{σ:L2.St}{Q:VK}(h:tE K (opM (CY f) (m1L m)) σ H Q):tCB (rIs T f) (Ce (tE K m) (Ce (tC (.ty T)) FT)) σ H Q:=by
 have h2:=one (UT (T:=T)) h;exact tE.mono h2 fun x H1 ⟨d,r,q⟩=>⟨x,d,rfl,r,q⟩
end
end J
end
section
namespace J
open PySem PySem.Spec PyProof.Rows L2
section
variable{X:Cx}{a b c e:Expr}{es:List Expr}{m m1 m2 m3:ME}{ms:MA}{p pos pos' p2 apos cpos q:Pos}{x:Str}
variable{K:Frag}{H:Hp}{σ:L2.St}
theorem P0(hg:Gl X "isinstance")(hg2:Gl X "int")(B:Blt X.mg X.K)(he:starEach [a,.Name "int" q] X.env=[(false,eval a X.env),(false,eval (.Name "int" q) X.env)])(he2:starEach [.Name "int" q] X.env=[(false,eval (.Name "int" q) X.env)])(ha:JE X a m):
  JE X (.Call (.Name "isinstance" p) [a,.Name "int" q] [] pos) (opM (CY isInt) (m1L m)):=Az (U9 hg hg2 B he he2 ha) fun _ _ _ h=>IM h
theorem PZ(hg:Gl X "isinstance")(hg2:Gl X "bool")(B:Blt X.mg X.K)(he:starEach [a,.Name "bool" q] X.env=[(false,eval a X.env),(false,eval (.Name "bool" q) X.env)])(he2:starEach [.Name "bool" q] X.env=[(false,eval (.Name "bool" q) X.env)])(ha:JE X a m):
  JE X (.Call (.Name "isinstance" p) [a,.Name "bool" q] [] pos) (opM (CY isBool) (m1L m)):=Az (U8 hg hg2 B he he2 ha) fun _ _ _ h=>IM h
theorem J7(hg:Gl X "isinstance")(hg2:Gl X "list")(B:Blt X.mg X.K)(he:starEach [a,.Name "list" q] X.env=[(false,eval a X.env),(false,eval (.Name "list" q) X.env)])(he2:starEach [.Name "list" q] X.env=[(false,eval (.Name "list" q) X.env)])(ha:JE X a m):
  JE X (.Call (.Name "isinstance" p) [a,.Name "list" q] [] pos) (opM (CY D4) (m1L m)):=Az (Va hg hg2 B he he2 ha) fun _ _ _ h=>IM h
theorem J8(hg:Gl X "isinstance")(hg2:Gl X "tuple")(B:Blt X.mg X.K)(he:starEach [a,.Name "tuple" q] X.env=[(false,eval a X.env),(false,eval (.Name "tuple" q) X.env)])(he2:starEach [.Name "tuple" q] X.env=[(false,eval (.Name "tuple" q) X.env)])(ha:JE X a m):
  JE X (.Call (.Name "isinstance" p) [a,.Name "tuple" q] [] pos) (opM (CY isTup) (m1L m)):=Az (Vb hg hg2 B he he2 ha) fun _ _ _ h=>IM h
theorem J9(hg:Gl X "isinstance")(hg2:Gl X "str")(B:Blt X.mg X.K)(he:starEach [a,.Name "str" q] X.env=[(false,eval a X.env),(false,eval (.Name "str" q) X.env)])(he2:starEach [.Name "str" q] X.env=[(false,eval (.Name "str" q) X.env)])(ha:JE X a m):
  JE X (.Call (.Name "isinstance" p) [a,.Name "str" q] [] pos) (opM (CY isStr) (m1L m)):=Az (Vc hg hg2 B he he2 ha) fun _ _ _ h=>IM h
noncomputable def slF(x:A)(lo hi:Option Int):Option A:=match x with
 | .fz (.str z)=>some (.fz (.str (Txt.slice z lo hi)))
 | _=>none
noncomputable def Xs:List A->Option A:=on2 fun x q2=>(Bj q2).bind fun j=>slF x none (some j)
noncomputable def Xt:List A->Option A:=on2 fun x q2=>(Bj q2).bind fun i=>slF x (some i) none
noncomputable def GL:List D->Option (List Str)
 | []=>some []
 | .str z::ds=>(GL ds).map (z :: ·)
 | _::_=>none
theorem SQ{N:Addr->Prop}:∀{vs:List V} {ds:List D} {zs:List Str},Ap N H vs ds->GL ds=some zs->vs=zs.map V.str:=by
 intro _l;induction _l with
 | nil =>
  intro _m;cases _m with
  | nil =>
   intro zs _ e;simp[GL] at e; subst e; rfl
  | cons _ _ =>
   intro _ q _;simp only[Ap] at q
 | cons v vs ih =>
  intro _m;cases _m with
  | nil =>
   intro _ q _;simp only[Ap] at q
  | cons d ds =>
   intro zs q e;cases d with
   | str z =>
    simp only[GL,map_eq_some_iff] at e;obtain⟨zs',e1,rfl⟩:=e;have:=ih q.2 e1;obtain⟨q1,_⟩:=q;cases q1;subst this;rfl
   | _=>simp[GL] at e
noncomputable def Gh(f:Str->List A->Option A)(m:ME)(ms:MA):ME:=fun Z=>(m Z).bind fun p=>match p.1 with
 | .val (.fz (.str z))=>(ms p.2).bind fun q=>(peeks q.2 q.1).bind fun as=>(f z as).map fun a=>(.val a,q.2)
 | _=>none
theorem Rh{f:Str->List A->Option A}{r:V->List V->Hp->VK->Prop}{Q:VK}(ok:∀z,z.length<=sizeLine->OpN K (f z) fun xs H Q=>r (.str z) xs H Q)(h:tE K (Gh f m ms) σ H Q):tBM K "str" r (tE K m) (tA K ms) σ H Q:=by
 obtain⟨Z,O,fp,rl,y,Z',h0,k⟩:=h;simp only[Gh,bind_eq_some_iff] at h0;obtain⟨⟨r1,Z1⟩,e1,h0⟩:=h0;dsimp only at h0;split at h0
 .rename_i z
  simp only[bind_eq_some_iff,map_eq_some_iff] at h0;obtain⟨⟨rs,Z2⟩,e2,as,e3,c,e4,e5⟩:=h0;cases e5;refine⟨Z,O,fp,rl,_,Z1,e1,fun v H1 yy=>?_⟩;obtain⟨L,fp1,p,q⟩:=yy;obtain⟨rfl,hz⟩:=Dv (K:=K) q;have p':=p.drop0;refine⟨rfl,Z1,O,fp1,p'.rel0,rs,Z2,e2,fun vs H2 yy=>?_⟩;obtain⟨L2,fp2,p2,q2⟩:=yy;exact ok z hz _ H2 vs as c Q (p2.rel.peeks q2 e3) e4 fun u H3 o=>k u H3 ((p2.out o).pre p')
 .cases h0
noncomputable def Wu(sep:Str):List A->Option A:=on1 fun b=>if sep.length=0 then (Co b).bind fun ds=>(GL ds).bind fun zs=>if (zs.map (·.length)).sum<=16777216 then some (.fz (.str (glue zs))) else none else none
noncomputable def Uk(z:Str):List A->Option A:=on1 fun q1=>(CD q1).bind fun y=>if 0<=Txt.find z y then some (.fz (.int (Txt.find z y))) else none
noncomputable def PR:List D->Option (List Int)
 | []=>some []
 | .int z::ds=>(PR ds).map (z :: ·)
 | _::_=>none
end
section
variable{K:Frag}{Z Z' Z1 Z2:Ro}{σ σ' σ1 σ2:L2.St}{H H' H1 H2:Hp}{O O' N:Addr->Prop}{fp fp' fp1 fp2:Nat->List Addr}{L L1:List Addr}
theorem Post.mut{i:Nat}{st:Own}{a a':A}{v:V}{p:Addr}{o:HO}{vs:List V}{L':List Addr}(x:Post K O fp H Z Z1 σ σ L fp1 H1)(hi : Z1[i]? = some (some (st,a)))(hst:st≠.ro)(hv : σ[i]? = some (some v))(hp:p∈fp1 i)(hy:H1 p=some (.lst vs))(hL:∀q∈L',q∈fp1 i\/q∈L)(nd:L'.Nodup)(hr:Am K (NN fp1 (ad O L)) (upd H1 p o) v a' L'):Post K O fp H Z (Z1.set i (some (st,a'))) σ σ [] (pt fp1 i L') (upd H1 p o):=by
 have alp:∀q,H1 q≠none->upd H1 p o q≠none:=fun q z=>by
  by_cases e:q=p
  .subst e; rw[AB]; simp
  .rw[Au e]; exact z
 have k:=Cs (o:=o) hy
 -- first the heap,then the slot
 have nn:∀q,NN (pt fp1 i L') (ad O []) q->NN fp1 (ad O L) q:=fun q z=>by
  rcases z with ⟨j,z⟩|z|z
  .rcases BN z with ⟨_,z⟩|⟨_,z⟩
   .rcases hL q z with z|z
    .exact .inl ⟨i,z⟩
    .exact .inr (.inr z)
   .exact .inl ⟨j,z⟩
  .exact .inr (.inl z)
  .simp at z
 have dis:∀q∈L',∀j,j≠i->q∉fp1 j:=fun q hq j hj z=>by
  rcases hL q hq with w|w
  .exact hj (x.rel.inj j i q z w)
  .exact x.rel.off j q z (.inr w)
 refine⟨⟨by rw[List.length_set]; exact x.rel.len,fun j st' b e=>?_,fun j h=>?_,fun j=>?_,fun j1 j2 q h1 h2=>?_,fun j q h z=>?_,fun q z=>alp q (x.rel.al q (nn q z))⟩,List.nodup_nil,fun q h=>by simp at h,fun q h=>?_,fun b u e c=>?_,rfl,fun j st' b e h=>?_⟩
 .by_cases hj:j=i
  .subst hj
   rw[List.getElem?_set_self (Ay hi)] at e;cases e;exact⟨v,hv,by rw[FO]; exact DG nn hr⟩
  .rw[List.getElem?_set_ne (Ne.symm hj)] at e
   obtain⟨w,e1,q⟩:=x.rel.slot j _ _ e;refine⟨w,e1,?_⟩;rw[Ht hj];exact q.tr (M:=fun q=>q=p) (fun b z=>by rw[z]; exact .inl ⟨i,hp⟩) k (fun b z=>.inl (nn b z)) fun b hb z=>hj (x.rel.inj j i p (z ▸ hb) hp)
 .by_cases hj:j=i
  .subst hj
   exact absurd (List.getElem?_set_self (Ay hi)) (h st a')
  .rw[Ht hj]
   exact x.rel.out j fun st' b e=>h st' b (by rw[List.getElem?_set_ne (Ne.symm hj)]; exact e)
 .by_cases hj:j=i
  .subst hj; rw[FO]; exact nd
  .rw[Ht hj]; exact x.rel.nd j
 .rcases BN h1 with ⟨e1,z1⟩|⟨e1,z1⟩
  .rcases BN h2 with ⟨e2,z2⟩|⟨e2,z2⟩
   .rw[e1,e2]
   .exact absurd z2 (dis q z1 j2 e2)
  .rcases BN h2 with ⟨e2,z2⟩|⟨e2,z2⟩
   .exact absurd z1 (dis q z2 j1 e1)
   .exact x.rel.inj j1 j2 q z1 z2
 .have z':=JF.mp z
  rcases BN h with ⟨_,z1⟩|⟨_,z1⟩
  .rcases hL q z1 with w|w
   .exact x.rel.off i q w (.inl z')
   .exact x.lo q w z'
  .exact x.rel.off j q z1 (.inl z')
 .rcases h with h|⟨j,h⟩
  .simp at h
  .rcases BN h with ⟨_,z1⟩|⟨_,z1⟩
   .rcases hL q z1 with w|w
    .exact x.new q (.inr ⟨i,w⟩)
    .exact x.new q (.inl w)
   .exact x.new q (.inr ⟨j,z1⟩)
 .have e1:=x.kept b u e c
  by_cases hb:b=p
  .subst hb
   rw[hy] at e1;cases e1;rcases c with c|c
   .rcases x.new b (.inr ⟨i,hp⟩) with z|z
    .exact absurd z c
    .rw[e] at z; cases z
   .cases c
  .rw[Au hb]; exact e1
 .obtain⟨b',e1,_,f⟩:=x.stab j st' b e h
  by_cases hj:j=i
  .subst hj
   rw[hi] at e1;cases e1;exact⟨a',List.getElem?_set_self (Ay hi),rfl,fun z=>absurd z hst⟩
  .exact⟨b',by rw[List.getElem?_set_ne (Ne.symm hj)]; exact e1,rfl,f⟩
theorem Ak.app:∀{vs ws:List V} {as bs:List A} {L1 L2:List Addr},Ak K N H vs as L1->Ak K N H ws bs L2->Ak K N H (vs++ws) (as++bs) (L1++L2)
 | [],ws,[],bs,L1,L2,r,q=>by
  simp only[Ak] at r;subst r;exact q
 | [],_,_::_,_,_,_,r,_=>by simp only[Ak] at r
 | _::_,_,[],_,_,_,r,_=>by simp only[Ak] at r
 | v::vs,ws,a::as,bs,L1,L2,r,q=>by
  simp only[Ak] at r;obtain⟨M1,M2,rfl,h1,h2⟩:=r;simp only[List.cons_append,Ak];exact⟨M1,M2++L2,by simp,h1,Ak.app h2 q⟩
noncomputable def Ee(Z:Ro)(i:Nat):Option (Own×List A):=match Z[i]? with
 | some (some (.ro,_))=>none
 | some (some (st,.lst as))=>some (st,as)
 | _=>none
theorem FH{i:Nat}{st:Own}{as:List A}(h:Ee Z i=some (st,as)): Z[i]? = some (some (st,.lst as))/\st≠.ro:=by
 unfold Ee at h;split at h
 .cases h
 .rename_i st' as' hn e
  cases h;exact⟨e,fun z=>hn z⟩
 .cases h
noncomputable def IS(i:Nat)(m:ME):MS:=fun Z=>(Ee Z i).bind fun _=>(m Z).bind fun p=>(keep p.2 p.1).bind fun q=>(Ee q.2 i).bind fun h=>if h.2.length<LIM then some (.next (q.2.set i (some (h.1,.lst (h.2++[q.1]))))) else none
theorem VU{i:Nat}{m:ME}{D:Ends}(h:tS K (IS i m) D σ H):JB (tBM K "list" Ky (L9 i) (Ce (tE K m) FT)) D σ H:=by
 obtain⟨Z,O,fp,rl,fl,e,w⟩:=h;simp only[IS,bind_eq_some_iff] at e;obtain⟨⟨st0,as0⟩,e0,⟨r,Z1⟩,e1,⟨a,Z2⟩,e2,⟨st,as⟩,e3,e4⟩:=e;split at e4
 .rename_i hz
  cases e4;obtain⟨g0,_⟩:=FH e0;obtain⟨v,hv,q0⟩:=rl.slot i _ _ g0;rw[Am] at q0;obtain⟨p0,vs0,_,rfl,_,hp0,_,_⟩:=q0;refine⟨_,hv,.inl ⟨rfl,vs0,.inl (.inl hp0)⟩,Z,O,fp,rl,r,Z1,e1,fun y H1 yy=>?_⟩
  obtain⟨L,fp1,p,q⟩:=yy;obtain⟨L2,fp2,p2,q2⟩:=G3 p q e2;obtain⟨g,gst⟩:=FH e3;obtain⟨v',hv',qi⟩:=p2.rel.slot i _ _ g;rw[hv] at hv'; cases hv';rw[Am] at qi;obtain⟨pa,vs,L',e5,e6,hp,hz',hs⟩:=qi;cases e5;have hlen:=hs.len;refine⟨p0,vs,y,rfl,rfl,hp,by rw[hlen]; exact hz,w _ _ _ (p2.mut (a':=.lst (as++[a])) (L':=p0::(L'++L2)) g gst hv (by rw[e6]; simp) hp (fun b hb=>?_) ?_ ?_)⟩
  .rcases List.mem_cons.mp hb with rfl|hb
   .rw[e6]; simp
   .rcases List.mem_append.mp hb with hb|hb
    .rw[e6]; simp[hb]
    .exact .inr hb
  .have n1:=p2.rel.nd i
   rw[e6] at n1;have n2:(p0::L').Nodup:=n1;have:((p0::L')++L2).Nodup:=List.nodup_append.mpr ⟨n2,p2.nd,fun b hb c hc e=>by
    subst e;exact p2.rel.off i b (by rw[e6]; exact hb) (.inr hc)⟩
   simpa using this
  .rw[Am]
   have k:=Cs (o:=.lst (vs++[y])) hp;have pn:NN fp2 (ad O L2) p0:=.inl ⟨i,by rw[e6]; simp⟩;have n1:=p2.rel.nd i;rw[e6] at n1;have h1:Ak K (NN fp2 (ad O L2)) (upd H1 p0 (.lst (vs++[y]))) vs as L':=hs.tr (M:=fun b=>b=p0) (fun b z=>z ▸ pn) k (fun b z=>.inl z) fun b hb z=>by
    subst z;exact(List.nodup_cons.mp n1).1 hb
   have h2:Am K (NN fp2 (ad O L2)) (upd H1 p0 (.lst (vs++[y]))) y a L2:=q2.tr (M:=fun b=>b=p0) (fun b z=>z ▸ pn) k (fun b z=>.inl z) fun b hb z=>by
    subst z;exact p2.rel.off i b (by rw[e6]; simp) (.inr hb)
   have h3:Ak K (NN fp2 (ad O L2)) (upd H1 p0 (.lst (vs++[y]))) [y] [a] L2:=by
    simp only[Ak];exact⟨L2,[],by simp,h2,rfl⟩
   refine⟨p0,vs++[y],L'++L2,rfl,rfl,AB,?_,Ak.app h1 h3⟩;rw[List.length_append,hlen];exact hz
 .cases e4
noncomputable def Li(i:Nat)(m:ME):MS:=fun Z=>(Ee Z i).bind fun _=>(m Z).bind fun p=>(peek p.2 p.1).bind fun b=>(Co b).bind fun ds=>(Ee p.2 i).bind fun h=>if h.2.length+ds.length<=LIM then some (.next (p.2.set i (some (h.1,.lst (h.2++ds.map A.fz))))) else none
theorem VW{i:Nat}{m:ME}{D:Ends}(h:tS K (Li i m) D σ H):JB (tBM K "list" NR (L9 i) (Ce (tE K m) FT)) D σ H:=by
 obtain⟨Z,O,fp,rl,fl,e,w⟩:=h;simp only[Li,bind_eq_some_iff] at e;obtain⟨⟨st0,as0⟩,e0,⟨r,Z1⟩,e1,bb,e2,ds,e2',⟨st,as⟩,e3,e4⟩:=e;split at e4
 .rename_i hz
  cases e4;obtain⟨g0,_⟩:=FH e0;obtain⟨v,hv,q0⟩:=rl.slot i _ _ g0;rw[Am] at q0;obtain⟨p0,vs0,_,rfl,_,hp0,_,_⟩:=q0;refine⟨_,hv,.inl ⟨rfl,vs0,.inl (.inl hp0)⟩,Z,O,fp,rl,r,Z1,e1,fun y H1 yy=>?_⟩
  obtain⟨L,fp1,p,q⟩:=yy;obtain⟨Lb,qb⟩:=p.rel.peek q e2;obtain⟨pb,ws,rfl,hpb,hzb,qd⟩:=CP qb e2';have p2:=p.drop0;obtain⟨g,gst⟩:=FH e3;obtain⟨v',hv',qi⟩:=p2.rel.slot i _ _ g;rw[hv] at hv'; cases hv';rw[Am] at qi;obtain⟨pa,vs,L',e5,e6,hp,hz',hs⟩:=qi;cases e5;have hlen:=hs.len;have hl2:vs.length+ws.length<=sizeLine:=by rw[hlen,qd.len]; exact hz
  refine⟨p0,pb,vs,ws,rfl,rfl,hp,hpb,hl2,w _ _ _ (p2.mut (a':=.lst (as++ds.map A.fz)) (L':=p0::L') g gst hv (by rw[e6]; simp) hp (fun b hb=>.inl (by rw[e6]; exact hb)) (by have:=p2.rel.nd i; rw[e6] at this; exact this) ?_)⟩;rw[Am];have k:=Cs (o:=.lst (vs++ws)) hp;have pn:NN fp1 (ad O []) p0:=.inl ⟨i,by rw[e6]; simp⟩;have n1:=p2.rel.nd i;rw[e6] at n1;have h1:Ak K (NN fp1 (ad O [])) (upd H1 p0 (.lst (vs++ws))) vs as L':=hs.tr (M:=fun b=>b=p0) (fun b z=>z ▸ pn) k (fun b z=>.inl z) fun b hb z=>by
   subst z;exact(List.nodup_cons.mp n1).1 hb
  have h2:Ap (NN fp1 (ad O [])) (upd H1 p0 (.lst (vs++ws))) ws ds:=(IQ (fun b z=>z.imp id fun y=>y.imp id fun y=>by simp at y) qd).tr (M:=fun b=>b=p0) (fun b z=>z ▸ pn) k fun b z=>.inl z;refine⟨p0,vs++ws,L',rfl,rfl,AB,by rw[List.length_append]; exact hl2,?_⟩;have:=Ak.app h1 (Ak.of h2);rw[List.append_nil] at this;exact this
 .cases e4
noncomputable def LQ(i:Nat)(mk me:ME):MS:=fun Z=>(me Z).bind fun p=>(share p.2 p.1).bind fun s=>(Ee s.2 i).bind fun _=>(mk s.2).bind fun t=>match t.1 with
 | .val (.fz (.int k))=>(Ee t.2 i).bind fun h=>(ixN h.2.length k).map fun j=>.next (t.2.set i (some (h.1,.lst (h.2.set j (.fz s.1)))))
 | _=>none
theorem Ak.setFz:∀{vs:List V} {as:List A} {L:List Addr} {j:Nat} {v:V} {d:D},Ak K N H vs as L->RepA N H v d->∃L',Ak K N H (vs.set j v) (as.set j (.fz d)) L'/\(∀q∈L',q∈L)/\(L.Nodup->L'.Nodup)
 | [],[],L,j,v,d,r,_=>⟨L,by simpa using r,fun _ h=>h,id⟩
 | [],_::_,_,_,_,_,r,_=>by simp only[Ak] at r
 | _::_,[],_,_,_,_,r,_=>by simp only[Ak] at r
 | x::vs,a::as,L,0,v,d,r,q=>by
  simp only[Ak] at r;obtain⟨M1,M2,rfl,h1,h2⟩:=r;refine⟨M2,?_,fun b h=>List.mem_append_right _ h,fun h=>(List.nodup_append.mp h).2.1⟩;simp only[List.set_cons_zero,Ak];exact⟨[],M2,rfl,E1 q,h2⟩
 | x::vs,a::as,L,j+1,v,d,r,q=>by
  simp only[Ak] at r;obtain⟨M1,M2,rfl,h1,h2⟩:=r;obtain⟨L',g1,g2,g3⟩:=Ak.setFz (j:=j) h2 q;refine⟨M1++L',?_,fun b h=>?_,fun h=>?_⟩
  .simp only[List.set_cons_succ,Ak]
   exact⟨M1,L',rfl,h1,g1⟩
  .rcases List.mem_append.mp h with h|h
   .exact List.mem_append_left _ h
   .exact List.mem_append_right _ (g2 b h)
  .obtain⟨n1,n2,n3⟩:=List.nodup_append.mp h
   exact List.nodup_append.mpr ⟨n1,g3 n2,fun b hb c hc e=>n3 b hb c (g2 c hc) e⟩
theorem VZ{i:Nat}{mk me:ME}{D:Ends}(h:tS K (LQ i mk me) D σ H):OY (tE K me) (Wo (L9 i) (tE K mk) Tu) D σ H:=by
 obtain⟨Z,O,fp,rl,fl,e,w⟩:=h;simp only[LQ,bind_eq_some_iff] at e;obtain⟨⟨r,Z1⟩,e1,⟨d,Z2⟩,e2,⟨st0,as0⟩,e0,⟨r3,Z3⟩,e3,e4⟩:=e;dsimp only at e4;split at e4
 .rename_i kk
  simp only[bind_eq_some_iff,map_eq_some_iff] at e4;obtain⟨⟨st,as⟩,e5,j,e6,e7⟩:=e4;cases e7;refine⟨Z,O,fp,rl,r,Z1,e1,fun y H1 yy=>?_⟩;obtain⟨L,fp1,p,q⟩:=yy;obtain⟨fp2,p2,q2⟩:=ET p q e2;obtain⟨g0,_⟩:=FH e0;obtain⟨v,hv,q0⟩:=p2.rel.slot i _ _ g0;rw[Am] at q0;obtain⟨p0,vs0,_,rfl,_,hp0,_,_⟩:=q0;refine⟨_,hv,Z2,O,fp2,p2.rel0,_,Z3,e3,fun y2 H2 yy=>?_⟩;obtain⟨L3,fp3,p3,q3⟩:=yy;cases Ba (K:=K) q3;have p4:=(p2.next p3).drop0;obtain⟨g,gst⟩:=FH e5;obtain⟨v',hv',qi⟩:=p4.rel.slot i _ _ g;rw[hv] at hv'; cases hv';rw[Am] at qi;obtain⟨pa,vs,L',e8,e9,hp,hz',hs⟩:=qi;cases e8;have hlen:=hs.len;have qy:RepA (NN fp3 (ad O [])) H2 y d:=(Dh (fun b z=>Fs.mpr z) q2).tr (M:=Fp fp2) (fun b z=>.inl z) p3.kept fun b z=>by
   rcases z with z|z|z
   .exact(p3.new b (.inr z)).imp (fun y=>.inl y) id
   .exact .inl (.inr z)
   .simp at z
  have k:=Cs (o:=.lst (vs.set j y)) hp;have pn:NN fp3 (ad O []) p0:=.inl ⟨i,by rw[e9]; simp⟩;have n1:=p4.rel.nd i;rw[e9] at n1;have h1:Ak K (NN fp3 (ad O [])) (upd H2 p0 (.lst (vs.set j y))) vs as L':=hs.tr (M:=fun b=>b=p0) (fun b z=>z ▸ pn) k (fun b z=>.inl z) fun b hb z=>by
   subst z;exact(List.nodup_cons.mp n1).1 hb
  have h2:RepA (NN fp3 (ad O [])) (upd H2 p0 (.lst (vs.set j y))) y d:=qy.tr (M:=fun b=>b=p0) (fun b z=>z ▸ pn) k fun b z=>.inl z;obtain⟨L4,g1,g2,g3⟩:=Ak.setFz (j:=j) h1 h2;refine⟨p0,vs,kk,j,rfl,rfl,hp,by rw[hlen]; exact e6,w _ _ _ (p4.mut (a':=.lst (as.set j (.fz d))) (L':=p0::L4) g gst hv (by rw[e9]; simp) hp (fun b hb=>?_) ?_ ?_)⟩
  .rcases List.mem_cons.mp hb with rfl|hb
   .exact .inl (by rw[e9]; simp)
   .exact .inl (by rw[e9]; simp[g2 b hb])
  .exact List.nodup_cons.mpr ⟨fun z=>(List.nodup_cons.mp n1).1 (g2 _ z),g3 (List.nodup_cons.mp n1).2⟩
  .rw[Am]
   exact⟨p0,vs.set j y,L4,rfl,rfl,AB,by rw[List.length_set]; exact hz',g1⟩
 .cases e4
end
section
variable{X:Cx}{a b c e:Expr}{es:List Expr}{m m1 m2 m3:ME}{ms:MA}{p pos pos' p2 apos cpos q npos:Pos}{x:Str}
theorem Qc(i:Nat)(hN:X.N[i]? = some x)(hv:Vis X.env.scope x)(hd:(x==("__debug__" : Str))=false)(hcd:(x==("__classdict__" : Str))=false)(hbase:attributeBase (.Name x npos) "append" X.env (eval (.Name x npos) X.env)=eval (.Name x npos) X.env)(hline:(apos.endLine==cpos.line)=true)(hs:starEach [e] X.env=[(false,eval e X.env)])(hw:swapsWith (.Call (.Attribute (.Name x npos) "append" apos) [e] [] cpos) none pos.line X.env=pure false)(he:JE X e m):JS X (.Expr (.Call (.Attribute (.Name x npos) "append" apos) [e] [] cpos) pos) (IS i m):=
 Cd (GI (LM PySem.F.plainAttrs_list PySem.F.slot_list_append PySem.F.type_list_append FK (Iy hN hv hd hcd) (CL he Eo hs) hbase (by rw[hs]; rfl) hline hs rfl) hw) fun _ _ _ h=>VU h
theorem Uv(i:Nat)(hN:X.N[i]? = some x)(hv:Vis X.env.scope x)(hd:(x==("__debug__" : Str))=false)(hcd:(x==("__classdict__" : Str))=false)(hbase:attributeBase (.Name x npos) "extend" X.env (eval (.Name x npos) X.env)=eval (.Name x npos) X.env)(hline:(apos.endLine==cpos.line)=true)(hs:starEach [e] X.env=[(false,eval e X.env)])(hw:swapsWith (.Call (.Attribute (.Name x npos) "extend" apos) [e] [] cpos) none pos.line X.env=pure false)(he:JE X e m):JS X (.Expr (.Call (.Attribute (.Name x npos) "extend" apos) [e] [] cpos) pos) (Li i m):=
 Cd (GI (LM PySem.F.plainAttrs_list PySem.F.slot_list_extend PySem.F.type_list_extend Oz (Iy hN hv hd hcd) (CL he Eo hs) hbase (by rw[hs]; rfl) hline hs rfl) hw) fun _ _ _ h=>VW h
theorem MD(i:Nat)(hN:X.N[i]? = some x)(hv:Vis X.env.scope x)(hd:(x==("__debug__" : Str))=false)(hcd:(x==("__classdict__" : Str))=false)(ha:∀v,assign (.Subscript (.Name x npos) b pos') X.env v=(do
   let ov <- holding [v] (eval (.Name x npos) X.env)
   let iv <- holding [v,ov] (eval b X.env)
   standAt pos'
   holding [v,ov,iv] (setItem ov iv v)
   release [v,ov,iv] []))(hs:swapsWithSole [.Subscript (.Name x npos) b pos'] e pos.line X.env=pure false)(hw:swappedStores [.Subscript (.Name x npos) b pos'] e X.env=pure none)(h1:(assignEach [.Subscript (.Name x npos) b pos'] X.env).map (·.2)=[assign (.Subscript (.Name x npos) b pos') X.env])(hk:JE X b m1)(he:JE X e m2):JS X (.Assign [.Subscript (.Name x npos) b pos'] e pos) (LQ i m1 m2):=
 Cd (QM he (Vk (Iy hN hv hd hcd) hk set_list ha) hs hw h1) fun _ _ _ h=>VZ h
end
end J
end
section
namespace L2
open PySem PySem.Spec PyProof.Rows
mutual
noncomputable def Ww:D->Bool
 | .non=>true
 | .int _=>true
 | .str _=>true
 | .tup ds=>Td ds
 | .bl _=>false
 | .lst _=>false
noncomputable def Td:List D->Bool
 | []=>true
 | d::ds=>Ww d&&Td ds
end
structure M1 (X:Cx) (o:Expr) (m:Str) (apos:Pos) (e:Expr) (cpos:Pos):Prop where
 base:attributeBase o m X.env (eval o X.env)=eval o X.env
 few:((backTo cpos (starEach [e] X.env)).all (fun x=>!x.1)&&(backToKw cpos (keywordEach [] X.env)).all (fun x=>x.1.isSome)
  && decide (([e]:List Expr).length+([]:List Keyword).length+(if ([]:List Keyword).isEmpty then 0 else 1)<30))=true
 line:(apos.endLine==cpos.line)=true
 trees:backTo cpos (starEach [e] X.env)=[(false,eval e X.env)]
structure M2 (X:Cx) (o:Expr) (m:Str) (apos:Pos) (e f:Expr) (cpos:Pos):Prop where
 base:attributeBase o m X.env (eval o X.env)=eval o X.env
 few:((backTo cpos (starEach [e,f] X.env)).all (fun x=>!x.1)&&(backToKw cpos (keywordEach [] X.env)).all (fun x=>x.1.isSome)
  && decide (([e,f]:List Expr).length+([]:List Keyword).length+(if ([]:List Keyword).isEmpty then 0 else 1)<30))=true
 line:(apos.endLine==cpos.line)=true
 trees:backTo cpos (starEach [e,f] X.env)=[(false,eval e X.env),(false,eval f X.env)]
end L2
namespace J
open PySem PySem.Spec PyProof.Rows L2
section
variable{X:Cx}{a b c e:Expr}{es:List Expr}{m m1 m2 m3:ME}{ms:MA}{p pos pos' p2 apos cpos q npos:Pos}{x:Str}
variable{K:Frag}{N:Addr->Prop}{H:Hp}{σ:L2.St}{v:V}{L:List Addr}
noncomputable def Xl:D->Option Key
 | .int i=>some (.inl i)
 | .str z=>some (.inr z)
 | .non | .bl _ | .lst _ | .tup _=>none
end
section
variable{P:Program}{w:World}{K:Frag}{mg:Str->Option Value}{base:Heap}
theorem BC{x qual:Str}{st:Stmt}{f:Addr}{fd:FuncData}{N ps:List Str}{k:Nat}{m:MS}(F:Fun K x qual st f fd)(S:FnScope N ps (Ao st))(hb:∀(cdv:Value) (A:Around) (outer:List Env) (s:Shared) (H:Hp) (E:XK),Room k (A.deeper (envOfC qual (Ao st) s.heap.objs.size f cdv))->JSs (A7 CX0 P w K mg base N qual (Ao st) f cdv A outer s H E).nox (BO st) m):
  FnOk P w K mg base CX0 (k+1) f fd ps (spJ K (fnM ps.length N.length m) ps.length):=by
 refine F.ok S (fun vs H Q E h=>?_) fun cdv A outer s H vs Q E hr h=>⟨_,hb cdv A outer s H E hr,?_⟩
 .obtain⟨_,_,_,h,_⟩:=h
  exact h
 .have hl:vs.length=ps.length:=by
   obtain⟨_,_,_,h,_⟩:=h;exact h
  have:=JL h;unfold L2.start;rw[hl];exact this
theorem Aq{np nn:Nat}{b:MS}:∀args y,fnM np nn b args=some y->args.length=np:=fun args y e=>by
 unfold fnM at e;split at e
 .rename_i h; exact h
 .cases e
theorem UC{Φ:Fn}{H:Hp}{a:Addr}{ns:List Int}{as':List A}{E:XK}(hl:ns.length<=63)(hO:Rt H)(hS:SqL K H a (ns.map V.int))(e : Φ [(.ro,.scr ns)]=some (.fz (.bl true),as')):spJ K Φ 1 [.ref a] H (fun v _=>v=.bl true) E:=by
 refine⟨[(.ro,.scr ns)],fun _=>False,fun _=>[],rfl,⟨rfl,fun i st b h=>?_,fun _ _=>rfl,fun _=>List.nodup_nil,fun i j p h=>by simp at h,fun i p h=>by simp at h,fun p z=>?_⟩,_,_,e,fun v H' ⟨L,fp',p,q⟩=>?_⟩
 .cases i with
  | zero =>
   simp at h;obtain⟨rfl,rfl⟩:=h;refine⟨.ref a,rfl,?_⟩;rw[Am];refine⟨a,rfl,rfl,fun H' k=>?_,Nat.le_trans hl (by decide)⟩;rcases hS with (h|⟨o,h⟩)|h
   .rcases hO a with z|⟨o,xs,z⟩|⟨ps,z⟩
    .rw[z] at h; cases h
    .rw[z] at h; cases h
    .rw[z] at h; cases h
   .exact .inl (.inr ⟨o,k _ _ h⟩)
   .exact .inr h
  | succ i=>simp at h
 .rcases z with ⟨i,z⟩|z
  .simp at z
  .exact z.elim
 .exact NS q rfl
end
end J
end
section
namespace J
open PySem PySem.Spec PyProof.Rows L2
noncomputable def moves:List R->Ro->Option (List A×Ro)
 | [],Z=>some ([],Z)
 | r::rs,Z=>(move Z r).bind fun p=>(moves rs p.2).map fun q=>(p.1::q.1,q.2)
noncomputable def CZ(m:MA):ME:=fun Z=>(m Z).bind fun p=>(moves p.1 p.2).bind fun q=>if q.1.length<=LIM then some (.val (mkT q.1),q.2) else none
section
variable{K:Frag}{Z Z' Z1 Z2:Ro}{σ σ' σ1 σ2:L2.St}{H H' H1 H2:Hp}{O O' N:Addr->Prop}{fp fp' fp1 fp2:Nat->List Addr}{L L1:List Addr}
theorem Post.perm{L':List Addr}(x:Post K O fp H Z Z1 σ σ1 L fp1 H1)(h:∀p,p∈L'↔p∈L)(nd:L'.Nodup):Post K O fp H Z Z1 σ σ1 L' fp1 H1:=
 ⟨x.rel.congr fun p=>or_congr Iff.rfl (h p).symm,nd,fun p hp=>x.lo p ((h p).mp hp),fun p hp=>x.new p (hp.imp (h p).mp id),x.kept,x.ln,x.stab⟩
theorem Post.give{i:Nat}{a:A}{v:V}(x:Post K O fp H Z Z1 σ σ L fp1 H1)(ha : Z1[i]? = some (some (.own,a)))(hv : σ[i]? = some (some v)):
  Post K O fp H Z (Z1.set i none) σ σ (L++fp1 i) (pt fp1 i []) H1/\Am K (NN fp1 (ad O L)) H1 v a (fp1 i)/\∀p,NN (pt fp1 i []) (ad O (L++fp1 i)) p↔NN fp1 (ad O L) p:=by
 obtain⟨v',hv',q⟩:=x.rel.slot i _ _ ha;rw[hv] at hv'; cases hv';have nn:∀p,NN (pt fp1 i []) (ad O (L++fp1 i)) p↔NN fp1 (ad O L) p:=fun p=>by
  constructor
  .intro z
   rcases z with ⟨j,z⟩|z|z
   .rcases BN z with ⟨_,z⟩|⟨_,z⟩
    .simp at z
    .exact .inl ⟨j,z⟩
   .exact .inr (.inl z)
   .rcases List.mem_append.mp z with z|z
    .exact .inr (.inr z)
    .exact .inl ⟨i,z⟩
  .intro z
   rcases z with ⟨j,z⟩|z|z
   .by_cases hj:j=i
    .subst hj; exact .inr (.inr (List.mem_append_right _ z))
    .exact .inl ⟨j,by rw[Ht hj]; exact z⟩
   .exact .inr (.inl z)
   .exact .inr (.inr (List.mem_append_left _ z))
 have nd:(L++fp1 i).Nodup:=List.nodup_append.mpr ⟨x.nd,x.rel.nd i,fun a ha b hb e=>by subst e; exact x.rel.off i a hb (.inr ha)⟩;have R:=x.rel.set (i:=i) (s:=none) (o:=some v) (L:=[]) (O':=ad O (L++fp1 i)) (Ay ha) (fun p z=>(nn p).mp (.inr z)) (fun p hp=>by simp at hp) List.nodup_nil (fun p hp=>by simp at hp) (fun p hp=>by simp at hp)
  (fun j p hj h z=>by
   rcases z with z|z
   .exact x.rel.off j p h (.inl z)
   .rcases List.mem_append.mp z with z|z
    .exact x.rel.off j p h (.inr z)
    .exact hj (x.rel.inj j i p h z)) (fun st a e=>by cases e) (fun _=>rfl)
 rw[II hv] at R;refine⟨⟨R,nd,fun p hp z=>?_,fun p hp=>?_,x.kept,rfl,fun j st a' h n=>?_⟩,q,nn⟩
 .rcases List.mem_append.mp hp with hp|hp
  .exact x.lo p hp z
  .exact x.rel.off i p hp (.inl z)
 .rcases hp with hp|⟨j,hp⟩
  .rcases List.mem_append.mp hp with hp|hp
   .exact x.new p (.inl hp)
   .exact x.new p (.inr ⟨i,hp⟩)
  .rcases BN hp with ⟨_,z⟩|⟨_,z⟩
   .simp at z
   .exact x.new p (.inr ⟨j,z⟩)
 .obtain⟨a2,h2,_,f2⟩:=x.stab j st a' h n
  refine⟨a2,?_,rfl,f2⟩;rw[List.getElem?_set_ne]
  .exact h2
  .rintro rfl
   rw[ha] at h2; cases h2; exact n rfl
theorem RRs.weak(h:∀p,O' p->N p):∀{vs:List V} {rs:List R} {L:List Addr},RRs K N H σ vs rs L->RRs K O' H σ vs rs L
 | [],[],_,q=>q
 | [],_::_,_,q=>by simp only[RRs] at q
 | _::_,[],_,q=>by simp only[RRs] at q
 | v::vs,r::rs,L,q=>by
  simp only[RRs] at q |-;obtain⟨L1,L2,rfl,h1,h2⟩:=q;refine⟨L1,L2,rfl,?_,RRs.weak h h2⟩;cases r with
  | val a=>exact DG h h1
  | ref i=>exact h1
theorem MH:∀{rs:List R} {vs:List V} {as:List A} {Z1 Z2:Ro} {fp1:Nat->List Addr} {Lacc L:List Addr},Post K O fp H Z Z1 σ σ (Lacc++L) fp1 H1->RRs K (NN fp1 (ad O (Lacc++L))) H1 σ vs rs L->moves rs Z1=some (as,Z2) ->
  ∃L2 fp2,Post K O fp H Z Z2 σ σ (Lacc++L2) fp2 H1/\Ak K (NN fp2 (ad O (Lacc++L2))) H1 vs as L2/\∀p,NN fp2 (ad O (Lacc++L2)) p↔NN fp1 (ad O (Lacc++L)) p:=by
 intro _l;induction _l with
 | nil =>
  intro _m;cases _m with
  | nil =>
   intro as Z1 Z2 fp1 Lacc L x q e;simp only[moves,Option.some.injEq,Prod.mk.injEq] at e;obtain⟨rfl,rfl⟩:=e;simp only[RRs] at q;subst q;exact⟨[],fp1,x,by simp[Ak],fun p=>Iff.rfl⟩
  | cons _ _ =>
   intro _ _ _ _ _ _ _ q _;simp only[RRs] at q
 | cons r rs ih =>
  intro _m;cases _m with
  | nil =>
   intro _ _ _ _ _ _ _ q _;simp only[RRs] at q
  | cons v vs =>
   intro as Z1 Z2 fp1 Lacc L x q e;simp only[RRs] at q;obtain⟨L1,L2,rfl,h1,h2⟩:=q;simp only[moves,bind_eq_some_iff,map_eq_some_iff] at e;obtain⟨⟨a,Z3⟩,e1,⟨as',Z4⟩,e2,e3⟩:=e;cases e3;cases r with
   | val b =>
    simp only[move,Option.some.injEq,Prod.mk.injEq] at e1;obtain⟨rfl,rfl⟩:=e1;rw[<- List.append_assoc] at x h1 h2;obtain⟨L3,fp3,p3,q3,n3⟩:=ih (Lacc:=Lacc++L1) x h2 e2;rw[List.append_assoc] at p3 q3 n3;refine⟨L1++L3,fp3,p3,?_,fun p=>by rw[n3 p,List.append_assoc]⟩;simp only[Ak];exact⟨L1,L3,rfl,DG (fun p z=>by have:=(n3 p).mp z; rw[List.append_assoc]; rw[List.append_assoc] at this; exact this) h1,q3⟩
   | ref i =>
    obtain⟨rfl,hv⟩:=h1;rw[List.nil_append] at x h2;simp only[move] at e1;split at e1
    .rename_i a' ha
     cases e1;obtain⟨g1,g2,g3⟩:=x.give ha hv;have nd:((Lacc++fp1 i)++L2).Nodup:=by
      have:=g1.nd;rw[List.append_assoc] at this |-;exact(List.perm_append_comm.append_left Lacc).nodup this
     have g1':Post K O fp H Z (Z1.set i none) σ σ ((Lacc++fp1 i)++L2) (pt fp1 i []) H1:=g1.perm (fun p=>by simp; exact⟨fun z=>by rcases z with z|z|z; exact .inl z; exact .inr (.inr z); exact .inr (.inl z),fun z=>by rcases z with z|z|z; exact .inl z; exact .inr (.inr z); exact .inr (.inl z)⟩) nd;have nn:∀p,NN (pt fp1 i []) (ad O ((Lacc++fp1 i)++L2)) p↔NN fp1 (ad O (Lacc++L2)) p:=fun p=>by
      rw[<- g3 p];refine or_congr Iff.rfl (or_congr Iff.rfl ?_);simp;exact⟨fun z=>by rcases z with z|z|z; exact .inl z; exact .inr (.inr z); exact .inr (.inl z),fun z=>by rcases z with z|z|z; exact .inl z; exact .inr (.inr z); exact .inr (.inl z)⟩
     obtain⟨L3,fp3,p3,q3,n3⟩:=ih (Lacc:=Lacc++fp1 i) g1' (RRs.weak (fun p z=>(nn p).mp z) h2) e2;rw[List.append_assoc] at p3 q3 n3;refine⟨fp1 i++L3,fp3,p3,?_,fun p=>by rw[n3 p,nn p]; simp⟩;simp only[Ak];exact⟨fp1 i,L3,rfl,DG (fun p z=>(nn p).mp ((n3 p).mp z)) g2,q3⟩
    .cases e1
theorem SU{m:MA}{Q:VK}(h:tE K (CZ m) σ H Q):V4 (tA K m) σ H Q:=by
 obtain⟨Z,O,fp,rl,x,Z',e,k⟩:=h;simp only[CZ,bind_eq_some_iff] at e;obtain⟨⟨rs,Z1⟩,e1,⟨as,Z2⟩,e2,e3⟩:=e;split at e3
 .rename_i hz
  cases e3;refine⟨Z,O,fp,rl,rs,_,e1,fun vs H1 yy=>?_⟩
  obtain⟨L,fp1,p,q⟩:=yy;obtain⟨L2,fp2,p2,q',_⟩:=MH (Lacc:=[]) p q e2;rw[List.nil_append] at p2 q';have hl:=q'.len;refine⟨by rw[hl]; exact hz,fun a ha=>k _ _ ?_⟩;have s:=CW (o:=.tup vs) ha;have q2:Ak K (NN fp2 (ad O L2)) (upd H1 a (.tup vs)) vs as L2:=q'.tr (M:=fun _=>False) (fun _ z=>z.elim) (BW.kept s) (fun p z=>.inl z) fun _ _ z=>z;show Ji _ _ _ _ _ _ _ (.val (mkT as)) _ _;unfold mkT;split
  .rename_i ds hd
   obtain⟨rfl,qd⟩:=q2.fzs hd;exact⟨[],fp2,p2.more s List.nodup_nil (fun p hp=>by simp at hp),KC (KA AB (by rw[hl]; exact hz) qd)⟩
  .refine⟨L2,fp2,p2.more s p2.nd (fun p hp=>.inl hp),?_⟩
   show Am _ _ _ _ _ _;rw[Am];exact⟨a,vs,rfl,AB,by rw[hl]; exact hz,q2⟩
 .cases e3
end
section
variable{X:Cx}{a b c e:Expr}{es:List Expr}{m m1 m2 m3:ME}{ms:MA}{p pos pos' p2 apos cpos q npos:Pos}{x:Str}{K:Frag}
theorem Bb{k:Nat}(h:JA X es ms):JE X (.Tuple es k pos) (CZ ms):=Az (QE h) fun _ _ _ h=>SU h
theorem G7:OpN K He (r2L (rI0 fun i j=>.int (i-j))):=Im
theorem R9:OpN K K5 (r2L (rI0 fun i j=>.int (Builtin.bitAnd i j))):=Im
theorem US:OpN K RB (r2L (rI0 fun i j=>.int (Builtin.bitOr i j))):=Im
theorem Ti:OpN K gtA (r2L (rI0 fun i j=>.bl (decide (j<i)))):=LI
theorem WA:OpN K geA (r2L (rI0 fun i j=>.bl (decide (j<=i)))):=LI
end
end J
end
section
namespace Sg
open PySem
end Sg
end
section
namespace Sg
open PySem PyProof.Rows
end Sg
end
section
namespace L2
open PySem PySem.Spec PyProof.Rows
section
variable{P:Program}{w:World}{A:Around}{E:Value->Shared->Prop}{s:Shared}
theorem nx{n k j:Nat}(h:k≠j:=by decide):n+k≠n+j:=fun e=>h (Nat.add_left_cancel e)
end
end L2
end
section
namespace Ug
open PySem Sg
end Ug
end
section
namespace Ug
open PySem Sg PyProof.Rows
end Ug
end
section
namespace L2
open PySem PySem.Spec PyProof.Rows Sg
section
variable{X:Cx}
noncomputable def Tq:List V->Hp->VK->Prop:=fun xs H Q=>∃b:Bool,xs=[.bl b]/\Q (.int (if b then 1 else 0)) H
theorem Oe:B1 X (.type "int") Tq:=by
 intro pins s σ H xs us Q I r h;obtain⟨b,rfl,q⟩:=h;obtain⟨u,rfl,ru⟩:=r.one;cases ru;exact call_int_bool ⟨.int _,H,I.tok _,⟨_,rfl⟩,q⟩
end
end L2
namespace J
open PySem PySem.Spec PyProof.Rows L2 Sg
section
variable{X:Cx}{a b c e:Expr}{es:List Expr}{m m1 m2 m3:ME}{ms:MA}{p pos pos' p2 apos cpos q npos:Pos}{x:Str}
variable{K:Frag}{N:Addr->Prop}{H:Hp}{σ:L2.St}{v:V}{L:List Addr}
noncomputable def RL:List A->Option A
 | [.fz (.bl b)]=>some (.fz (.int (if b then 1 else 0)))
 | _=>none
theorem Sa:OpN K RL Tq:=by
 intro N H xs as b Q hs e k;unfold RL at e;split at e
 .rename_i c
  cases e;obtain⟨x,L1,rfl,h1⟩:=CQ hs;cases NS h1 rfl;exact⟨c,rfl,k _ _ (Gf (.int _))⟩
 .cases e
noncomputable def En:A->Bool
 | .fz .non=>true
 | _=>false
end
end J
end
section
namespace Lm
open PySem PyProof.Rows
end Lm
end
section
namespace L2
open PySem PySem.Spec PyProof.Rows PySem.W
section
variable{X:Cx}{pins:List (Addr×Obj)}{σ:St}{H:Hp}{s:Shared}{h':Heap}
theorem Inv.tabled{t':Nat}{P c':Addr}{ps:Array Value}(I:Inv X pins σ H s)(eP:H P=some (.tbl ps))(hx:∀b o,b≠P->s.heap.get? b=some o->h'.get? b=some o)(hP:∃o,h'.get? P=some o)(hc:s.heap.objs.size<=c')(hok:HOk X.prog X.w (upd H c' (.own P)) h'):Inv X pins σ (upd H c' (.own P)) { s with heap:=h',toks:=t' }:=by
 have hn:H c'=none:=I.hok.fresh hc;have neP:∀b,H b=none->b≠P:=fun b e z=>by rw[z,eP] at e; cases e
 have neC:∀b u,H b=some u->b≠c':=fun b u e z=>by rw[z,hn] at e; cases e
 refine I.step (g':=s.gens) (d':=s.drawn) (ch:=[]) (fun b hb=>by simp at hb) (fun b o _ _ _ e n=>hx b o (neP b n) e) (fun b o _ _ _ e n=>⟨o.slots,hx b o (neP b n) e⟩) (fun b o _ e n=>?_)
  (fun b o _ e=>?_) (fun b xs e=>by rw[Au (neC b _ e)]; exact e) (fun b o u e=>by rw[Au (neC b _ e)]; exact e) (fun b qs e=>⟨#[],by rw[Au (neC b _ e),e]; simp⟩) (fun m hm=>?_) hok I.bare
 .rw[Au (Nat.ne_of_lt (Nat.lt_of_lt_of_le (Heap.lt_size e) hc))]; exact n
 .by_cases hb:b=P
  .rw[hb]; exact hP
  .exact⟨o,hx b o hb e⟩
 .obtain⟨o,es,ep,ho,r⟩:=hm
  exact⟨o,es,ep,hx _ o (neP _ I.free) ho,r⟩
theorem Mj{pos pos':Pos}{v c:Value}(l:List Value)(h:TriplesOk l)(e:codeAmong pos (l++[rawInt pos'.line,rawInt pos'.col,v])=some c):codeAmong pos l=some c\/c=v:=by
 fun_induction TriplesOk l with
 | case1 =>
  simp only[List.nil_append,codeAmong,rawInt] at e;split at e
  .exact .inr (Option.some.inj e).symm
  .cases e
 | case2 a t b u x rest ih =>
  simp only[List.cons_append,codeAmong] at e |-;split at e
  .rename_i q
   rw[if_pos q]; exact .inl e
  .rename_i q
   rw[if_neg q]; exact ih h e
 | case3=>exact h.elim
theorem Mv{P:Program}{w:World}{h h':Heap}{b c':Addr}{ps qs:Array Value}{pos:Pos}{q:Str}(hok:HOk P w H h)(eP:H b=some (.tbl ps))(gP:h.get? b=some { cls:=.none,data:=.fields qs })(tr:TriplesOk qs.toList)(hx:∀a o,a≠b->h.get? a=some o->h'.get? a=some o)(hP:h'.get? b=some { cls:=.none,data:=.fields (qs ++ #[rawInt pos.line,rawInt pos.col,.ref c']) })(hc:h.objs.size<=c')(hr:h'.CodeRec (.ref c') q)(hq:ps[0]? = some (.str q 0)):
  HOk P w (upd H c' (.own b)) h':=fun a u e=>by
 have hn:H c'=none:=hok.fresh hc;have neC:∀a u,H a=some u->a≠c':=fun a u e z=>by rw[z,hn] at e; cases e
 obtain⟨c2,oc,vs,t,e2,g1,g2,g3⟩:=hr;cases e2;by_cases ha:a=c'
 .subst ha; rw[AB] at e; cases e; exact⟨oc,g1⟩
 .rw[Au ha] at e
  by_cases hb:a=b
  .subst hb
   rw[eP] at e; cases e;obtain⟨qs',gP',_,f⟩:=hok a _ eP;rw[gP] at gP'; cases gP';refine⟨_,hP,by rw[Array.toList_append]; exact TriplesOk_snoc _ _ _ _ tr,fun pos' c hcc=>?_⟩;rw[Array.toList_append] at hcc;rcases Mj _ tr hcc with z|z
   .obtain⟨c3,oc3,vs3,t3,q3,f1,f2,f3,f4⟩:=f pos' c z
    have nb:c3≠a:=fun z=>by rw[z,eP] at f2; cases f2
    exact⟨c3,oc3,vs3,t3,q3,f1,by rw[Au (neC _ _ f2)]; exact f2,hx _ _ nb f3,f4⟩
   .exact⟨c',oc,vs,t,q,z,AB,g1,g2,g3,hq⟩
  .refine(hok a u e).stay (fun d v hd q=>hx d v (fun z=>?_) q) (fun d q=>by rw[Au (neC d _ q)]; exact q) fun d xs q=>by rw[Au (neC d _ q)]; exact q
   rcases hd with hd|hd
   .exact hb (hd ▸ z)
   .rw[z,eP] at hd; cases hd
noncomputable abbrev Qh(q:Str)(params:Arguments)(body:Expr)(scope:Scope)(cl:List (Str×Addr))(pm:Value)(c':Addr)(ctv:Value):Obj:=kla_obj "<lambda>" q params body scope cl pm c' ctv
noncomputable abbrev Wx(params:Arguments)(body:Expr)(scope:Scope)(cl:List (Str×Addr))(pm:Value)(c':Addr)(ctv:Value):Obj:=kla_obj "<lambda>" Bt params body scope cl pm c' ctv
theorem Ov{ln lq:Str}(hm:(ln,lq)∈Ie){params:Arguments}{body:Expr}{scope:Scope}{pos:Pos}{c P:Addr}{cl:List (Str×Addr)}{Q:Value->Shared->Prop}(I:Inv X pins σ H s)(hcode:X.env.code=.ref c)(ht:tabIn X.K ln=some (c,P))(hh:codeHdIn X.K c P=true)(hq:X.env.qual ++ "<lambda>" = lq)(hdef:defaultsOf params X.env=([],[]))(hcl:closureFor scope X.env=pure cl)(h:∀f c' pm ctv h' tk H2,Inv X pins σ H2 { s with heap:=h',toks:=tk }->BW H H2->h'.get? f=some (Qh lq params body scope cl pm c' ctv)->h'.CodeRec (.ref c') lq->Q (.ref f) { s with heap:=h',toks:=tk }):
  wpAny (model X.prog X.w) X.A (eval (.Lambda params body scope pos) X.env) Q X.xe s:=by
 obtain⟨ps,eP,e0⟩:=I.tabs ln lq hm c P ht;obtain⟨qs,gP,tr,fc⟩:=I.hok P _ eP;have C:CodeHd s.heap c P:=codeHd_of_K I.kIn hh;obtain⟨bm,ob,b1,b2,b3,b4,b5,b6⟩:=I.mod.bmain;have g3:=I.bk _ _ b3;have hgs:s.heap.Ns mainGlobals X.mg:=I.mod.glob.keeps I.bk;have hgP:mainGlobals≠P:=fun q=>by
  obtain⟨o,es,ep,e,hd,_⟩:=hgs;rw[q,gP] at e; cases e; cases hd
 have hbP:bm≠P:=fun q=>by rw[q,gP] at g3; cases g3; cases b4
 have hbG:bm≠mainGlobals:=fun q=>by
  obtain⟨o,es,ep,e,hd,_⟩:=hgs;rw[q,e] at g3; cases g3; rw[hd] at b6; cases b6
 have hba:s.heap.BuiltinsAt X.mg P:=⟨bm,ob,b1,b2,hbG,hbP,g3,b4,b5,b6⟩;refine kla_eval hdef ?_;rw[hq];cases hnf:codeAmong pos qs.toList with
 | none =>
  refine kla_makeFunction hcl I.ok.glob hgs hcode C gP tr hnf hgP hba fun c' ctv h1 tk hx hge hlt hrec htb=>?_;have ok2:=Mv (q:=lq) I.hok eP gP tr hx htb hge hrec e0;have I2:=I.tabled (t':=tk) eP hx ⟨_,htb⟩ hge ok2;have I3:Inv X pins σ (upd H c' (.own P)) { s with heap:=h1.push (Qh lq params body scope cl ((X.mg "__name__").getD .none) c' ctv),toks:=tk }:=I2.kept (t':=tk) fun b o e=>Heap.get?_push_of_some _ e;refine h _ c' _ ctv _ tk _ I3 (J.CW (I.hok.fresh hge)) (Heap.get?_push_size _ rfl) ?_;obtain⟨c2,oc,vs,t,e1,e2,e3⟩:=hrec;exact⟨c2,oc,vs,t,e1,Heap.get?_push_of_some _ e2,e3⟩
 | some cv =>
  obtain⟨c',oc,vs,t,q,rfl,f2,f3,f4,f5,f6⟩:=fc pos cv hnf;rw[e0] at f6;have hqq:lq=q:=by
   have:=Option.some.inj f6;cases this; rfl
  subst hqq;refine kla_makeFunctionHit hcl I.ok.glob hgs hcode C gP tr hnf hba fun ctv h1 tk hk hsz=>?_;have I3:Inv X pins σ H { s with heap:=h1.push (Qh lq params body scope cl ((X.mg "__name__").getD .none) c' ctv),toks:=tk }:=I.kept (t':=tk) fun b o e=>Heap.get?_push_of_some _ (hk b o e);exact h _ c' _ ctv _ tk _ I3 (fun _ _ e=>e) (Heap.get?_push_size _ rfl) ⟨c',oc,vs,t,rfl,Heap.get?_push_of_some _ (hk _ _ f3),f4,f5⟩
theorem Qj{params:Arguments}{body:Expr}{scope:Scope}{pos:Pos}{c P:Addr}{cl:List (Str×Addr)}{Q:Value->Shared->Prop}(I:Inv X pins σ H s)(hcode:X.env.code=.ref c)(ht:tabIn X.K Kc=some (c,P))(hh:codeHdIn X.K c P=true)(hq:X.env.qual ++ "<lambda>" = Bt)(hdef:defaultsOf params X.env=([],[]))(hcl:closureFor scope X.env=pure cl)(h:∀f c' pm ctv h' tk H2,Inv X pins σ H2 { s with heap:=h',toks:=tk }->BW H H2->h'.get? f=some (Wx params body scope cl pm c' ctv)->h'.CodeRec (.ref c') Bt->Q (.ref f) { s with heap:=h',toks:=tk }):
  wpAny (model X.prog X.w) X.A (eval (.Lambda params body scope pos) X.env) Q X.xe s:=Ov UB I hcode ht hh hq hdef hcl h
end
end L2
end
section
namespace J
open PySem PySem.Spec PyProof.Rows L2 PySem.W
section
variable{P:Program}{w:World}{K:Frag}{mg:Str->Option Value}{base:Heap}
theorem RE{ln:Str}{f c b:Addr}{oc:Value}{od:Option Addr}{fd:FuncData}{osl:Array (Option Value)}(n:nsIn K mainGlobals ln=some (some (.ref f)))(lk:K.lookup f=some ⟨oc,od,.func fd,osl⟩)(t:tabIn K ln=some (c,b)):fd.code=.ref c:=by
 unfold tabIn at t;rw[n] at t;dsimp only at t;rw[lk] at t;dsimp only at t;split at t
 .rename_i c' hc
  split at t
  .split at t
   .cases t; exact hc
   .cases t
  .cases t
 .cases t
theorem Ud{ln:Str}{st:Stmt}{f c b:Addr}{fd:FuncData}{N ps:List Str}{k:Nat}{m:MS}(F:Fun K ln ln st f fd)(hn:nsIn K mainGlobals ln=some (some (.ref f)))(ht:tabIn K ln=some (c,b))(S:FnScope N ps (Ao st))(hb:∀(A:Around) (outer:List Env) (s:Shared) (H:Hp) (E:XK),Room k (A.deeper (envOfC ln (Ao st) s.heap.objs.size f (.ref c)))->JSs (A7 CX0 P w K mg base N ln (Ao st) f (.ref c) A outer s H E).nox (BO st) m):
  FnOk P w K mg base CX0 (k+1) f fd ps (spJ K (fnM ps.length N.length m) ps.length):=by
 obtain⟨oc,od,kV,doc,pm,an,cdv,ct,osl,rfl,lk,hcd⟩:=F.ex;have ec:cdv=.ref c:=RE hn lk ht;subst ec;refine Py lk hcd S (fun vs H Q E h=>?_) fun A outer s H vs Q E hr h=>?_
 .obtain⟨_,_,_,h,_⟩:=h
  exact h
 .have hl:vs.length=ps.length:=by
   obtain⟨_,_,_,h,_⟩:=h;exact h
  have:=JL h;refine⟨_,PSs.nox (hb A outer s H E hr),?_⟩;unfold L2.start;rw[hl];exact this
end
end J
end
section
namespace J
open PySem PySem.Spec PyProof.Rows L2
section
variable{X:Cx}{a b c e:Expr}{es:List Expr}{m m1 m2 m3:ME}{ms:MA}{p pos pos' p2 apos cpos q npos:Pos}{x:Str}
variable{K:Frag}{N:Addr->Prop}{H:Hp}{σ:L2.St}{v:V}{L:List Addr}
noncomputable def cutD(ds:List D)(lo hi:Option Int):List D:=(ds.drop (HT.sIx ds.length 0 lo)).take (HT.sIx ds.length ds.length hi-HT.sIx ds.length 0 lo)
noncomputable def Qn:List A->Option A:=on2 fun x q2=>(Bj q2).bind fun j=>(Co x).map fun ds=>.lst ((cutD ds none (some j)).map A.fz)
theorem QZ:∀{vs:List V} {ds:List D},Ap N H vs ds->vs.length=ds.length:=by
 intro vs;induction vs with
 | nil=>intro ds q; cases ds with|nil=>rfl|cons d ds=>simp only[Ap] at q
 | cons v vs ih=>intro ds q; cases ds with|nil=>simp only[Ap] at q|cons d ds=>simp[ih q.2]
theorem QX:∀{vs:List V} {ds:List D} (n:Nat),Ap N H vs ds->Ap N H (vs.drop n) (ds.drop n):=by
 intro vs;induction vs with
 | nil=>intro ds n q; cases ds with|nil=>cases n<;>exact q|cons d ds=>simp only[Ap] at q
 | cons v vs ih=>intro ds n q; cases ds with|nil=>simp only[Ap] at q|cons d ds=>cases n with|zero=>exact q|succ n=>exact ih n q.2
theorem QY:∀{vs:List V} {ds:List D} (n:Nat),Ap N H vs ds->Ap N H (vs.take n) (ds.take n):=by
 intro vs;induction vs with
 | nil=>intro ds n q; cases ds with|nil=>cases n<;>exact q|cons d ds=>simp only[Ap] at q
 | cons v vs ih=>intro ds n q; cases ds with|nil=>simp only[Ap] at q|cons d ds=>cases n with|zero=>simp only[List.take_zero]; exact trivial|succ n=>exact⟨q.1,ih n q.2⟩
theorem NU{vs:List V}{ds:List D}{lo hi:Option Int}(q:Ap N H vs ds):Ap N H (Oh vs lo hi) (cutD ds lo hi):=by
 unfold Oh cutD;rw[QZ q];exact QY _ (QX _ q)
theorem P6(ha:JE X a m1)(hb:JE X b m2):JE X (.Subscript a (.Slice none (some b) none p2) pos) (opM Qn (m2L m1 m2)):=by
 refine Az (LN N0 ha NP (NQ hb)) fun σ H Q h=>?_;have ok:OpN X.K Qn (r2L fun x y H Q=>∃j,y=.int j/\Vv X.K x none (some j) H Q):=by
  intro N H xs as b Q hs e k
  replace e:=B9 e
  obtain⟨x,q2,rfl,e⟩:=e
  replace e:=bind_eq_some_iff.mp e
  obtain⟨j,eq2,e⟩:=e;cases A1 eq2;clear eq2;simp only[map_eq_some_iff] at e;obtain⟨ds,e1,rfl⟩:=e;obtain⟨x,y,L1,L2,rfl,h1,h2⟩:=Bu hs;cases Ba h2;obtain⟨p,vs,rfl,hp,hz,q⟩:=CP h1 e1;refine⟨_,_,rfl,j,rfl,p,vs,rfl,.inl (.inl hp),fun l hl=>k _ _ (EM hl ?_ (NU q))⟩;exact Nat.le_trans (E9 _ _ _) hz
 exact tE.mono (two ok h) fun x H1 h1=>tE.mono h1 fun y H2 ⟨j,e,q⟩=>⟨j,e,q⟩
end
end J
end
section
namespace J
open PySem PySem.Spec PyProof.Rows L2
noncomputable abbrev MR:=Ro->Option Str
noncomputable abbrev FnR:=List (Own×A)->Option Str
noncomputable def WW(a:MS)(r:MR):MR:=fun Z=>(a Z).bind fun f=>match f with
 | .next Z1=>r Z1
 | _=>none
noncomputable def ifR(c:MT)(r:MR):MR:=fun Z=>(c Z).bind fun p=>if p.1 then r p.2 else none
noncomputable def M3(x:Str):MR:=fun _=>some x
noncomputable def DT:List (Own×A)->Bool
 | []=>true
 | (.own,.fz _)::as=>DT as
 | _=>false
noncomputable def Hk(Ψ:FnR)(m:MA):MR:=fun Z=>(m Z).bind fun p=>(Cw p.2 p.1).bind fun args=>if DT args then Ψ args else none
noncomputable def fnR(np nn:Nat)(r:MR):FnR:=fun args=>if args.length=np then r (args.map some++List.replicate (nn-np) none) else none
noncomputable def tR(K:Frag)(XC:Str->Addr)(E:XK)(r:MR):TS:=fun _ σ H=>∃Z O fp,Rel K Z σ H O fp/\∃x,r Z=some x/\∀H',Kept (Fp fp) H H'->E (.ref (XC x)) none H'
noncomputable def spR(K:Frag)(XC:Str->Addr)(Ψ:FnR)(np:Nat):Sp:=fun vs H _ E=>∃args O fp,vs.length=np/\Rel K (args.map some) (vs.map some) H O fp/\∃x,Ψ args=some x/\∀H',Kept (Fp fp) H H'->E (.ref (XC x)) none H'
section
variable{K:Frag}{XC:Str->Addr}{E:XK}{σ:L2.St}{H:Hp}{D:Ends}{r:MR}{a:MS}{c:MT}
theorem W7{u:TS}(h:tR K XC E (ifR c r) D σ H):VT (tT K c) (tR K XC E r) u D σ H:=by
 obtain⟨Z,O,fp,rl,x,e,k⟩:=h;simp only[ifR,bind_eq_some_iff] at e;obtain⟨⟨b,Z1⟩,e1,e2⟩:=e;cases b with
 | true =>
  refine⟨Z,O,fp,rl,true,Z1,e1,fun fp1 H1 p=>?_⟩;dsimp only;rw[if_pos rfl];exact⟨Z1,O,fp1,p.rel0,x,e2,fun H'' kk=>k H'' (p.kept.trans kk fun q hq=>p.new q (.inr hq))⟩
 | false=>cases e2
theorem Ri{C:Addr}{x:Str}{m:MA}{rs:List R}(hm:∀Z,m Z=some (rs,Z))(hl:rs.length<=8)(hC:XC x=C)(h:tR K XC E (M3 x) D σ H):Nd E C (tA K m) D σ H:=by
 obtain⟨Z,O,fp,rl,y,e,k⟩:=h;cases e;refine⟨Z,O,fp,rl,rs,Z,hm Z,fun vs H' q=>?_⟩;obtain⟨L,fp',p,q⟩:=q;refine⟨?_,?_⟩
 .have:∀{rs:List R} {vs:List V} {N:Addr->Prop} {L:List Addr},RRs K N H' σ vs rs L->vs.length=rs.length:=by
   intro rs;induction rs with
   | nil=>intro vs N L q; cases vs with|nil=>rfl|cons _ _=>simp only[RRs] at q
   | cons r rs ih =>
    intro vs N L q;cases vs with
    | nil=>simp only[RRs] at q
    | cons v vs =>
     simp only[RRs] at q;obtain⟨_,_,_,_,q2⟩:=q;simp[ih q2]
  have hs:8<=sizeLine:=by decide
  rw[this q]; lia
 .rw[<- hC]; exact k H' p.kept
theorem Mk{N:Addr->Prop}{Z:Ro}:∀{rs:List R} {args:List (Own×A)} {vs:List V} {L:List Addr},Cw Z rs=some args->DT args=true->RRs K N H σ vs rs L->args.length=vs.length/\∀(j:Nat) st a v,args[j]? = some (st,a)->vs[j]? = some v->∃d,a=.fz d/\RepA N H v d:=by
 intro rs;induction rs with
 | nil =>
  intro args vs L e _ q;cases vs with
  | nil=>cases e; exact⟨rfl,fun j st a v h=>by simp at h⟩
  | cons _ _=>simp only[RRs] at q
 | cons r rs ih =>
  intro args vs L e hp q;cases vs with
  | nil=>simp only[RRs] at q
  | cons v vs =>
   simp only[RRs] at q;obtain⟨L1,L2,_,q1,q2⟩:=q;simp only[Cw,bind_eq_some_iff,map_eq_some_iff] at e;obtain⟨a,e1,args',e2,rfl⟩:=e;obtain⟨st,a⟩:=a;cases st with
   | lent=>cases a<;>simp[DT] at hp
   | ro=>cases a<;>simp[DT] at hp
   | own =>
    cases a with
    | fz d =>
     simp only[DT] at hp;obtain⟨i1,i2⟩:=ih e2 hp q2;cases r with
     | val b =>
      cases e1;simp only[RR] at q1;rw[Am] at q1;refine⟨by simp[i1],fun j st a u h1 h2=>?_⟩
      cases j with
      | zero=>cases h1; cases h2; exact⟨d,rfl,q1.2⟩
      | succ j=>exact i2 j st a u (by simpa using h1) (by simpa using h2)
     | ref i =>
      simp only[E6] at e1;split at e1<;>cases e1
    | _=>simp[DT] at hp
theorem SX{np:Nat}{Ψ:FnR}{m:MA}{E':XK}(hE:E'=E)(hnp:∀args y,Ψ args=some y->args.length=np)(h:tR K XC E (Hk Ψ m) D σ H):JB (Jz (spR K XC Ψ np) [] E' (tA K m)) D σ H:=by
 subst hE;obtain⟨Z,O,fp,rl,x,e,k⟩:=h;simp only[Hk,bind_eq_some_iff] at e;obtain⟨⟨rs,Z1⟩,e1,args,e2,e3⟩:=e;split at e3
 .rename_i hp
  refine⟨Z,O,fp,rl,rs,Z1,e1,fun vs H1 q=>?_⟩;obtain⟨L,fp1,p,q⟩:=q;obtain⟨i1,i2⟩:=Mk e2 hp q;rw[List.append_nil];have nn:∀b,NN (fun _=>[]) (NN fp1 (ad O L)) b↔NN fp1 (ad O L) b:=fun b=>⟨fun z=>by
   rcases z with ⟨j,z⟩|z
   .simp at z
   .exact z,fun z=>.inr z⟩
  refine⟨args,NN fp1 (ad O L),fun _=>[],by rw[<- i1]; exact hnp _ _ e3,⟨by simp[i1],fun j st a ea=>?_,fun _ _=>rfl,fun _=>List.nodup_nil,fun i j b h=>by simp at h,fun i b h=>by simp at h,fun b z=>p.rel.al b ((nn b).mp z)⟩,x,e3,fun H' kk=>?_⟩
  .have hj:j<args.length:=by
    have:=Ay ea;simpa using this
   have ea':args[j]? = some (st,a):=by simpa using ea
   obtain⟨v,hv⟩:∃v,vs[j]? = some v:=⟨vs[j]'(by rw[<- i1]; exact hj),List.getElem?_eq_getElem _⟩;obtain⟨d,rfl,rd⟩:=i2 j st a v ea' hv;refine⟨v,by simp[hv],?_⟩;rw[Am];exact⟨rfl,Dh (fun b z=>(nn b).mp z) rd⟩
  .exact k H' (p.kept.trans kk fun b z=>by
    obtain⟨j,z⟩:=z;simp at z)
 .cases e3
theorem T3{np nn:Nat}{r:MR}{vs:List V}{Q:VK}(h:spR K XC (fnR np nn r) np vs H Q E):tR K XC E r D (vs.map some++List.replicate (nn-np) none) H:=by
 obtain⟨args,O,fp,hl,rl,x,e,k⟩:=h;simp only[fnR] at e;split at e
 .exact⟨_,O,fp,rl.start (nn-np),x,e,k⟩
 .cases e
theorem Nv{np nn:Nat}{r:MR}:∀args y,fnR np nn r args=some y->args.length=np:=fun args y e=>by
 unfold fnR at e;split at e
 .rename_i h; exact h
 .cases e
end
section
variable{X:Cx}{K:Frag}{XC:Str->Addr}{E:XK}{r:MR}{w1:MS}{s:Stmt}{ss st st':List Stmt}{mt:MT}{c:Expr}{pos:Pos}
noncomputable def JR(X:Cx)(XC:Str->Addr)(E:XK)(s:Stmt)(r:MR):Prop:=PS X s (tR X.K XC E r)
noncomputable def JRs(X:Cx)(XC:Str->Addr)(E:XK)(ss:List Stmt)(r:MR):Prop:=PSs X ss (tR X.K XC E r)
theorem Ia(h:JR X XC E s r):JRs X XC E (s::ss) r:=
 IB (LO h (show PSs X ss (fun _ _ _=>False) from fun _ _ _ _ _ _ h=>h.elim)) fun _ _ _ h=>h
theorem Wv(hc:JT X c mt)(ha:JRs X XC E st r):JR X XC E (.If c st st' pos) (ifR mt r):=
 Cd (Tp hc ha (show PSs X st' (fun _ _ _=>False) from fun _ _ _ _ _ _ h=>h.elim)) fun _ _ _ h=>W7 h
end
section
variable{P:Program}{w:World}{K:Frag}{mg:Str->Option Value}{base:Heap}{XC:Str->Addr}
theorem PB{x qual:Str}{st:Stmt}{f:Addr}{fd:FuncData}{N ps:List Str}{k:Nat}{r:MR}(F:Fun K x qual st f fd)(S:FnScope N ps (Ao st))(hb:∀(cdv:Value) (A:Around) (outer:List Env) (s:Shared) (H:Hp) (E:XK),Room k (A.deeper (envOfC qual (Ao st) s.heap.objs.size f cdv))->JRs (A7 (Fly P w) P w K mg base N qual (Ao st) f cdv A outer s H E) XC E (BO st) r):
  FnOk P w K mg base (Fly P w) (k+1) f fd ps (spR K XC (fnR ps.length N.length r) ps.length):=by
 refine F.okF S (fun vs H Q E h=>?_) fun cdv A outer s H vs Q E hr h=>⟨_,hb cdv A outer s H E hr,?_⟩
 .obtain⟨_,_,_,h,_⟩:=h
  exact h
 .have hl:vs.length=ps.length:=by
   obtain⟨_,_,_,h,_⟩:=h;exact h
  have:=T3 (D:={ nx:=fun _ H'=>Q .non H',rt:=Q }) h;unfold L2.start;rw[hl];exact this
section
variable{N:List Str}{qual:Str}{scope:Scope}{f:Addr}{cd:Value}{A:Around}{outer:List Env}{s:Shared}{H:Hp}{E:XK}
theorem Qb{x:Str}{C:Addr}{np cpos pos:Pos}{e:Expr}{z:Str}{k:Nat}(X:Exc K mg x C)(hC:XC x=C)(hr:Room k (A.deeper (envOfC qual scope s.heap.objs.size f cd)))(hg:Gl (A7 (Fly P w) P w K mg base N qual scope f cd A outer s H E) x)(hdb:(x==("__debug__" : Str))=false)(he:starEach [e] (A7 (Fly P w) P w K mg base N qual scope f cd A outer s H E).env=(false,eval e (A7 (Fly P w) P w K mg base N qual scope f cd A outer s H E).env)::starEach [] (A7 (Fly P w) P w K mg base N qual scope f cd A outer s H E).env)(hpl:(backTo cpos (starEach [] (A7 (Fly P w) P w K mg base N qual scope f cd A outer s H E).env)).any (·.1)=false)(ha:JE (A7 (Fly P w) P w K mg base N qual scope f cd A outer s H E) e (Ag (.str z))):
  JR (A7 (Fly P w) P w K mg base N qual scope f cd A outer s H E) XC E (.Raise (some (.Call (.Name x np) [e] [] cpos)) none pos) (M3 x):=
 Cd (OM X hr hg hdb he hpl (Aa he ha Af)) fun _ _ _ h=>Ri (rs:=[.val (.fz (.str z))]) (fun _=>rfl) (show 1<=8 by decide) hC h
theorem RW{g:Str}{k j np:Nat}{ps:List Str}{Ψ:FnR}{ms:MA}{p cpos pos:Pos}{e:Expr}{es:List Expr}(D:Def P w K mg base (Fly P w) k g ps (spR K XC Ψ np))(hnp:∀args y,Ψ args=some y->args.length=np)(hr:Room j (A.deeper (envOfC qual scope s.heap.objs.size f cd)))(hkj:k<=j)(hs:swapsWith (.Call (.Name g p) (e::es) [] cpos) none pos.line (A7 (Fly P w) P w K mg base N qual scope f cd A outer s H E).env=pure false)(hdb:(g==("__debug__" : Str))=false)(hg:Gl (A7 (Fly P w) P w K mg base N qual scope f cd A outer s H E) g)(he:starEach (e::es) (A7 (Fly P w) P w K mg base N qual scope f cd A outer s H E).env=(false,eval e (A7 (Fly P w) P w K mg base N qual scope f cd A outer s H E).env)::starEach es (A7 (Fly P w) P w K mg base N qual scope f cd A outer s H E).env)(hpl:(backTo cpos (starEach es (A7 (Fly P w) P w K mg base N qual scope f cd A outer s H E).env)).any (·.1)=false)(ha:JA (A7 (Fly P w) P w K mg base N qual scope f cd A outer s H E) (e::es) ms):
  JR (A7 (Fly P w) P w K mg base N qual scope f cd A outer s H E) XC E (.Expr (.Call (.Name g p) (e::es) [] cpos) pos) (Hk Ψ ms):=
 Cd (GI (MW (X:=A7 (Fly P w) P w K mg base N qual scope f cd A outer s H E) (E:=E) D hr hkj (Qz fun _ _ _ h=>h) ha hg hdb he hpl) hs) fun _ _ _ h=>SX rfl hnp h
end
end
end J
end
section
namespace PySem
section
variable{M:Model}{A:Around}{E:Value->Shared->Prop}
variable{nm q nm' q':Str}{C N B N':Addr}{bs bm bs' bm':List Value}{hdct hdct':Bool}{sn sn':List Str}{sub sub':List Value}{ab ab':Bool}{col col':Option Bool}{dd dd':Option Addr}{k0 k1 k2 k3 k5 j0 j1 j2 j3 j5:Option Value}{newId newId':String}
theorem GU{h:Heap}{g:Array GenState}{d:Drawn}{t:Nat}{os:OsState}{e:Addr}{oe:Obj}{Q:Bool->Shared->Prop}(hC:h.get? C=some (excClassObj nm q C N bs bm hdct sn sub ab col dd k0 k1 k2 k3 k5 newId))(hB:h.get? B=some (excClassObj nm' q' B N' bs' bm' hdct' sn' sub' ab' col' dd' j0 j1 j2 j3 j5 newId'))(he:h.get? e=some oe)(hcls:oe.cls=.ref C)(hbase:bm'.contains (.type "BaseException")=true)(hm:bm.contains (.ref B)=true)(hq:Q true ⟨h,g,d,t,os⟩):wpAny M A (excMatches (.ref e) (.ref B)) Q E ⟨h,g,d,t,os⟩:=by
 have hcB:(Value.ref B::bm').contains (.type "BaseException")=true:=by rw[List.contains_cons,hbase,Bool.or_true]
 have hcC:(Value.ref C::bm).contains (.ref B)=true:=by rw[List.contains_cons,hm,Bool.or_true]
 have f:=tc_notTuple;unfold excMatches;repeat (first|(with_reducible refine wpAny_loadPart_at he ?_; rw[hcls])|with_reducible refine wpAny_loadPart_at hB ?_|(with_reducible refine wpAny_isSubtype_exc hB ?_; rw[hcB])|(with_reducible refine wpAny_isSubtype_exc hC ?_; rw[hcC])|wp_step)
 exact hq
end
noncomputable def Above(h:Heap)(C B:Addr):Prop:=∃(nm q nm' q':Str) (N N':Addr) (bs bm bs' bm':List Value) (hd hd':Bool) (sn sn':List Str) (sub sub':List Value) (ab ab':Bool) (col col':Option Bool) (dd dd':Option Addr) (k0 k1 k2 k3 k5 j0 j1 j2 j3 j5:Option Value) (nid nid':String),
 h.get? C=some (excClassObj nm q C N bs bm hd sn sub ab col dd k0 k1 k2 k3 k5 nid)/\h.get? B=some (excClassObj nm' q' B N' bs' bm' hd' sn' sub' ab' col' dd' j0 j1 j2 j3 j5 nid')/\bm'.contains (.type "BaseException")=true/\bm.contains (.ref B)=true
section
variable{prog:Program}{w:World}{A:Around}{E:Value->Shared->Prop}{s:Shared}{env:Env}
theorem Gw{e C B:Addr}{t:Expr}{n:Str}{b₀:Stmt}{suite:List Stmt}{pos:Pos}{rest:List ExceptHandler}{Q:Flow->Shared->Prop}(h:wpAny (model prog w) (A.mark (some (.ref e))) (eval t env) (fun c s₁=>c=.ref B/\Above s₁.heap C B/\(∃oe,s₁.heap.get? e=some oe/\oe.cls=.ref C) /\
   wpAny (model prog w) (A.mark (some (.ref e))) (setFlight (.ref e) none) (fun _ s₂ =>
     wpAny (model prog w) (A.mark (some (.ref e))) (storeName env n (.ref e)) (fun _ s₃ =>
      wpAny (model prog w) (A.mark (some (.ref e))) (execs (b₀::suite) env)
       (fun f s₄=>wpAny (model prog w) A (do bindName env n .none; unbindBehindTheSuite env n pos) (fun _ s₅=>Q f s₅) E s₄)
       (AsSuiteRaised (model prog w) (A.mark (some (.ref e))) env n pos (notedBy (model prog w) (A.mark (some (.ref e))) env (cameBackBy (model prog w) A env E))) s₃) (notedBy (model prog w) (A.mark (some (.ref e))) env (cameBackBy (model prog w) A env E)) s₂) (notedBy (model prog w) (A.mark (some (.ref e))) env (cameBackBy (model prog w) A env E)) s₁) (notedBy (model prog w) (A.mark (some (.ref e))) env (cameBackBy (model prog w) A env E)) s):
  wpAny (model prog w) A (handleBy (.ref e) env (.ExceptHandler (some t) (some n) (b₀::suite) pos::rest)) Q E s:=by
 refine wpAny_handleBy_cons (codeAny_handlers_test (wpAny_mono h (fun c s₁ h₁=>?_) fun _ _ y=>y)) (by intro q; cases q);obtain⟨rfl,⟨_,_,_,_,_,_,_,_,_,_,_,_,_,_,_,_,_,_,_,_,_,_,_,_,_,_,_,_,_,_,_,_,_,_,hC,hB,hb,hm⟩,⟨oe,he,hcls⟩,hk⟩:=h₁;obtain⟨hh,g,d,tk,os⟩:=s₁;exact GU hC hB he hcls hb hm (codeAny_handlers_suite_as hk)
end
end PySem
end
section
namespace L2
open PySem PySem.Spec PyProof.Rows
section
variable{P:Program}{w:World}{outer:List Env}{H H':Hp}{s s':Shared}{a C:Addr}{a0:Value}{B:Heap}
theorem FlyAt.on{h':Heap}(F:FlyAt P w outer H s a C a0 B H' s')(hd:∀b∈frs outer,∀o,s.heap.get? b=some o->∀vs,o.data≠.fields vs)(fl:Heap.FlyingW B outer a (.ref C) a0 h')(sm:s'.heap.UpToSlots h')(pl:AW h' a):FlyAt P w outer H s a C a0 B H' { s' with heap:=h' }:=
 ⟨F.os,F.bare,fl,F.keep,fun b o e n hb=>by
  obtain⟨sl,e1⟩:=F.slot b o e n hb;obtain⟨sl2,e2⟩:=sm b { o with slots:=sl } e1 (hd b hb o e);exact⟨sl2,e2⟩,F.free,F.there,F.tups,F.frzs,F.tbls,F.hok,pl⟩
theorem FlyAt.un(F:FlyAt P w outer H s a C a0 B H' s')(ht:∀b∈frs outer,∀o,s.heap.get? b=some o->H b=none):Un (frs outer) [] H H' s.heap s'.heap/\HOk P w H' s'.heap:=by
 have st:∀b o,B.get? b=some o->s'.heap.get? b=some o:=F.fly.1;refine⟨⟨fun b o e n hb _=>st b o (F.keep b o e n hb),fun b o e n hb _=>F.slot b o e n hb,fun b o e n _=>F.free b o e n,fun b o e _=>?_,F.tups,F.frzs,F.tbls⟩,F.hok.kept st⟩;by_cases hb:b∈frs outer
 .obtain⟨sl,e1⟩:=F.slot b o e (ht b hb o e) hb
  exact⟨_,e1⟩
 .obtain⟨o',e1⟩:=F.there b o e hb
  exact⟨o',st b o' e1⟩
end
section
variable{X:Cx}{pins:List (Addr×Obj)}{σ:St}{H H':Hp}{s s':Shared}{a C:Addr}{a0:Value}{B:Heap}
theorem Inv.landed(I:Inv X pins σ H s)(F:FlyAt X.prog X.w X.stack H s a C a0 B H' s'):Inv X pins σ H' s':=by
 have e0:=I.env0;obtain⟨u,hok⟩:=F.un fun b hb o e=>e0.frf b hb;obtain⟨v,H1,J,_,q⟩:=I.after (Q:=fun _ H1=>H1=H') (u:=.none) (s':=s') ⟨.non,H',F.os,F.bare,u,hok,rfl,rfl⟩;subst q;exact J
theorem lands{env:Env}{outer:List Env}{L:Addr}{E:Value->Shared->Prop}{R:Shared->Prop}(I:Inv X pins σ H s)(hs:X.stack=env::outer)(hf:env.frame=some L)(F:FlyAt X.prog X.w X.stack H s a C a0 B H' s')(h:∀s3,FlyAt X.prog X.w X.stack H s a C a0 B H' s3->R s3):
  wpAny (model X.prog X.w) X.A (noteFrame (.ref a) env) (fun _ s2=>wpAny (model X.prog X.w) X.A (setFlight (.ref a) none) (fun _ s3=>R s3) E s2) E s':=by
 have e0:=I.env0;have hd:∀b∈frs X.stack,∀o,s.heap.get? b=some o->∀vs,o.data≠.fields vs:=fun b hb o e=>Dq e0.funs hb e;have fr:=e0.frames;have fl:=F.fly;rw[hs] at fr fl;refine LB fr hf fl F.pl fun h1 held sm1 pl1=>?_;refine F8 held.1 held.2.1 held.2.2.1 held.2.2.2 pl1 fun h2 fl2 sm2 pl2=>?_;rw[<- hs] at fl2;exact h _ (F.on hd fl2 (sm1.trans sm2) pl2)
end
section
variable{X:Cx}{body:List Stmt}{h0:ExceptHandler}{hs:List ExceptHandler}{pos:Pos}{t:TS}
noncomputable def Pk(X:Cx)(pins:List (Addr×Obj))(D:Ends)(hs:List ExceptHandler):Value->Shared->Prop:=fun e s1 =>
 wpAny (model X.prog X.w) X.A (noteFrame e X.env) (fun _ s2=>wpAny (model X.prog X.w) X.A (setFlight e none) (fun _ s3=>wpAny (model X.prog X.w) X.A (handleBy e X.env hs) (SP X pins D) X.xe s3) X.xe s2) X.xe s1
theorem S2{pins:List (Addr×Obj)}{s:Shared}{σ:St}{H:Hp}{D:Ends}(hb:wpAny (model X.prog X.w) X.A (execs body X.env) (SP X pins D) (Pk X pins D (h0::hs)) s):
  wpAny (model X.prog X.w) X.A (exec (.Try body (h0::hs) [] [] pos) X.env) (SP X pins D) X.xe s:=by
 refine wpAny_Try_except (wpAny_mono hb (fun f s1 q=>?_) fun e s1 q=>q);cases f with
 | next=>exact wpAny_execs_nil q
 | brk=>exact q
 | cont=>exact q
 | ret u=>exact q
theorem Je{P:Program}{w:World}{env:Env}{outer:List Env}{L:Addr}{pins:List (Addr×Obj)}{D:Ends}{E:XK}(hP:X.prog=P)(hw:X.w=w)(he:X.env=env)(hs':X.stack=env::outer)(hf:env.frame=some L)(h:∀(σ:St) (H H':Hp) (s s3:Shared) (a C:Addr) (a0:Value) (B:Heap),Inv X pins σ H s->FlyAt P w X.stack H s a C a0 B H' s3->Inv X pins σ H' s3->E (.ref C) none H'->wpAny (model P w) X.A (handleBy (.ref a) env (h0::hs)) (SP X pins D) X.xe s3):
  ∀(σ:St) (H:Hp) (s:Shared) (e:Value) (s':Shared),Inv X pins σ H s->Fly P w X.stack H s E e s'->Pk X pins D (h0::hs) e s':=by
 subst hP hw he;intro σ H s e s' I fl;obtain⟨a,C,a0,B,H',rfl,F,q⟩:=fl;exact lands I hs' hf F fun s3 F3=>h σ H H' s s3 a C a0 B I F3 (I.landed F3) q
end
section
variable{X:Cx}{pins:List (Addr×Obj)}{σ:St}{H H':Hp}{s s':Shared}{a C:Addr}{a0:Value}{B:Heap}
theorem FlyAt.fresh{P:Program}{w:World}{K:Frag}{mg:Str->Option Value}{base:Heap}{A:Around}{outer:List Env}(e0:Env0 P w K mg base A outer s H)(F:FlyAt P w outer H s a C a0 B H' s'):s.heap.get? a=none:=by
 cases hs:s.heap.get? a with
 | none=>rfl
 | some o =>
  by_cases hb:a∈frs outer
  .obtain⟨sl,e1⟩:=F.slot a o hs (e0.frf a hb) hb
   obtain⟨oe,vs,e2,_,hd,_⟩:=F.fly.first;rw[e1] at e2;cases e2;exact absurd hd (Dq e0.funs hb hs vs)
  .obtain⟨o',e1⟩:=F.there a o hs hb
   rw[F.fly.2.1] at e1; cases e1
theorem Inv.track{s1:Shared}{o:Obj}(I0:Inv X pins σ H s)(I:Inv X pins σ H' s1)(h0:s.heap.get? a=none)(hn:H' a=none)(ho:s1.heap.get? a=some o):Inv X pins σ (upd H' a (.frz o (.own a))) s1:=by
 have ne:∀b u,s.heap.get? b=some u->b≠a:=fun b u e z=>by rw[z,h0] at e; cases e
 have neH:∀b u,H' b=some u->b≠a:=fun b u e z=>by rw[z,hn] at e; cases e
 have u:=I.base;obtain⟨m0,n0,_⟩:=I0.loc;refine⟨I.ok,I.os,I.bare,⟨u.keep,u.slot,fun b ob e n hx=>?_,u.there,fun b xs e=>?_,fun b ob v e=>?_,fun b qs e=>?_⟩,I.loc,I.cell,?_,fun x c hc=>?_,fun q hq=>?_,fun b v e=>?_,I.len⟩
 .by_cases hb:b∈X.ex
  .exact absurd hb hx
  .obtain⟨o',e'⟩:=I0.base.there b ob e hx
   rw[Au (ne b o' e')];exact u.free b ob e n hx
 .have:=u.tups b xs e
  rw[Au (neH b _ this)]; exact this
 .have:=u.frzs b ob v e
  rw[Au (neH b _ this)]; exact this
 .obtain⟨more,this⟩:=u.tbls b qs e
  exact⟨more,by rw[Au (neH b _ this)]; exact this⟩
 .obtain⟨ol,es,ep,el,_⟩:=n0
  rw[Au (ne _ ol el)]; exact I.free
 .obtain⟨v,hv⟩:=I0.cell x c hc
  obtain⟨oc,ec,_⟩:=hv;rw[Au (ne _ oc ec)]; exact I.freeC x c hc
 .obtain⟨e1,e2,e3⟩:=I.pin q hq
  obtain⟨f1,_⟩:=I0.pin q hq;exact⟨e1,by rw[Au (ne _ _ f1)]; exact e2,e3⟩
 .by_cases hb:b=a
  .subst hb
   rw[AB] at e; cases e;exact⟨ho,_,ho⟩
  .rw[Au hb] at e
   exact(I.hok b v e).stay (fun d v' _ q=>q) (fun d q=>by rw[Au (neH d _ q)]; exact q) fun d xs q=>by rw[Au (neH d _ q)]; exact q
end
end L2
end
section
namespace PySem
theorem Above.keeps{h h':Heap}{C B:Addr}(x:Above h C B)(k:∀b o,h.get? b=some o->h'.get? b=some o):Above h' C B:=by
 obtain⟨a1,a2,a3,a4,a5,a6,a7,a8,a9,b0,b1,b2,b3,b4,b5,b6,b7,b8,b9,c0,c1,c2,c3,c4,c5,c6,c7,c8,c9,d0,d1,d2,d3,d4,hC,hB,q⟩:=x;exact⟨a1,a2,a3,a4,a5,a6,a7,a8,a9,b0,b1,b2,b3,b4,b5,b6,b7,b8,b9,c0,c1,c2,c3,c4,c5,c6,c7,c8,c9,d0,d1,d2,d3,d4,k _ _ hC,k _ _ hB,q⟩
end PySem
namespace L2
open PySem PySem.Spec PyProof.Rows
section
variable{X:Cx}{pins:List (Addr×Obj)}{σ:St}{H H':Hp}{s s3:Shared}{a C:Addr}{a0:Value}{B:Heap}
theorem Inv.forget{h':Heap}{t':Nat}{m':Str->Option Value}(I:Inv X pins σ H s)(hn':h'.Ns X.env.locals m')(hs:Heap.SameBut X.env.locals s.heap h'):Inv X pins (List.replicate X.N.length none) H { s with heap:=h',toks:=t' }:=by
 have cne:=I.cne;refine⟨I.ok,I.os,I.bare,⟨fun b o e n hb hx=>?_,fun b o e n hb hx=>?_,I.base.free,fun b o e hx=>?_,I.base.tups,I.base.frzs,I.base.tbls⟩,⟨_,hn',fun j y v' e1 e2 e3=>?_⟩,fun y c e=>?_,I.free,I.freeC,fun p hp=>?_,fun b ob e=>?_,by simp⟩
 .exact(hs.2 b (Nat.ne_of_lt (Nat.lt_of_lt_of_le (Heap.lt_size e) I.ok.above))).trans (I.base.keep b o e n hb hx)
 .obtain⟨sl,e1⟩:=I.base.slot b o e n hb hx
  exact⟨sl,(hs.2 b (Nat.ne_of_lt (Nat.lt_of_lt_of_le (Heap.lt_size e) I.ok.above))).trans e1⟩
 .obtain⟨o',e1⟩:=I.base.there b o e hx
  exact⟨o',(hs.2 b (Nat.ne_of_lt (Nat.lt_of_lt_of_le (Heap.lt_size e) I.ok.above))).trans e1⟩
 .rw[List.getElem?_replicate] at e2
  split at e2<;>cases e2
 .obtain⟨w',z⟩:=I.cell y c e
  exact⟨w',z.sameBut hs (cne y c e)⟩
 .obtain⟨e,n,ne,nf,d⟩:=I.pin p hp
  exact⟨(hs.2 p.1 ne).trans e,n,ne,nf,d⟩
 .have hfree:=I.free
  refine(I.hok b ob e).stay (fun c w' hc q=>(hs.2 c ?_).trans q) (fun _ q=>q) fun _ _ q=>q;rintro rfl;rcases hc with hc|hc
  .rw[<- hc,hfree] at e; cases e
  .rw[hfree] at hc; cases hc
theorem Mu{HE:Addr}{y n:Str}{i:Nat}{e:Expr}{tp rp hpos:Pos}{D:Ends}(hN:X.N.Nodup)(hi:X.N[i]? = some n)(hx:X.env.scope.names.lookup n=some .local)(hk:X.env.kindOf n=some .local)(hg:Gl X y)(hm:X.mg y=some (.ref HE))(hdb:(y==("__debug__" : Str))=false)(hab:Above X.base C HE)(I0:Inv X pins σ H s)(F:FlyAt X.prog X.w X.stack H s a C a0 B H' s3)(hn:H' a=none)(he:∀(oe:Obj) (vs:Array Value) (s5:Shared),oe.cls=.ref C->oe.data=.fields vs->vs[2]? = some .none->Inv X pins (σ.set i (some (.ref a))) (upd H' a (.frz oe (.own a))) s5->wpAny (model X.prog X.w) (X.A.mark (some (.ref a))) (eval e X.env) (fun u s6=>∃v σ6 H6,Inv X pins σ6 H6 s6/\RelV v u/\D.rt v H6) (fun _ _=>False) s5):
  wpAny (model X.prog X.w) X.A (handleBy (.ref a) X.env [.ExceptHandler (some (.Name y tp)) (some n) [.Return (some e) rp] hpos]) (SP X pins D) X.xe s3:=by
 have I3:=I0.landed F;have e0:=I0.env0;have hd:∀b∈frs X.stack,∀o,s.heap.get? b=some o->∀vs,o.data≠.fields vs:=fun b hb o e=>Dq e0.funs hb e;refine Gw (C:=C) (B:=HE) (Calls.Name_function_global I3.ok.kind hg (Calls.loadGlobal_global (by rw[I3.ok.glob]; exact I3.mod.glob.keeps I3.bk) hm ⟨rfl,hab.keeps I3.bk,F.fly.there,?_⟩) hdb);refine Lw F.fly F.pl fun h4 fl4 sm4 pl4=>?_;have F4:=F.on hd fl4 sm4 pl4;have I4:=I0.landed F4;obtain⟨oe,hoe,hcls⟩:=fl4.there;obtain⟨oe',vs,q1,q2,q3⟩:=pl4;rw[hoe] at q1;cases q1;have I4':=Inv.track I0 I4 (F.fresh e0) hn hoe;refine Fy (v:=.ref a) I4' hN hi (.inl hx) rfl (fun s5 I5=>?_) (.inr hx);refine wpAny_execs_cons (wpAny_Return_some (wpAny_mono (he oe vs s5 hcls q2 q3 I5) (fun u s6 yy=>?_) fun _ _ z=>z.elim));obtain⟨v,σ6,H6,I6,r,q⟩:=yy;obtain⟨m6,n6,_⟩:=id I6.loc;refine wpAny_nameGoes hk n6 (by rw[I6.ok.kind]; rfl) fun h7 m7 n7 sb7=>?_;exact⟨v,_,H6,I6.forget n7 sb7,r,q⟩
end
end L2
end
section
namespace L2
open PySem PySem.Spec PyProof.Rows
theorem IU:entryFor table "proto.unchain" = some Builtin.«proto.unchain»:=entryFor_of_tree (by kernel_rfl)
section
variable{prog:Program}{w:World}{A:Around}{E:Value->Shared->Prop}{s:Shared}
theorem Kz{α:Type}{h e:Addr}{oe:Obj}{ve:Array Value}{Q:α -> Shared->Prop}(hh:A.handled=some (.ref h))(ne:h≠e)(hp:AW s.heap h)(he:s.heap.get? e=some oe)(hde:oe.data=.fields ve)(h2:2<ve.size)(k:E (.ref e) { s with heap:=s.heap.update e (Obj.mapFields (·.setIfInBounds 2 (.ref h))) }):wpAny (model prog w) A (raiseNew (α:=α) (.ref e)) Q E s:=by
 obtain⟨oh,vh,ho,hd,hc⟩:=hp;simp only[raiseNew];refine wpAny_bind (wpAny_handled ?_);rw[hh];have hne:(Value.ref h != Value.ref e)=true:=by
  rw[bne_iff_ne];intro z;injection z with z
  exact ne z
 show wpAny _ _ (if (Value.ref h != Value.ref e)=true then _ else _) _ _ _;rw[if_pos hne];refine wpAny_bind (wpAny_holding (runValue_entry IU ?_));unfold Builtin.«proto.unchain»;refine wpAny_bind (wpAny_field ho hd hc ?_);refine wpAny_pure ⟨_,rfl,?_⟩;unfold updateField;refine wpAny_bind (wpAny_bind (wpAny_load he ?_));rw[hde];show wpAny _ _ (if 2<ve.size then _ else _) _ _ _;rw[if_pos h2];exact wpAny_update he (wpAny_throw k)
end
section
variable{prog:Program}{w:World}{A:Around}{E:Value->Shared->Prop}{s:Shared}
theorem Ha{it a:Addr}{x left step:Int}{Q:Option Value->Shared->Prop}(hh:A.handled=some (.ref a))(hp:AW s.heap a)(hit:IsRangeIter s.heap it x left step)(hleft:left<=0)(hQ:∀h',(∀b o,s.heap.get? b=some o->h'.get? b=some o)->Q none { s with heap:=h' }):wpAny (model prog w) A (pyNext (.ref it)) Q E s:=by
 have hT:s.TypeIs (.ref it) "range_iterator" := ⟨_,hit,rfl⟩;unfold pyNext;refine wpAny_bind (wpAny_attempt (wpAny_callSpecial?_slot (name:=Str.ofString "__next__") hT F.slot_range_iterator_next
  (wpAny_call_entry F.slot_range_iterator_next hT F.entry_range_iterator_next ?_ (F.args_range_iterator_next_1 _))))
 show wpAny _ _ (field (.ref it) 0 >>= _) _ _ s;refine wpAny_bind (wpAny_field hit rfl (x:=rawInt x) rfl ?_);show wpAny _ _ (field (.ref it) 1 >>= _) _ _ s;refine wpAny_bind (wpAny_field hit rfl (x:=rawInt left) rfl ?_);show wpAny _ _ (field (.ref it) 2 >>= _) _ _ s;refine wpAny_bind (wpAny_field hit rfl (x:=rawInt step) rfl ?_);show wpAny _ _ (if left<=0 then _ else _) _ _ s;rw[if_pos hleft];refine wpAny_bind (wpAny_rule ?_);refine wpAny_bind ?_;show wpAny _ _ (newExc (.type "StopIteration") [] >>= _) _ _ _;refine wpAny_bind ?_;simp only[newExc,newTuple];refine wpAny_bind (wpAny_newObj_type ?_ (by size_fits));refine wpAny_bind (m:=firstArgMember _ _) (wpAny_of_eq (a:=Value.none) (by first|rfl|(simp only[firstArgMember]; rfl)) ?_);refine wpAny_newObj_type ?_ (by size_fits);have hlt:=hp.lt;have kk:∀(o1 o2:Obj) b o,s.heap.get? b=some o->((s.heap.push o1).push o2).get? b=some o:=fun o1 o2 b o e=>Heap.get?_push_of_some _ (Heap.get?_push_of_some _ e);refine Kz (h:=a) hh (fun z=>?_) (hp.keeps (kk _ _)) (Heap.get?_push_size _ rfl) rfl (by simp[ownMembersOf]) ?_
 .have:((s.heap.push { cls:=.type "tuple",data:=.seq ([]:List Value).toArray }).objs.size:Nat)=s.heap.objs.size+1:=Heap.size_push ..
  lia
 refine wpAny_bind (wpAny_isInstance (T := "StopIteration") (b:=true) ⟨_,Heap.get?_update_self _ (Heap.get?_push_size _ rfl) rfl,rfl⟩ isSubtype_stop ?_);refine wpAny_pure (hQ _ fun b o e=>?_);refine(Heap.get?_update_other _ _ fun z=>?_).trans (kk _ _ b o e);have hb:=Heap.lt_size e;have:((s.heap.push { cls:=.type "tuple",data:=.seq ([]:List Value).toArray }).objs.size:Nat)=s.heap.objs.size+1:=Heap.size_push ..;lia
end
end L2
end
section
namespace J
open PySem PySem.Spec PyProof.Rows L2
section
variable{X:Cx}{a b c e:Expr}{es:List Expr}{m m1 m2 m3:ME}{ms:MA}{p pos pos' p2 apos cpos q npos:Pos}{x:Str}
variable{K:Frag}{N:Addr->Prop}{H:Hp}{σ:L2.St}{v:V}{L:List Addr}
noncomputable def RM:List A->Option A:=on2 fun a q2=>(Hy q2).bind fun _u=>some (.fz (.bl (En a)))
theorem Qu:OpN K RM (r2L fun x y H Q=>y=.non/\Q (.bl (decide (x=.non))) H):=by
 intro N H xs as b Q hs e k
 replace e:=B9 e
 obtain⟨a,q2,rfl,e⟩:=e
 replace e:=bind_eq_some_iff.mp e
 obtain⟨_u,eq2,e⟩:=e;cases R5 eq2;clear eq2;cases e;obtain⟨x,y,L1,L2,rfl,h1,h2⟩:=Bu hs;obtain⟨_,h2⟩:=EO.mp h2;cases h2;refine⟨_,_,rfl,rfl,k _ _ ?_⟩;have:decide (x=V.non)=En a:=by
  cases a with
  | fz d =>
   obtain⟨_,h1⟩:=EO.mp h1;cases h1<;>simp[En]
  | lst as=>rw[Am] at h1; obtain⟨_,_,_,rfl,_⟩:=h1; simp[En]
  | tup as=>rw[Am] at h1; obtain⟨_,_,rfl,_⟩:=h1; simp[En]
  | scr ns=>rw[Am] at h1; obtain⟨_,rfl,_⟩:=h1; simp[En]
  | dic kvs=>rw[Am] at h1; obtain⟨_,_,rfl,_⟩:=h1; simp[En]
  | dct kvs=>rw[Am] at h1; obtain⟨_,_,rfl,_⟩:=h1; simp[En]
  | opq _ _=>rw[Am] at h1; obtain⟨rfl,_⟩:=h1; simp[En]
 rw[this];exact Gf (.bl _)
noncomputable def TR:List A->Option A:=F5 (fun _ _=>true) fun i j=>i+j
noncomputable def Xj(i:Nat)(m:ME):MS:=A9 i (opM TR (m2L (Ad i) m))
end
end J
end
section
namespace L2
open PySem PySem.Spec PyProof.Rows
section
variable{X:Cx}{pins:List (Addr×Obj)}{σ:St}{H:Hp}{s:Shared}
noncomputable abbrev withN(X:Cx)(N':List Str):Cx:={ X with N:=N' }
noncomputable def Jr(N' N:List Str)(sco:Scope):Bool:=(N'.length==N.length)&&(N'.zip N).all fun p=>p.1==p.2 || (sco.names.lookup p.1).isNone
theorem RJ:∀{N' N:List Str} {sco:Scope},Jr N' N sco=true->∀(i:Nat) (x:Str),N'[i]? = some x->Vis sco x->N[i]? = some x:=by
 intro N' N sco h i x e v;simp only[Jr,Bool.and_eq_true,beq_iff_eq,List.all_eq_true] at h;obtain⟨hl,ha⟩:=h;have hi:i<N'.length:=(List.getElem?_eq_some_iff.mp e).1;have hi2:i<N.length:=by rw[<- hl]; exact hi
 have hz:(N'.zip N)[i]? = some (x,N[i]):=by
  rw[List.getElem?_zip_eq_some];exact⟨e,List.getElem?_eq_getElem hi2⟩
 have:=ha _ (List.mem_of_getElem? hz);simp only[Bool.or_eq_true,beq_iff_eq,Option.isNone_iff_eq_none] at this;rcases this with z|z
 .rw[List.getElem?_eq_getElem hi2,<- z]
 .rcases v with v|v|v<;>rw[z] at v<;>cases v
theorem Cx.Ok.withN{N':List Str}(ok:X.Ok):(withN X N').Ok:=⟨ok.mod,ok.kind,ok.glob,ok.blt,ok.above,ok.inj,ok.has,ok.cab,ok.hd,ok.frames,ok.stk,ok.exf,ok.bs,ok.bsz,ok.noex,ok.exfs,ok.funs,ok.frf,ok.tb⟩
theorem Inv.hide{N':List Str}(h:Jr N' X.N X.env.scope=true)(I:Inv X pins σ H s):Inv (withN X N') pins σ H s:=by
 refine⟨I.ok.withN,I.os,I.bare,I.base,?_,I.cell,I.free,I.freeC,I.pin,I.hok,?_⟩
 .obtain⟨m,hn,q⟩:=I.loc
  exact⟨m,hn,fun i x v e1 e2 vis=>q i x v (RJ h i x e1 vis) e2 vis⟩
 .simp only[Jr,Bool.and_eq_true,beq_iff_eq] at h
  exact I.len.trans h.1.symm
theorem Inv.blank{N':List Str}(I:Inv (withN X N') pins σ H s):Inv X pins (List.replicate X.N.length none) H s:=by
 have ok:X.Ok:=⟨I.ok.mod,I.ok.kind,I.ok.glob,I.ok.blt,I.ok.above,I.ok.inj,I.ok.has,I.ok.cab,I.ok.hd,I.ok.frames,I.ok.stk,I.ok.exf,I.ok.bs,I.ok.bsz,I.ok.noex,I.ok.exfs,I.ok.funs,I.ok.frf,I.ok.tb⟩;refine⟨ok,I.os,I.bare,I.base,?_,I.cell,I.free,I.freeC,I.pin,I.hok,by rw[List.length_replicate]⟩;obtain⟨m,hn,_⟩:=I.loc;refine⟨m,hn,fun i x v e1 e2 vis=>?_⟩;rw[List.getElem?_replicate] at e2;split at e2<;>simp at e2
theorem Vd{N':List Str}{own:List Str}{scope:Scope}{target iter elt:Expr}{ifs:List Expr}{pos:Pos}{wi:TI}{un:TU}{tc:TT}{te:TE}(hid:Jr N' X.N X.env.scope=true)(hc:X.calm=true)(hok:BR own N' scope X.env.scope=true)(hi:PI X target iter wi)(hg:∀C s H fp pins,PGo (cxC (withN X N') own scope C s H fp pins) target own.length un)(ht:∀C s H fp pins,PTs (cxC (withN X N') own scope C s H fp pins) ifs tc)(he:∀C s H fp pins,PE (cxC (withN X N') own scope C s H fp pins) elt te)(hs:∀x,foldedSetIterable iter X.env x=pure x:=by intro _; rfl):PE X (.ListComp elt [⟨target,iter,ifs,0⟩] scope pos) (tLc wi un tc te):=by
 intro pins s σ H Q I h;have hok':BR own (withN X N').N scope (withN X N').env.scope=true:=hok;rw[eval_ListComp];refine wpAny_comprehension_free (use:=none) rfl hs (JU (env:=X.env) (BR.free (X:=withN X N') hok' (I.hide hid))) (BR.kind hok) (BR.names hok) ?_;refine thn (hi pins s σ H _ I h) fun v s1 h1=>thn h1 fun itv s2 h2=>?_;obtain⟨it,fp,tn,J,H2,e,I2,T,st2,f2,q⟩:=h2;subst e;obtain⟨W,w0,turn⟩:=q s2.heap.objs.size I2.fresh;refine wpAny_newObj_type (hd:=by size_fits) ?_;have I3:Inv X pins σ (upd H2 s2.heap.objs.size (.lst [])) { s2 with heap:=s2.heap.push { cls:=.type "list",data:=.seq ([]:List Value).toArray } }:=I2.lnew (its:=[]) (t':=s2.toks) .nil (Nat.zero_le _);have st3:tn 0 (s2.heap.push { cls:=.type "list",data:=.seq ([]:List Value).toArray }):=T.keep _ _ _ st2 fun b _ o e=>Heap.get?_push_of_some _ e;have f3:∀b∈fp,Ep X pins (upd H2 s2.heap.objs.size (.lst [])) b:=fun b hb=>by
  obtain⟨o,e,_⟩:=T.obj _ _ st2 b hb;exact⟨by rw[Au (Nat.ne_of_lt (Heap.lt_size e))]; exact(f2 b hb).1,(f2 b hb).2⟩
 refine thn (Jx (X:=withN X N') (iter:=iter) (pos:=pos) (R:=compPost (model X.prog X.w) X.A X.xe none (EP X pins σ Q) (.ref s2.heap.objs.size) (s2.heap.push { cls:=.type "list",data:=.seq ([]:List Value).toArray }).objs.size) hc hok' hg ht he (I3.hide hid) T st3 f3 W w0 turn fun s' σ' H' J' q'=>?_) fun cenv s4 ⟨el,h4⟩=>?_
 .obtain⟨m,hn,_⟩:=J'.loc
  have J2:=Inv.blank (X:=cxC X own scope (s2.heap.push { cls:=.type "list",data:=.seq ([]:List Value).toArray }).objs.size _ _ fp pins) (N':=own++N') J';exact⟨m,hn,fun h' hs'=>⟨.ref s2.heap.objs.size,H',Fj I3 f3 J2 hs',rfl,q'⟩⟩
 .have el':cenv.locals=(s2.heap.push { cls:=.type "list",data:=.seq ([]:List Value).toArray }).objs.size:=el
  rw[<- el'] at h4;exact h4
end
end L2
end
section
namespace L2
open PySem PySem.Spec PyProof.Rows
noncomputable def Mkd(X:Cx):Prop:=∃(a:Addr) (o:Obj) (u:HO) (vs:Array Value),X.A.handled=some (.ref a)/\X.H₀ a=some (.frz o u)/\o.data=.fields vs/\vs[2]? = some .none
theorem Inv.plainly{X:Cx}{pins:List (Addr×Obj)}{σ:St}{H:Hp}{s:Shared}(I:Inv X pins σ H s)(m:Mkd X):∃a,X.A.handled=some (.ref a)/\AW s.heap a:=by
 obtain⟨a,o,u,vs,h,hp,hd,hc⟩:=m;have hok:=(show Cg X.prog X.w H s.heap a (.frz o u) from I.hok a _ (I.base.frzs _ _ _ hp));exact⟨a,h,o,vs,hok.1,hd,hc⟩
theorem Tf{X:Cx}{own:List Str}{scope:Scope}{C:Addr}{cl:List (Str×Addr)}{fn:Str->Bool}{s:Shared}{σ:St}{H:Hp}{fp:List Addr}{pins:List (Addr×Obj)}(I:Inv X pins σ H s)(m:Mkd X):Mkd (cxD X own scope C cl fn s H fp pins):=by
 obtain⟨a,o,u,vs,h,hp,r⟩:=m;exact⟨a,o,u,vs,h,I.base.frzs _ _ _ hp,r⟩
structure TurnM (P:Program) (w:World) (K:Frag) (tg:Expr) (J:It) (fp:List Addr) (it:Addr) (tn:Nat->Heap->Prop):Prop where
 mem:it∈fp
 obj:∀i h,tn i h->∀b∈fp,∃o,h.get? b=some o/\∀v,o.data≠.cell v
 keep:∀i h h',tn i h->(∀b∈fp,∀o,h.get? b=some o->h'.get? b=some o)->tn i h'
 item:∀(X:Cx),X.prog=P->X.w=w->X.K=K->Mkd X->∀(i:Nat) (pins:List (Addr×Obj)) (s:Shared) (σ:St) (H:Hp) (E:Value->Shared->Prop),Inv X pins σ H s->(∀b∈fp,Ep X pins H b)->tn i s.heap->J.go i H ->
  wpAny (model P w) X.A (pyNext (.ref it)) (fun r s1=>∃u,r=some u /\
   wpAny (model P w) X.A (letOwnedTupleGo tg (.ref it) u) (fun _ s2=>∃x H',Inv X pins σ H' s2/\RelV x u/\J.yld i H x H'/\tn (i+1) s2.heap/\∀b∈fp,H' b=none) E s1) E s
 done:∀(X:Cx),X.prog=P->X.w=w->X.K=K->Mkd X->∀(i:Nat) (pins:List (Addr×Obj)) (s:Shared) (σ:St) (H:Hp) (E:Value->Shared->Prop),Inv X pins σ H s->(∀b∈fp,Ep X pins H b)->tn i s.heap->J.stop i H ->
  wpAny (model P w) X.A (pyNext (.ref it)) (fun r s1=>r=none/\Inv X pins σ H s1) E s
 self:∀(A:Around) (i:Nat) (s:Shared) (Q:Value->Shared->Prop) (E:Value->Shared->Prop),tn i s.heap->Q (.ref it) s->wpAny (model P w) A (pyIter (.ref it)) Q E s
noncomputable def Wa(X:Cx)(pins:List (Addr×Obj))(σ:St)(tg:Expr)(R:It->Hp->Prop)(itv:Value)(s2:Shared):Prop:=
 ∃(it:Addr) (fp:List Addr) (tn:Nat->Heap->Prop) (J:It) (H':Hp),itv=.ref it/\Inv X pins σ H' s2/\TurnM X.prog X.w X.K tg J fp it tn/\tn 0 s2.heap/\(∀b∈fp,Ep X pins H' b)/\R J H'
noncomputable def PIM(X:Cx)(tg iter:Expr)(wi:TI):Prop:=
 ∀(pins:List (Addr×Obj)) (s:Shared) (σ:St) (H:Hp) (R:It->Hp->Prop),Inv X pins σ H s->wi σ H R ->
  wpAny (model X.prog X.w) X.A (eval iter X.env) (fun v s1=>wpAny (model X.prog X.w) X.A (pyIter v) (Wa X pins σ tg R) X.xe s1) X.xe s
theorem Mc{P:Program}{w:World}{K:Frag}{tg:Expr}(it:Addr)(lo:Int)(n:Nat):TurnM P w K tg (Itr lo n) [it] it (fun i h=>IsRangeIter h it (lo+(i:Nat)*1) ((n:Int)-(i:Nat)) 1) where
 mem:=by simp
 obj:=fun i h st b hb=>by
  have e:b=it:=by simpa using hb
  subst e;exact⟨_,st,fun v z=>by
   have z':Data.fields _=Data.cell v:=z;cases z'⟩
 keep:=fun i h h' st k=>k it (by simp) _ st
 item:=by
  intro X hP hw hK hc i pins s σ H E I hf st hg;subst hP hw hK;obtain⟨f0,f1,f2,f3,f4,f5⟩:=hf it (by simp);have hi:i<n:=hg;refine wpAny_pyNext_range_item st (by lia) fun h' st' sb=>?_;have I1:Inv X pins σ H { s with heap:=h',toks:=s.toks+1 }:=I.turned (fun b o hb e=>(sb.2 b hb).trans e) f0 f1 f3 f4 f5;have e1:lo+((i+1:Nat):Int)*1=lo+(i:Int)*1+1:=by lia
  have e2:(n:Int)-((i+1:Nat):Int)=(n:Int)-(i:Int)-1:=by lia
  have st2:IsRangeIter h' it (lo+((i+1:Nat):Int)*1) ((n:Int)-((i+1:Nat):Int)) 1:=by rw[e1,e2]; exact st'
  refine⟨_,rfl,Ll (s:={ s with heap:=h',toks:=s.toks+1 }) (n := "range_iterator") st2 rfl rfl (by decide) ⟨.int (lo+i),H,I1,⟨s.toks,?_⟩,⟨rfl,rfl⟩,st2,fun b hb=>(hf b hb).1⟩⟩;rw[Int.mul_one]
 done:=by
  intro X hP hw hK hc i pins s σ H E I hf st hg;subst hP hw hK;obtain⟨f0,f1,f2,f3,f4,f5⟩:=hf it (by simp);obtain⟨a,hh,hp⟩:=I.plainly hc;exact Ha hh hp st (by have:n<=i:=hg; lia) fun h' kk=>⟨rfl,I.kept (t':=s.toks) fun b o e=>kk b o e⟩
 self:=fun _ _ _ _ _ st h=>wpAny_pyIter_rangeiter st h
section
variable{X:Cx}{tg:Expr}
theorem OO{pins:List (Addr×Obj)}{σ:St}{H:Hp}{s:Shared}{R:It->Hp->Prop}{E:Value->Shared->Prop}{lo hi:Int}{t u v:Tok}{tk:Nat}(I:Inv X pins σ H s)(h1 : -(2 ^ 62)<=lo)(h2:lo<2 ^ 62)(h3 : -(2 ^ 62)<=hi)(h4:hi<2 ^ 62)(q:R (Itr lo (hi-lo).toNat) H):wpAny (model X.prog X.w) X.A (pyIter (.ref s.heap.objs.size)) (Wa X pins σ tg R) E { s with heap:=s.heap.push { cls:=.type "range",data:=.fields #[.int lo t,.int hi u,.int 1 v] },toks:=tk }:=by
 refine wpAny_pyIter_range (IsRange.new ..) (small_one h1 h2 h3 h4) ?_;have I1:Inv X pins σ H { s with heap:=s.heap.push { cls:=.type "range",data:=.fields #[.int lo t,.int hi u,.int 1 v] },toks:=tk }:=I.kept fun b o e=>Heap.get?_push_of_some _ e;refine⟨(s.heap.push { cls:=.type "range",data:=.fields #[.int lo t,.int hi u,.int 1 v] }).objs.size,[(s.heap.push { cls:=.type "range",data:=.fields #[.int lo t,.int hi u,.int 1 v] }).objs.size],_,_,H,rfl,
  I1.kept (t':=tk) fun b o e=>Heap.get?_push_of_some _ e,Mc _ lo (hi-lo).toNat,?_,fun b hb=>?_,q⟩
 .have e1:lo+((0:Nat):Int)*1=lo:=by simp
  have e2:(((hi-lo).toNat:Nat):Int)-((0:Nat):Int)=Builtin.Range.rangeSize lo hi 1:=by rw[rangeSize_one]; split<;>lia
  show IsRangeIter _ _ (lo+((0:Nat):Int)*1) ((((hi-lo).toNat:Nat):Int)-((0:Nat):Int)) 1;rw[e1,e2];exact Heap.get?_push_size _ rfl
 .have e:b=(s.heap.push { cls:=.type "range",data:=.fields #[.int lo t,.int hi u,.int 1 v] }).objs.size:=by simpa using hb
  subst e;exact I1.fpOk (Nat.le_refl _) (I1.hok.fresh (Nat.le_refl _))
theorem MZ{a:Expr}{ta:TA}{p pos:Pos}(hg:Gl X "range")(hm:X.mg "range" = none)(ha:PA X [a] ta)(hs:starEach [a] X.env=[(false,eval a X.env)]:=by rfl):PIM X tg (.Call (.Name "range" p) [a] [] pos) (PL ta):=by
 intro pins s σ H R I h;refine Call_ (Ig I hg hm boot_range (PyProof.Rows.callWith_type1 (thn (ha pos pins s σ H _ I h) fun us s1 ⟨vs,H1,I1,r1,q1⟩=>?_) hs rfl));obtain⟨j,e,q1,q2,q⟩:=q1;subst e;cases r1 with
 | cons r rr =>
  cases rr;obtain⟨t,rfl⟩:=r;exact call_range_1 (OO I1 (by lia) (by lia) q1 q2 (by simpa using q))
end
section
variable{X:Cx}{pins:List (Addr×Obj)}{σ:St}{H:Hp}{s:Shared}
theorem OR{own:List Str}{scope:Scope}{fp:List Addr}{it:Addr}{tn:Nat->Heap->Prop}{J:It}{target iter elt:Expr}{ifs:List Expr}{pos:Pos}{un:TU}{tc:TT}{te:TE}{acc:Addr}{Q:VK}{R:Result->Shared->Prop}{cl:List (Str×Addr)}{fn:Str->Bool}{h1:Heap}{t1:Nat}(hc:Mkd X)(hg:PGo (cxD X own scope s.heap.objs.size cl fn s H fp pins) target own.length un)(ht:PTs (cxD X own scope s.heap.objs.size cl fn s H fp pins) ifs tc)(he:PE (cxD X own scope s.heap.objs.size cl fn s H fp pins) elt te)(I:Inv X pins σ H s)(T:TurnM X.prog X.w X.K target J fp it tn)(st:tn 0 s.heap)(f2:∀b∈fp,Ep X pins H b)(W:Nat->Nat->List V->Hp->Prop)(w0:∃m,W 0 m [] H)(turn:∀i m ys H,W i m ys H->H acc=some (.lst ys) /\
   ((J.stop i H/\Q (.ref acc) H)\/(J.go i H/\∀x H',J.yld i H x H'->∃vs,un x H' vs/\tc (vs.map some++σ) H' fun b H3 =>
    if b=true then te (vs.map some++σ) H3 fun v H4=>H4 acc=some (.lst ys)/\ys.length<sizeLine/\∃m',m'<m/\W (i+1) m' (ys++[v]) (upd H4 acc (.lst (ys++[v])))
    else ∃m',m'<m/\W (i+1) m' ys H3)))(fin:∀s' σ' H',Inv (cxD X own scope s.heap.objs.size cl fn s H fp pins) [] σ' H' s'->Q (.ref acc) H'->R (.ok .next) s')(hk:∀b o,s.heap.get? b=some o->h1.get? b=some o)(I0:Inv (cxD X own scope s.heap.objs.size cl fn s H fp pins) [] (List.replicate own.length none++σ) H { s with heap:=h1,toks:=t1 }):
  codeAny (model X.prog X.w) X.A (.compStart (.ListComp elt [⟨target,iter,ifs,0⟩] scope pos) 0 (.ref it) (.ref acc) (compEnvC scope cl s.heap.objs.size X.env)) R { s with heap:=h1,toks:=t1 }:=by
 have st1:tn 0 h1:=T.keep _ _ _ st fun b _ o e=>hk b o e;have stat:∀{H':Hp},(∀b∈fp,H' b=none)->∀b∈fp,Ep (cxD X own scope s.heap.objs.size cl fn s H fp pins) [] H' b:=fun hn b hb=>by
  obtain⟨_,f1,f3,_,f5,f6⟩:=f2 b hb;obtain⟨o,e,_⟩:=T.obj _ _ st b hb;refine⟨hn b hb,Nat.ne_of_lt (Heap.lt_size e),fun hz=>?_,.inl hb,(I0.ok.exf b hb).2,fun p hp=>f6 p (by simpa using hp)⟩;rcases List.mem_cons.mp (I.stkSub b hz) with z|z
  .exact f1 z
  .exact f3 z
 have loop:∀s4,s4={ s with heap:=h1,toks:=t1 }->codeAny (model X.prog X.w) X.A (.compLoop (.ListComp elt [⟨target,iter,ifs,0⟩] scope pos) 0 (.ref it) (.ref acc) (compEnvC scope cl s.heap.objs.size X.env)) R s4:=by
  rintro s4 rfl;obtain⟨m0,w0⟩:=w0;refine HK (fun n s'=>∃i ys σ0 H',σ0.length=own.length/\Inv (cxD X own scope s.heap.objs.size cl fn s H fp pins) [] (σ0++σ) H' s'/\tn i s'.heap/\(∀b∈fp,H' b=none)/\W i n ys H') ?_ m0 ⟨0,[],_,H,by rw[List.length_replicate],I0,st1,fun b hb=>(f2 b hb).1,w0⟩;rintro n s3 ⟨i,ys,σ0,H3,hl3,I3,st3,fr3,w3⟩;obtain⟨ha,turn3⟩:=turn i n ys H3 w3;rcases turn3 with ⟨stop,qn⟩|⟨go,step⟩
  .refine thn (T.done (cxD X own scope s.heap.objs.size cl fn s H fp pins) rfl rfl rfl (Tf I hc) i [] s3 _ H3 _ I3 (stat fr3) st3 stop) fun r s4 yy=>?_
   obtain⟨hr,I4⟩:=yy;subst hr;exact fin s4 _ H3 I4 qn
  .refine thn (T.item (cxD X own scope s.heap.objs.size cl fn s H fp pins) rfl rfl rfl (Tf I hc) i [] s3 _ H3 _ I3 (stat fr3) st3 go) fun r s4 yy=>?_
   obtain⟨u,hr,h4⟩:=yy;subst hr;refine thn h4 fun _ s5 yy=>?_;obtain⟨x,H5,I5,r5,y5,st5,fr5⟩:=yy;obtain⟨vs,hu,q5⟩:=step x H5 y5;have I5':=I5.pinned (stat fr5) (T.obj _ _ st5);have again:∀{H7:Hp} {s7:Shared},vs.length=own.length->Inv (cxD X own scope s.heap.objs.size cl fn s H fp pins) ([]++G9 fp s5.heap) (vs.map some++σ) H7 s7->∀{ys'},(∃m',m'<n/\W (i+1) m' ys' H7) ->
     ∃m,m<n/\∃i ys σ0 H',σ0.length=own.length/\Inv (cxD X own scope s.heap.objs.size cl fn s H fp pins) [] (σ0++σ) H' s7/\tn i s7.heap/\(∀b∈fp,H' b=none)/\W i m ys H':=fun {H7 s7} hl I7 {ys'} ⟨m',hm,w7⟩=>by
    refine⟨m',hm,i+1,ys',vs.map some,H7,by rw[List.length_map,hl],I7.unpinned,T.keep _ _ _ st5 fun b hb o e=>(I7.pin (b,o) (List.mem_append_right _ (List.mem_append_right _ (Dt hb e)))).1,fun b hb=>?_,w7⟩;obtain⟨o,e,d⟩:=T.obj _ _ st5 b hb;exact(I7.pin (b,o) (List.mem_append_right _ (List.mem_append_right _ (Dt hb e)))).2.1
   refine thn (hg _ s5 σ0 σ H5 x u vs hl3 I5' r5 hu) fun _ s6 yy=>?_;obtain⟨hl,I6⟩:=yy;refine thn (ht _ s6 _ H5 _ I6 q5) fun ok s7 yy=>?_;obtain⟨H7,I7,q7⟩:=yy;cases ok with
   | false =>
    rw[if_neg Bool.false_ne_true] at q7;rw[if_neg Bool.false_ne_true];exact again hl I7 q7
   | true =>
    rw[if_pos rfl] at q7;rw[if_pos rfl];refine thn (he _ s7 _ H7 _ I7 q7) fun v s8 yy=>?_;obtain⟨y,H8,I8,r8,ha8,hz8,q8⟩:=yy;refine thn (FK _ s8 _ H8 (.ref acc) [y] (.ref acc) [v] (fun _ H9=>∃m',m'<n/\W (i+1) m' (ys++[y]) H9) I8 rfl (.cons r8 .nil) ⟨acc,ys,y,rfl,rfl,ha8,hz8,q8⟩) fun _ s9 yy=>?_;obtain⟨_,H9,I9,_,q9⟩:=yy;exact again hl I9 q9
 exact codeAny_compStart_list (loop _ rfl) (T.self X.A 0 _ _ _ st1 (loop _ rfl))
theorem M5{own:List Str}{scope:Scope}{fp:List Addr}{it:Addr}{tn:Nat->Heap->Prop}{J:It}{target iter elt:Expr}{ifs:List Expr}{pos:Pos}{un:TU}{tc:TT}{te:TE}{acc:Addr}{Q:VK}{R:Result->Shared->Prop}{E:Value->Shared->Prop}(hc:Mkd X)(hok:BR own X.N scope X.env.scope=true)(hg:∀C s H fp pins,PGo (cxC X own scope C s H fp pins) target own.length un)(ht:∀C s H fp pins,PTs (cxC X own scope C s H fp pins) ifs tc)(he:∀C s H fp pins,PE (cxC X own scope C s H fp pins) elt te)(I:Inv X pins σ H s)(T:TurnM X.prog X.w X.K target J fp it tn)(st:tn 0 s.heap)(f2:∀b∈fp,Ep X pins H b)(W:Nat->Nat->List V->Hp->Prop)(w0:∃m,W 0 m [] H)(turn:∀i m ys H,W i m ys H->H acc=some (.lst ys) /\
   ((J.stop i H/\Q (.ref acc) H)\/(J.go i H/\∀x H',J.yld i H x H'->∃vs,un x H' vs/\tc (vs.map some++σ) H' fun b H3 =>
    if b=true then te (vs.map some++σ) H3 fun v H4=>H4 acc=some (.lst ys)/\ys.length<sizeLine/\∃m',m'<m/\W (i+1) m' (ys++[v]) (upd H4 acc (.lst (ys++[v])))
    else ∃m',m'<m/\W (i+1) m' ys H3)))(fin:∀s' σ' H',Inv (cxC X own scope s.heap.objs.size s H fp pins) [] σ' H' s'->Q (.ref acc) H'->R (.ok .next) s'):
  wpAny (model X.prog X.w) X.A (newFunctionEnv scope X.env.globals (clo X.env.cells scope.names []) [] X.env.qual none .none (some X.env)) (fun cenv s₄ =>
   cenv.locals=s.heap.objs.size/\codeAny (model X.prog X.w) X.A (.compStart (.ListComp elt [⟨target,iter,ifs,0⟩] scope pos) 0 (.ref it) (.ref acc) { cenv with scope:=relabel scope X.env }) R s₄) E s:=by
 have hcell:∀x∈scope.names,x.2≠.cell:=fun x hx z=>by
  simp only[BR,Bool.and_eq_true,List.all_eq_true] at hok;have:=(hok.1.1.2 x hx).1.1;rw[z] at this;simp at this
 have hkind:scope.kind=.function:=by
  simp only[BR,Bool.and_eq_true] at hok;simpa using hok.1.2
 refine wpAny_newFunctionEnv hcell (fun x hx=>by simp at hx) (fun h1 hns hsb=>⟨rfl,?_⟩) hkind;have hk:∀b o,s.heap.get? b=some o->h1.get? b=some o:=fun b o e=>(hsb.2 b (Nat.ne_of_lt (Heap.lt_size e))).trans (Heap.get?_push_of_some _ e);have I0:Inv (cxC X own scope s.heap.objs.size s H fp pins) [] (List.replicate own.length none++σ) H { s with heap:=h1,toks:=s.toks+([]:List (Str×Value)).length }:=
  Js hok I f2 (fun b hb=>let⟨o,e,_⟩:=T.obj _ _ st b hb; ⟨o,e⟩) (by simpa using hns) hk
 exact OR (iter:=iter) (pos:=pos) hc (hg _ _ _ _ _) (ht _ _ _ _ _) (he _ _ _ _ _) I T st f2 W w0 turn fin hk I0
end
structure ExcCls (K:Frag) (C:Addr):Prop where
 ga:PySem.W.findIn K (.ref C) "__getattribute__" = some (some (.builtin "BaseException.__getattribute__"))
 noga:PySem.W.findIn K (.ref C) "__getattr__" = some none
 cl:PySem.W.findIn K (.ref C) "__class__" = some (some (.builtin "object.__class__"))
 obj:PySem.W.mroIn K C (.type "object")=some true
 bex:PySem.W.mroIn K C (.type "BaseException")=some true
section
variable{prog:Program}{w:World}{A:Around}{E:Value->Shared->Prop}{h:Heap}{g:Array GenState}{d:Drawn}{t:Nat}{os:OsState}{a C:Addr}{o:Obj}{K:Frag}
theorem IW{R:Result->Shared->Prop}(X:K.In h)(Y:ExcCls K C)(hx:h.get? a=some o)(hc:o.cls=.ref C)(hq:R (.ok (.ret (.ref C))) ⟨h,g,d,t,os⟩):
  codeAny (model prog w) A (.call (.builtin "getset_descriptor.__get__") ⟨[.builtin "object.__class__",.ref a,.ref C],[]⟩) R ⟨h,g,d,t,os⟩:=by
 have hT5:(⟨h,g,d,t,os⟩:Shared).TypeIs (.builtin "object.__class__") "getset_descriptor" := F.typeOf_object_class;have L1:=PySem.W.looks_mroIn (M:=model prog w) X Y.obj;have L2:PySem.W.Looks (model prog w) h (isSubtype (.ref C) (.type (".".intercalate ("object.__class__".cutAt '.').dropLast))) true:=by rw[F.owner_object_class]; exact L1
 refine codeAny_call_builtin F.slot_gs_get.plain F.entry_gs_get (F.slot_gs_get.check _ _ _ _ _ _ _ _ hT5 (F.args_gs_get _ _ _) ?_);repeat (any_goals (first|assumption|(with_reducible refine wpAny_loadPart_at hx ?_; rw[hc])|(with_reducible refine L2.at ?_)|wp_step))
 refine⟨Code.quiet_builtin _ dK,codeAny_builtin F.entry_object_class ?_⟩;repeat (any_goals (first|assumption|(with_reducible refine wpAny_loadPart_at hx ?_; rw[hc])|wp_step))
theorem Hv{tk:Tok}{Q:Fin->Shared->Prop}(X:K.In h)(Y:ExcCls K C)(hx:h.get? a=some o)(hc:o.cls=.ref C)(hq:Q (.done (.ret (.ref C))) ⟨h,g,d,t,os⟩):
  wpAny (model prog w) A (Builtin.«object.__getattribute__» ⟨[.ref a,.str "__class__" tk],[]⟩) Q E ⟨h,g,d,t,os⟩:=by
 have hT5:(⟨h,g,d,t,os⟩:Shared).TypeIs (.builtin "object.__class__") "getset_descriptor" := F.typeOf_object_class;have f5:=F.typeOf_object_class;have f6:=F.slot_gs_get.lookup;have f7:=F.slot_gs_set.lookup;have L1:=PySem.W.looks_findIn (M:=model prog w) X Y.cl;repeat (any_goals (first|assumption|(with_reducible refine wpAny_loadPart_at hx ?_; rw[hc])|(with_reducible refine L1.at ?_)|wp_step))
 refine IW X Y hx hc ?_;repeat (any_goals (first|assumption|wp_step))
theorem JZ{M:Model}{nameV:Value}{Q:Unit->Shared->Prop}(X:K.In h)(Y:ExcCls K C)(hx:h.get? a=some o)(hc:o.cls=.ref C)(hq:Q () ⟨h,g,d,t,os⟩):wpAny M A (checkBuiltinCall "BaseException.__getattribute__" ⟨[.ref a,nameV],[]⟩) Q E ⟨h,g,d,t,os⟩:=by
 have hk:builtinKind "BaseException.__getattribute__" = some .slot:=by decide +kernel
 have hsplit:splitId "BaseException.__getattribute__" = some ("BaseException","__getattribute__"):=by decide +kernel
 have L1:=PySem.W.looks_mroIn (M:=M) X Y.bex;have ha:=F.args_bexc_ga (.ref a) nameV;simp only[checkBuiltinCall,hk,hsplit];refine wpAny_bind ?_
 .unfold isInstance
  repeat (first|(with_reducible refine wpAny_loadPart_at hx ?_; rw[hc])|(with_reducible refine L1.at ?_)|wp_step)
  exact hq
theorem HV{tk:Tok}{R:Result->Shared->Prop}(X:K.In h)(Y:ExcCls K C)(hx:h.get? a=some o)(hc:o.cls=.ref C)(hp:Slot "ValueError" "__getattribute__" "BaseException.__getattribute__")(hq:R (.ok (.ret (.ref C))) ⟨h,g,d,t,os⟩):
  codeAny (model prog w) A (.call (.builtin "BaseException.__getattribute__") ⟨[.ref a,.str "__class__" tk],[]⟩) R ⟨h,g,d,t,os⟩:=
 codeAny_call_builtin hp.plain F.entry_bexc_ga (JZ X Y hx hc (Hv X Y hx hc hq))
theorem JY{tk:Tok}{fill:Bool}{Q:Value->Shared->Prop}(X:K.In h)(Y:ExcCls K C)(hx:h.get? a=some o)(hc:o.cls=.ref C)(hp:Slot "ValueError" "__getattribute__" "BaseException.__getattribute__")(hq:Q (.ref C) ⟨h,g,d,t,os⟩):
  wpAny (model prog w) A (getAttrBy (.ref a) (.str "__class__" tk) fill) Q E ⟨h,g,d,t,os⟩:=by
 have f3:=hp.bind (.ref a);have hx2:(Value.builtin "BaseException.__getattribute__" == Value.builtin "object.__getattribute__")=false:=by decide +kernel
 have hx1:(onTheHeap (Value.ref C)&&Value.builtin "BaseException.__getattribute__" == Value.builtin "object.__getattribute__")=false:=by rw[hx2]; rfl
 have L1:=PySem.W.looks_findIn (M:=model prog w) X Y.ga;have L2:=PySem.W.looks_findIn (M:=model prog w) X Y.noga;repeat (any_goals (first|assumption|(with_reducible refine wpAny_loadPart_at hx ?_; rw[hc])|(with_reducible refine L1.at ?_)|(with_reducible refine L2.at ?_)|wp_step))
 refine HV X Y hx hc hp ?_;repeat (any_goals (first|assumption|wp_step))
theorem HU{Q:Option Value->Shared->Prop}(X:K.In h)(Y:ExcCls K C)(hx:h.get? a=some o)(hc:o.cls=.ref C)(hp:Slot "ValueError" "__getattribute__" "BaseException.__getattribute__")(hq:Q (some (.ref C)) ⟨h,g,d,t+1,os⟩):
  wpAny (model prog w) A (getAttr? (.ref a) "__class__") Q E ⟨h,g,d,t,os⟩:=by
 unfold getAttr? getAttrBy?;repeat (any_goals (first|assumption|with_reducible apply JY X Y hx hc hp|wp_step))
end
theorem Qf{K:Frag}{a C:Addr}{cd:ClassData}(Y:ExcCls K C)(hcD:PySem.W.clsIn K C=some cd):PySem.W.KitX K (.ref a) (.ref C) (fun h=>∃o,h.get? a=some o/\o.cls=.ref C) where
 ty:=fun M h _ p=>by
  obtain⟨o,h1,h2⟩:=p;exact h2 ▸ (PySem.W.Looks.ld h1).andThen .now
 it:=fun _ _ X _=>by
  unfold PySem.W.clsIn at hcD;split at hcD
  .rename_i c' d' cd' sl' ho
   intro A' Q' E' s' k q;unfold isType loadHead;exact wpAny_bind (wpAny_loadPart (k _ _ (X _ _ ho)) (wpAny_pure q))
  .cases hcD
 ne:=fun h tp dd its n sl X htp=>by
  refine Bool.eq_false_iff.mpr fun q=>?_;have e:C=tp:=Value.ref.inj (beq_iff_eq.mp q);subst e;unfold PySem.W.clsIn at hcD;split at hcD
  .rename_i c' d' cd' sl' ho
   have z:=(X _ _ ho).symm.trans htp;cases z
  .cases hcD
 ca:=fun {_ _ _ _ _ s} X p k=>by
  obtain⟨h,g,d,t,os⟩:=s;obtain⟨o,h1,h2⟩:=p;exact HU X Y h1 h2 F.attr_ValueError.ga k
noncomputable def WO(C:Addr)(c:V)(b:Bool):List V->Hp->VK->Prop:=fun xs H Q=>∃a o u,xs=[.ref a,c]/\H a=some (.frz o u)/\o.cls=.ref C/\Q (.bl b) H
theorem Pj{X:Cx}{C:Addr}{c:V}{cv:Value}{b:Bool}{cd:ClassData}(Y:ExcCls X.K C)(hcD:PySem.W.clsIn X.K C=some cd)(hk:PySem.W.kitOne X.K (.ref C) cv=some b)(hc:∀u,RelV c u->u=cv):
  B1 X (.builtin "isinstance") (WO C c b):=by
 intro pins s σ H xs us Q I r h;obtain⟨a,o,u,rfl,ho,hcl,q⟩:=h;obtain⟨v1,v2,rfl,r1,r2⟩:=r.two;cases (show v1=Value.ref a from r1);cases hc _ r2;have hok:=(show Cg X.prog X.w H s.heap a (.frz o u) from I.hok a _ ho);exact PySem.W.kia_one (Qf Y hcD) I.kIn ⟨o,hok.1,hcl⟩ hk (fun z=>nomatch z) fun tk=>⟨.bl b,H,I.tok tk,rfl,q⟩
end L2
end
section
namespace J
open PySem PySem.Spec PyProof.Rows L2
section
variable{X:Cx}{a:Expr}{m:ME}{p pos q:Pos}{K:Frag}{H:Hp}{σ:L2.St}
noncomputable def Ul(C:Addr)(b:Bool):A->Option A
 | .opq _ o=>if (o.cls==.ref C)=true then some (.fz (.bl b)) else none
 | .fz _ | .lst _ | .tup _ | .scr _ | .dic _ | .dct _=>none
noncomputable def Bl(C:Addr)(b:Bool):List A->Option A:=on1 (Ul C b)
theorem UU{C:Addr}{b:Bool}:OpN K (Bl C b) (r1L fun x H Q=>∃a o u,x=.ref a/\H a=some (.frz o u)/\o.cls=.ref C/\Q (.bl b) H):=by
 intro N H xs as b' Q hs e k
 replace e:=DL e
 obtain⟨a,rfl,e⟩:=e;obtain⟨x,L1,rfl,h1⟩:=CQ hs;cases a with
 | opq a o =>
  simp only[Ul] at e;split at e
  .rename_i hc
   cases e;rw[Am] at h1;obtain⟨rfl,_,u,h⟩:=h1;exact⟨_,rfl,a,o,u,rfl,h,beq_iff_eq.mp hc,k _ _ DM⟩
  .cases e
 | _=>cases e
theorem VM{C:Addr}{c:V}{b:Bool}{Q:VK}(h:tE K (opM (Bl C b) (m1L m)) σ H Q):tCB (WO C c b) (Ce (tE K m) (Ce (tC c) FT)) σ H Q:=by
 have h2:=one UU h;exact tE.mono h2 fun x H1 ⟨a,o,u,e,r,hc,q⟩=>⟨a,o,u,by rw[e],r,hc,q⟩
theorem P4{y:Str}{C:Addr}{c:V}{cv:Value}{b:Bool}{cd:ClassData}(Y:ExcCls X.K C)(hcD:PySem.W.clsIn X.K C=some cd)(hk:PySem.W.kitOne X.K (.ref C) cv=some b)(hc:∀u,RelV c u->u=cv)(hn:PE X (.Name y q) (tC c))(hg:Gl X "isinstance")(B:Blt X.mg X.K)(he:starEach [a,.Name y q] X.env=[(false,eval a X.env),(false,eval (.Name y q) X.env)])(he2:starEach [.Name y q] X.env=[(false,eval (.Name y q) X.env)])(ha:JE X a m):
  JE X (.Call (.Name "isinstance" p) [a,.Name y q] [] pos) (opM (Bl C b) (m1L m)):=
 Az (Iv (Pj Y hcD hk hc) hg B.isinstance PyProof.Rows.Boot.«isinstance» (CL ha (CL hn Eo he2) (he.trans (by rw[he2]))) dK dK (he.trans (by rw[he2])) (by rw[he2]; rfl)) fun _ _ _ h=>VM h
end
section
variable{X:Cx}{a b c e:Expr}{m:ME}{mt:MT}{mi:MI}{p pos:Pos}{x:Str}
noncomputable def JIM(X:Cx)(tg e:Expr)(m:MI):Prop:=PIM X tg e (tI X.K m)
theorem QK{tg:Expr}{t t':TI}(h:PIM X tg e t)(w:∀σ H R,t' σ H R->t σ H R):PIM X tg e t':=fun pins s σ H R I q=>h pins s σ H R I (w σ H R q)
theorem P9{tg:Expr}(hg:Gl X "range")(hm:X.mg "range" = none)(hs:starEach [a] X.env=[(false,eval a X.env)])(h:JE X a m):JIM X tg (.Call (.Name "range" p) [a] [] pos) (CV m):=
 QK (MZ hg hm (CL h Eo hs) hs) fun _ _ _ h=>N6 h
end
end J
end
section
namespace L2
open PySem PySem.Spec PyProof.Rows
structure RoomM (k:Nat) (A:Around):Prop where
 dp:A.depth+3*k+5<recursionLimit
 un:A.units+16*k+200<cLine
theorem RoomM.mono{j k:Nat}{A:Around}(r:RoomM k A)(h:j<=k):RoomM j A:=⟨by have:=r.dp; lia,by have:=r.un; lia⟩
theorem RoomM.deeper{k:Nat}{A:Around}(r:RoomM (k+1) A)(env:Env):RoomM k (A.deeper env):=
 ⟨by have:=r.dp; show A.depth+1+3*k+5<_; lia,by have:=r.un; show A.units+3+16*k+200<_; lia⟩
theorem RoomM.depth{k:Nat}{A:Around}(r:RoomM k A):A.depth<recursionLimit:=by have:=r.dp; lia
theorem RoomM.units{k:Nat}{A:Around}(r:RoomM k A):A.units+64<cLine:=by have:=r.un; lia
theorem Room.marked{k:Nat}{A:Around}(r:Room k A)(e:Option Value):RoomM k (A.mark e):=⟨r.dp,r.un⟩
noncomputable def S8(A:Around)(H:Hp):Prop:=∃(a:Addr) (o:Obj) (u:HO) (vs:Array Value),A.handled=some (.ref a)/\H a=some (.frz o u)/\o.data=.fields vs/\vs[2]? = some .none
theorem Mkd.of{X:Cx}{pins:List (Addr×Obj)}{σ:St}{H:Hp}{s:Shared}(m:Mkd X)(I:Inv X pins σ H s):S8 X.A H:=by
 obtain⟨a,o,u,vs,h,hp,r⟩:=m;exact⟨a,o,u,vs,h,I.base.frzs _ _ _ hp,r⟩
noncomputable def cxM(CX:CXT)(P:Program)(w:World)(K:Frag)(mg:Str->Option Value)(base:Heap)(N:List Str)(qual:Str)(scope:Scope)(f:Addr)(cd:Value)(A:Around)(outer:List Env)(s:Shared)(H:Hp)(E:XK):Cx:=
 { A7 CX P w K mg base N qual scope f cd A outer s H E with calm:=false }
theorem My{CX:CXT}{P:Program}{w:World}{K:Frag}{mg:Str->Option Value}{base:Heap}{N ps:List Str}{qual:Str}{scope:Scope}{f:Addr}{cd:Value}{A:Around}{outer:List Env}{s s1:Shared}{H:Hp}{E:XK}{us:List Value}{vs:List V}(S:FnScope N ps scope)(e0:Env0 P w K mg base A outer s H)(hl:vs.length=ps.length)(r:Vals vs us)(x:InCallC s s.heap.objs.size (bindL (envOfC qual scope s.heap.objs.size f cd).kindOf (ps.zip us) fun _=>none) (cellsFrom (s.heap.objs.size+1) scope.names []) (bindC (envOfC qual scope s.heap.objs.size f cd).kindOf (ps.zip us) fun _=>none) s1):
  Inv (cxM CX P w K mg base N qual scope f cd A outer s H E) [] (start N vs) H s1:=by
 have I:=G0 (CX:=CX) (E:=E) (A:={ A with handled:=none }) (P:=P) (w:=w) (K:=K) (mg:=mg) (base:=base) (outer:=outer) (qual:=qual) (f:=f) (cd:=cd) S rfl ⟨e0.frames,e0.mod,e0.bs,e0.bsz,e0.funs,e0.frf,e0.hok,e0.bare,e0.tb⟩ hl r x;exact⟨⟨I.ok.mod,I.ok.kind,I.ok.glob,I.ok.blt,I.ok.above,I.ok.inj,I.ok.has,I.ok.cab,fun z=>absurd z Bool.false_ne_true,Around.frames_deeper e0.frames,I.ok.stk,I.ok.exf,I.ok.bs,I.ok.bsz,I.ok.noex,I.ok.exfs,I.ok.funs,I.ok.frf,I.ok.tb⟩,
  I.os,I.bare,I.base,I.loc,I.cell,I.free,I.freeC,I.pin,I.hok,I.len⟩
structure FnOkM (P:Program) (w:World) (K:Frag) (mg:Str->Option Value) (base:Heap) (CX:CXT) (k:Nat) (f:Addr) (fd:FuncData) (ps:List Str) (sp:Sp):Prop where
 len:∀vs H Q E,sp vs H Q E->vs.length=ps.length
 run:∀(A:Around) (outer:List Env) (s:Shared) (H:Hp) (args:Args) (us:List Value) (vs:List V) (Q:VK) (E:XK),RoomM k A->S8 A H->Env0 P w K mg base A outer s H->BindsTo s fd args (ps.zip us)->Vals vs us->sp vs H Q E ->
  codeAny (model P w) A (.call (.ref f) args) (CR CX outer P w H s Q E) s
theorem Uc{CX:CXT}{P:Program}{w:World}{K:Frag}{mg:Str->Option Value}{base:Heap}{k:Nat}{f:Addr}{name qual:Str}{params:Arguments}{body:List Stmt}{scope:Scope}{dV kV doc pm cdv ct oc:Value}{an od:Option Addr}{osl:Array (Option Value)}{N ps:List Str}{sp:Sp}(lk:K.lookup f=some ⟨oc,od,.func (PySem.W.fnOf name qual params body scope dV kV doc pm an cdv ct),osl⟩)(hcd:PySem.W.codeIn K cdv qual=true)(S:FnScope N ps scope)(len:∀vs H Q E,sp vs H Q E->vs.length=ps.length)(hbody:∀(A:Around) (outer:List Env) (s:Shared) (H:Hp) (vs:List V) (Q:VK) (E:XK),RoomM k (A.deeper (envOfC qual scope s.heap.objs.size f cdv))->Mkd (cxM CX P w K mg base N qual scope f cdv A outer s H E)->sp vs H Q E ->
   ∃t,PSs (cxM CX P w K mg base N qual scope f cdv A outer s H E) body t/\t { nx:=fun _ H'=>Q .non H',rt:=Q } (start N vs) H):
  FnOkM P w K mg base CX (k+1) f (PySem.W.fnOf name qual params body scope dV kV doc pm an cdv ct) ps sp:=by
 refine⟨len,fun A outer s H args us vs Q E hr hmk e0 hb r hsp=>?_⟩;have hl:=len _ _ _ _ hsp;have KX:K.In s.heap:=e0.mod.kin.keeps fun b o e=>(e0.bs b o e).1;have lim:s.heap.NoLimit:=e0.mod.nolimit.keeps fun b o e=>(e0.bs b o e).1;have hkind:∀y∈ps.zip us,scope.names.lookup y.1=some .local\/(scope.names.lookup y.1=some .cell/\((cellsFrom (s.heap.objs.size+1) scope.names []).lookup y.1).isSome=true):=fun⟨n,v⟩ hy=>by
  rcases S.par n (List.of_mem_zip hy).1 with q|q
  .exact .inl q
  .exact .inr ⟨q,PySem.W.cellsFrom_some _ _ _ (.inl q)⟩
 refine codeAny_call_function hr.depth (KX _ _ lk) rfl S.co S.gen rfl (PySem.W.codeRec_of KX hcd) (hb _ _ _ _ ?_);refine wpAny_newFunctionEnv_cells S.kind hkind fun env he s1 x=>?_;subst he;refine⟨lim.keeps x.toInCall.keep,codeAny_func ?_⟩;obtain⟨t,ht,hq⟩:=hbody A outer s H vs Q E (hr.deeper _) hmk hsp;have I:Inv (cxM CX P w K mg base N qual scope f cdv A outer s H E) [] (start N vs) H s1:=My S e0 hl r x;refine wpAny_mono (ht [] s1 (start N vs) H _ I hq) (fun fl s' hs=>?_) fun e s' hs=>hs;have fin:∀{σ':St} {H':Hp} {v:V} {u:Value},Inv (cxM CX P w K mg base N qual scope f cdv A outer s H E) [] σ' H' s'->RelV v u->Q v H'->CE outer P w H s Q u s':=
  fun {σ' H' v u} J rv q=>⟨v,H',J.os,J.bare,J.base,J.hok,rv,q⟩
 cases fl with
 | ret u =>
  obtain⟨v,σ',H',J,rv,q⟩:=hs;exact fin J rv q
 | next =>
  obtain⟨σ',H',J,q⟩:=hs;exact fin (v:=V.non) (u:=Value.none) J rfl q
 | brk =>
  obtain⟨_,_,_,q⟩:=hs;exact False.elim q
 | cont =>
  obtain⟨_,_,_,q⟩:=hs;exact False.elim q
section
variable{X:Cx}{CX:CXT}{k:Nat}{f C:Addr}{fd:FuncData}{ps:List Str}{sp:Sp}{dvs:List V}{ds:List Value}{E:XK}{x m:Str}{p pos apos:Pos}{e o:Expr}{es:List Expr}{ta:TE}{t:TA}
theorem SG{pins:List (Addr×Obj)}{σ:St}{H:Hp}{s:Shared}{Q:VK}{us:List Value}{vs:List V}(F:FnOkM X.prog X.w X.K X.mg X.base CX k f fd ps sp)(hr:RoomM k X.A)(hmk:Mkd X)(hb:Binds X.K fd ps ds)(hd:Vals dvs ds)(hx:Passes CX X E)(I:Inv X pins σ H s)(r:Vals vs us)(h:sp (vs++dvs) H Q E):wpAny (model X.prog X.w) X.A (call (.ref f) us) (EP X pins σ Q) X.xe s:=by
 have r2:Vals (vs++dvs) (us++ds):=r.append hd;have hl:(us++ds).length=ps.length:=by rw[<- r2.length]; exact F.len _ _ _ _ h
 refine wpAny_call (codeAny_mono (F.run X.A X.stack s H ⟨us,[]⟩ (us++ds) (vs++dvs) Q E hr (hmk.of I) I.env0 (hb s us I.kIn hl) r2 h) fun r s' hq=>?_);cases r with
 | error e=>exact hx pins σ H s e s' I hq
 | ok fl =>
  cases fl with
  | ret u=>exact I.after hq
  | next=>exact False.elim hq
  | brk=>exact False.elim hq
  | cont=>exact False.elim hq
theorem QB(F:FnOkM X.prog X.w X.K X.mg X.base CX k f fd ps sp)(hr:RoomM k X.A)(hmk:Mkd X)(hg:Gl X x)(hm:X.mg x=some (.ref f))(hk:PySem.W.keepIn X.K (.ref f)=true)(hb:Binds X.K fd ps ds)(hd:Vals dvs ds)(hx:Passes CX X E)(ha:PA X (e::es) t)(hdb:(x==("__debug__" : Str))=false:=by decide)(he:starEach (e::es) X.env=(false,eval e X.env)::starEach es X.env:=by rfl)(hpl:(backTo pos (starEach es X.env)).any (·.1)=false:=by rfl):
  PE X (.Call (.Name x p) (e::es) [] pos) (Jz sp dvs E t):=by
 intro pins s σ H Q I h;refine wpAny_Call_Name_kw (FJ I hg hm ?_ hdb);refine PySem.W.callWith_K (h₀:=X.base) I.ok.mod.kin hk (thn (ha pos pins s σ H _ I h) fun us s1 ⟨vs,H1,I1,r,q⟩=>⟨I1.kIn,?_⟩) he hpl;exact SG F hr hmk hb hd hx I1 r q
end
structure DefM (P:Program) (w:World) (K:Frag) (mg:Str->Option Value) (base:Heap) (CX:CXT) (k:Nat) (x:Str) (ps:List Str) (sp:Sp):Prop where
 ex:∃(f:Addr) (fd:FuncData),mg x=some (.ref f)/\PySem.W.keepIn K (.ref f)=true/\Binds K fd ps []/\FnOkM P w K mg base CX k f fd ps sp
end L2
namespace J
open PySem PySem.Spec PyProof.Rows L2
section
variable{P:Program}{w:World}{K:Frag}{mg:Str->Option Value}{base:Heap}
theorem Ue{x:Str}{st:Stmt}{f:Addr}{fd:FuncData}{N ps:List Str}{k:Nat}{m:MS}(F:Fun K x x st f fd)(S:FnScope N ps (Ao st))(hb:∀(cdv:Value) (A:Around) (outer:List Env) (s:Shared) (H:Hp) (E:XK),RoomM k (A.deeper (envOfC x (Ao st) s.heap.objs.size f cdv))->Mkd (cxM CX0 P w K mg base N x (Ao st) f cdv A outer s H E) ->
   JSs (cxM CX0 P w K mg base N x (Ao st) f cdv A outer s H E).nox (BO st) m):
  FnOkM P w K mg base CX0 (k+1) f fd ps (spJ K (fnM ps.length N.length m) ps.length):=by
 obtain⟨oc,od,kV,doc,pm,an,cdv,ct,osl,rfl,lk,hcd⟩:=F.ex;refine Uc lk hcd S (fun vs H Q E h=>?_) fun A outer s H vs Q E hr hm h=>?_
 .obtain⟨_,_,_,h,_⟩:=h
  exact h
 .have hl:vs.length=ps.length:=by
   obtain⟨_,_,_,h,_⟩:=h;exact h
  have:=JL h;refine⟨_,PSs.nox (hb cdv A outer s H E hr hm),?_⟩;unfold L2.start;rw[hl];exact this
end
section
variable{X:Cx}{e:Expr}{es:List Expr}{ms:MA}{p pos:Pos}{x:Str}
theorem PY{P:Program}{w:World}{K:Frag}{mg:Str->Option Value}{base:Heap}{CX:CXT}{k j:Nat}{ps:List Str}{Φ:Fn}{np:Nat}{E:XK}(D:DefM P w K mg base CX k x ps (spJ K Φ np))(hnp:∀args y,Φ args=some y->args.length=np)(hP:X.prog=P)(hw:X.w=w)(hK:X.K=K)(hm:X.mg=mg)(hb:X.base=base)(hr:RoomM j X.A)(hkj:k<=j)(hmk:Mkd X)(hx:Passes CX X E)(hdb:(x==("__debug__" : Str))=false)(hg:Gl X x)(he:starEach (e::es) X.env=(false,eval e X.env)::starEach es X.env)(hpl:(backTo pos (starEach es X.env)).any (·.1)=false)(ha:JA X (e::es) ms):JE X (.Call (.Name x p) (e::es) [] pos) (Ar Φ ms):=by
 subst hP hw hK hm hb;obtain⟨f,fd,a,b,c,d⟩:=D.ex;exact Az (QB d (hr.mono hkj) hmk hg a b c .nil hx ha hdb he hpl) fun _ _ _ h=>N4 hnp h
end
end J
end
section
namespace L2
open PySem PySem.Spec PyProof.Rows PySem.W
section
variable{P:Program}{w:World}{K:Frag}{mg:Str->Option Value}{base:Heap}
theorem Ms{A:Around}{env:Env}{outer:List Env}{H:Hp}{s s1 s2:Shared}{E:XK}{L:Addr}{e:Value}(hfr:A.frames=some (env::outer))(hf:env.frame=some L)(hL:s.heap.objs.size<=L)(hfun:s.heap.FunFrames base outer)(hos:s1.os=s.os)(hk:∀b o,s.heap.get? b=some o->s1.heap.get? b=some o)(fl:Fly P w (env::outer) H s1 E e s2):
  wpAny (model P w) A (leaving env e) (fun _ s3=>Fly P w outer H s E e s3) (fun e' s3=>Fly P w outer H s E e' s3) s2:=by
 obtain⟨a,C,a0,B,H',rfl,F,q⟩:=fl;have lt:∀{b:Addr} {o:Obj},s.heap.get? b=some o->b≠L:=fun e=>Nat.ne_of_lt (Nat.lt_of_lt_of_le (Heap.lt_size e) hL);have hfs:frs (env::outer)=L::frs outer:=Gv hf;refine GC hfr hf F.fly F.pl fun h' fl' sm pl=>?_;refine⟨a,C,a0,B,H',rfl,⟨F.os.trans hos,F.bare,fl',fun b o e n hb=>?_,fun b o e n hb=>?_,fun b o e n=>F.free b o (hk b o e) n,fun b o e hb=>?_,F.tups,F.frzs,F.tbls,F.hok,pl⟩,q⟩
 .refine F.keep b o (hk b o e) n ?_
  rw[hfs];exact fun z=>(List.mem_cons.mp z).elim (lt e) hb
 .obtain⟨sl',e2⟩:=F.slot b _ (hk b o e) n (by rw[hfs]; exact List.mem_cons_of_mem _ hb)
  obtain⟨sl3,e3⟩:=sm b { o with slots:=sl' } e2 (show ∀vs,o.data≠.fields vs from Dq hfun hb e);exact⟨sl3,e3⟩
 .refine F.there b o (hk b o e) ?_
  rw[hfs];exact fun z=>(List.mem_cons.mp z).elim (lt e) hb
noncomputable def Cf(env:Env)(h:Heap):List Expr->List V->Prop
 | [],[]=>True
 | .Name x _::es,v::vs=>(env.kindOf x=some .free/\(x==("__debug__" : Str))=false/\(x==("__classdict__" : Str))=false/\∃c u,env.cells.lookup x=some c/\h.IsCell c (some u)/\RelV v u)/\Cf env h es vs
 | .Constant (.str z) _ _::es,v::vs=>v=.str z/\Cf env h es vs
 | _,_=>False
theorem Cf.ind{env:Env}{h:Heap}{M:List Expr->List V->Prop}(nil:M [] [])(nm:∀x p es v vs,(env.kindOf x=some .free/\(x==("__debug__" : Str))=false/\(x==("__classdict__" : Str))=false/\∃c u,env.cells.lookup x=some c/\h.IsCell c (some u)/\RelV v u)->Cf env h es vs->M es vs->M (.Name x p::es) (v::vs))(tx:∀z k p es vs,Cf env h es vs->M es vs->M (.Constant (.str z) k p::es) (.str z::vs)):∀{es vs},Cf env h es vs->M es vs:=by
 intro es;induction es with
 | nil=>intro vs x; cases vs with
  | nil=>exact nil
  | cons v vs=>exact x.elim
 | cons e es ih =>
  intro vs x;cases vs with
  | nil=>cases e<;>first|exact x.elim|(rename_i c k p; cases c<;>exact x.elim)
  | cons v vs =>
   cases e with
   | Name y p=>exact nm y p es v vs x.1 x.2 (ih x.2)
   | Constant c k p =>
    cases c with
    | str z=>obtain⟨rfl,x⟩:=x; exact tx z k p es vs x (ih x)
    | _=>exact x.elim
   | _=>exact x.elim
theorem Cf.plain{env env':Env}{h:Heap}{es:List Expr}{vs:List V}{pos:Pos}(x:Cf env h es vs):(backTo pos (starEach es env')).any (·.1)=false:=by
 refine Cf.ind (M:=fun es vs=>(backTo pos (starEach es env')).any (·.1)=false) ?_ ?_ ?_ x
 .rfl
 .intro x p es v vs _ _ ih
  show(false || (backTo pos (starEach es env')).any (·.1))=false;rw[ih]; rfl
 .intro z k p es vs _ ih
  show(false || (backTo pos (starEach es env')).any (·.1))=false;rw[ih]; rfl
theorem Cf.run{M:Model}{A:Around}{E:Value->Shared->Prop}{env:Env}{h:Heap}{es:List Expr}{vs:List V}{pos:Pos}(hk:env.scope.kind=.function)(x:Cf env h es vs):
  ∀{s:Shared},s.heap=h->wpAny M A (spliced (backTo pos (starEach es env))) (fun us s'=>Vals vs us/\∃tk,s'={ s with toks:=tk }) E s:=by
 refine Cf.ind (M:=fun es vs=>∀{s:Shared},s.heap=h->wpAny M A (spliced (backTo pos (starEach es env))) (fun us s'=>Vals vs us/\∃tk,s'={ s with toks:=tk }) E s) ?_ ?_ ?_ x
 .intro s hs
  exact Calls.spliced_nil ⟨.nil,s.toks,rfl⟩
 .intro y p es v vs ⟨k1,k2,k3,c,u,k4,k5,k6⟩ _ ih s hs
  show wpAny M A (spliced ((false,eval (.Name y p) env)::backTo pos (starEach es env))) _ _ s;refine Calls.spliced_cons (wpAny_Name (wpAny_loadName_free hk k1 k4 (by rw[hs]; exact k5) ?_ k3) k2);exact thn (ih hs) fun us s' ⟨q1,q2⟩=>⟨.cons k6 q1,q2⟩
 .intro z k p es vs _ ih s hs
  show wpAny M A (spliced ((false,eval (.Constant (.str z) k p) env)::backTo pos (starEach es env))) _ _ s;refine Calls.spliced_cons (wpAny_Constant_str ?_);exact thn (ih (s:={ s with toks:=s.toks+1 }) hs) fun us s' ⟨q1,tk,q2⟩=>⟨.cons ⟨_,rfl⟩ q1,tk,q2⟩
theorem Cf.keeps{env:Env}{h h':Heap}{es:List Expr}{vs:List V}(k:∀b o,h.get? b=some o->h'.get? b=some o)(x:Cf env h es vs):Cf env h' es vs:=by
 refine Cf.ind (M:=fun es vs=>Cf env h' es vs) ?_ ?_ ?_ x
 .trivial
 .intro y p es v vs ⟨k1,k2,k3,c,u,k4,⟨oc,k5,k5'⟩,k6⟩ _ ih
  exact⟨⟨k1,k2,k3,c,u,k4,⟨oc,k _ _ k5,k5'⟩,k6⟩,ih⟩
 .intro z k p es vs _ ih
  exact⟨rfl,ih⟩
structure Clo (P:Program) (w:World) (K:Frag) (mg:Str->Option Value) (base:Heap) (k:Nat) (E:XK) (f:Addr) (s:Shared) (H:Hp):Prop where
 fn:FnAt f s.heap
 run:∀(A:Around) (outer:List Env) (s1:Shared),Room k A->Env0 P w K mg base A outer s1 H->(∀b o,s.heap.get? b=some o->s1.heap.get? b=some o)->codeAny (model P w) A (.call (.ref f) ⟨[],[]⟩) (CR (Fly P w) outer P w H s1 (fun _ _=>False) E) s1
theorem Clo.keeps{k:Nat}{E:XK}{f:Addr}{s s':Shared}{H:Hp}(x:Clo P w K mg base k E f s H)(kp:∀b o,s.heap.get? b=some o->s'.heap.get? b=some o):Clo P w K mg base k E f s' H:=
 ⟨let⟨a,b,c,d,e⟩:=x.fn; ⟨a,b,c,d,kp _ _ e⟩,fun A outer s1 hr e0 q=>x.run A outer s1 hr e0 fun b o e=>q b o (kp b o e)⟩
theorem RZ{k:Nat}{g:Str}{ps:List Str}{sp:Sp}{f c':Addr}{params:Arguments}{e:Expr}{es:List Expr}{cl:List (Str×Addr)}{pm ctv:Value}{gp cp:Pos}{scope:Scope}{s:Shared}{H:Hp}{vs:List V}{E:XK}(Dg:Def P w K mg base (Fly P w) k g ps sp)(ho:s.heap.get? f=some (Wx params (.Call (.Name g gp) (e::es) [] cp) scope cl pm c' ctv))(hcd:s.heap.CodeRec (.ref c') Bt)(hbind:bindArgs (kla_fn "<lambda>" Bt params (.Call (.Name g gp) (e::es) [] cp) scope cl pm (.ref c') ctv) ⟨[],[]⟩=pure [])(hk:scope.kind=.function)(hco:scope.isCoroutine=false)(hgen:scope.isGenerator=false)(hnc:∀n∈scope.names,n.2≠.cell)(hg:scope.names.lookup g=some .globalImplicit)(hdb:(g==("__debug__" : Str))=false)(hst:∀env,starEach (e::es) env=(false,eval e env)::starEach es env)(hargs:∀L,Cf (newEnv scope L mainGlobals cl (Bt ++ ".<locals>.") (some f) (.ref c') none builtinsNs) s.heap (e::es) vs)(hsp:sp vs H (fun _ _=>False) E):Clo P w K mg base (k+1) E f s H:=by
 refine⟨⟨_,_,_,_,ho⟩,fun A outer s1 hr e0 kp=>?_⟩;have KX:K.In s1.heap:=e0.mod.kin.keeps fun b o e=>(e0.bs b o e).1;have lim:s1.heap.NoLimit:=e0.mod.nolimit.keeps fun b o e=>(e0.bs b o e).1;obtain⟨gf,gfd,gm,gk,gb,F⟩:=Dg.ex;obtain⟨d1,d2,d3,d4,d5,d6,d7⟩:=hcd;refine kla_callFunE hr.depth (kp _ _ ho) rfl hco hgen rfl ⟨d1,d2,d3,d4,d5,kp _ _ d6,d7⟩ ?_;rw[hbind];refine wpAny_pure (wpAny_newFunctionEnv hnc (fun b hb=>by simp at hb) (fun h1 hns hsb=>⟨?_,?_⟩) hk)
 .exact lim.fresh _ hsb
 have k1:∀b o,s1.heap.get? b=some o->h1.get? b=some o:=fun b o e=>hsb.extBut b o (Nat.ne_of_lt (Heap.lt_size e)) (Heap.get?_push_of_some _ e);have lt1:s1.heap.objs.size<h1.objs.size:=hns.lt;refine kla_codeExpr ?_;refine wpAny_Call_Name_kw (Calls.Name_function_global hk hg (Calls.loadGlobal_global (mg:=mg) ((e0.mod.glob.keeps fun b o e=>(e0.bs b o e).1).keeps k1) gm ?_) hdb);have la:=(hargs s1.heap.objs.size).keeps (h':=h1) fun b o e=>k1 b o (kp b o e);refine PySem.W.callWith_K (h₀:=h1) (KX.keeps k1) gk (wpAny_mono (Cf.run (pos:=cp) hk la (s:={ s1 with heap:=h1,toks:=s1.toks+0 }) rfl) (fun us s2 hq=>?_) fun _ _ z=>z) (hst _) ?_
 .obtain⟨rv,tk,rfl⟩:=hq
  refine⟨KX.keeps k1,?_⟩;have hl:us.length=ps.length:=by rw[<- rv.length]; exact F.len _ _ _ _ hsp
  have e1:Env0 P w K mg base (A.deeper (newEnv scope s1.heap.objs.size mainGlobals cl (Bt ++ ".<locals>.") (some f) (.ref c') none builtinsNs)) (newEnv scope s1.heap.objs.size mainGlobals cl (Bt ++ ".<locals>.") (some f) (.ref c') none builtinsNs::outer) { s1 with heap:=h1,toks:=tk } H:=by
   refine⟨Around.frames_deeper e0.frames,e0.mod,fun b o e=>⟨k1 _ _ (e0.bs b o e).1,(e0.bs b o e).2⟩,Nat.le_trans e0.bsz (Nat.le_of_lt lt1),?_,fun b hb=>?_,e0.hok.kept k1,e0.bare,e0.tb⟩
   .refine Heap.FunFrames.cons (by show scope.kind≠_; rw[hk]; decide) rfl hns ?_ (e0.funs.of_keeps fun b o e _=>⟨o,k1 _ _ e,rfl⟩)
    cases q:base.get? s1.heap.objs.size with
    | none=>rfl
    | some o=>exact absurd (Heap.lt_size (e0.bs _ _ q).1) (Nat.lt_irrefl _)
   .rw[Gv (L:=s1.heap.objs.size) rfl] at hb
    rcases List.mem_cons.mp hb with rfl|hb
    .exact e0.hok.fresh (Nat.le_refl _)
    .exact e0.frf b hb
  have hb2:=gb { s1 with heap:=h1,toks:=tk } us (KX.keeps k1) (by rw[List.append_nil]; exact hl);rw[List.append_nil] at hb2;refine wpAny_call (codeAny_mono (F.run _ _ _ H ⟨us,[]⟩ us vs (fun _ _=>False) E (hr.deeper _) e1 hb2 rv hsp) fun r s' hq=>?_);cases r with
  | error ex=>exact Ms (base:=base) (L:=s1.heap.objs.size) (s:=s1) (s1:={ s1 with heap:=h1,toks:=tk }) (Around.frames_deeper e0.frames) rfl (Nat.le_refl _) e0.funs rfl k1 hq
  | ok fl =>
   cases fl with
   | ret u=>obtain⟨_,_,_,_,_,_,_,z⟩:=hq; exact z.elim
   | next=>exact False.elim hq
   | brk=>exact False.elim hq
   | cont=>exact False.elim hq
 .have:=Cf.plain (env':=newEnv scope s1.heap.objs.size mainGlobals cl (Bt ++ ".<locals>.") (some f) (.ref c') none builtinsNs) (pos:=cp) la
  rw[hst] at this;have this:(false || (backTo cp (starEach es (newEnv scope s1.heap.objs.size mainGlobals cl (Bt ++ ".<locals>.") (some f) (.ref c') none builtinsNs))).any (·.1))=false:=this;rw[Bool.false_or] at this;exact this
end
theorem Cg.obj{P:Program}{w:World}{H:Hp}{h:Heap}{a:Addr}{o:HO}(x:Cg P w H h a o):∃u,h.get? a=some u:=by
 cases o with
 | lst xs=>obtain⟨_,_,_,_,e⟩:=x; exact⟨_,e⟩
 | tup xs=>obtain⟨_,_,_,o,e,_⟩:=x; exact⟨_,e⟩
 | dK kvs=>obtain⟨_,_,_,_,o,_,_,e,_⟩:=x; exact⟨_,e⟩
 | dT kvs=>obtain⟨_,_,_,_,o,_,_,e,_⟩:=x; exact⟨_,e⟩
 | set S n=>obtain⟨o,_,_,_,e,_⟩:=x; exact⟨_,e⟩
 | ins C dx fs=>obtain⟨_,_,_,e,_⟩:=x; exact⟨_,e⟩
 | own y=>obtain⟨_,e⟩:=x; exact⟨_,e⟩
 | xd fs=>obtain⟨_,⟨_,_,_,e,_⟩,_⟩:=x; exact⟨_,e⟩
 | rng lo hi=>obtain⟨_,_,_,e⟩:=x; exact⟨_,e⟩
 | frz ob u=>obtain⟨e,_⟩:=x; exact⟨_,e⟩
 | tbl ps=>obtain⟨_,e,_⟩:=x; exact⟨_,e⟩
 | met f y=>exact⟨_,(show h.get? a=some _ from x)⟩
 | ext φ=>obtain⟨_,⟨_,e⟩,_⟩:=x; exact⟨_,e⟩
theorem HOk.none{P:Program}{w:World}{H:Hp}{h:Heap}{a:Addr}(x:HOk P w H h)(e:h.get? a=Option.none):H a=Option.none:=by
 cases q:H a with
 | none=>rfl
 | some u =>
  obtain⟨o,z⟩:=(x a u q).obj;rw[e] at z; cases z
theorem FlyAt.untracked{P:Program}{w:World}{outer:List Env}{H H':Hp}{s s':Shared}{a C:Addr}{a0:Value}{B:Heap}(F:FlyAt P w outer H s a C a0 B H' s'):H' a=Option.none:=F.hok.none F.fly.2.1
noncomputable abbrev Cx.mk2(X:Cx)(a:Addr)(o:Obj):Cx:={ X with A:=X.A.mark (some (.ref a)),calm:=false,H₀:=upd X.H₀ a (.frz o (.own a)),xe:=fun _ _=>False }
section
variable{X:Cx}{pins:List (Addr×Obj)}{σ:St}{H:Hp}{s:Shared}{a:Addr}{o:Obj}
theorem Inv.mk2(I:Inv X pins σ H s)(ha:H a=some (.frz o (.own a)))(hs:X.s₀.heap.get? a=none)(hn:X.H₀ a=none):Inv (X.mk2 a o) pins σ H s:=by
 have k:=I.ok;have ne:∀b u,X.s₀.heap.get? b=some u->b≠a:=fun b u e z=>by rw[z,hs] at e; cases e
 have nh:∀b u,X.H₀ b=some u->b≠a:=fun b u e z=>by rw[z,hn] at e; cases e
 refine⟨⟨k.mod,k.kind,k.glob,k.blt,k.above,k.inj,k.has,k.cab,fun z=>absurd z Bool.false_ne_true,k.frames,k.stk,k.exf,fun b ob e=>⟨(k.bs b ob e).1,?_⟩,k.bsz,k.noex,k.exfs,k.funs,fun b hb=>?_,fun n q hm c p e=>?_⟩,
  I.os,I.bare,⟨fun b ob e n=>I.base.keep b ob e ?_,fun b ob e n=>I.base.slot b ob e ?_,fun b ob e n=>I.base.free b ob e ?_,I.base.there,fun b xs e=>?_,fun b ob u e=>?_,fun b qs e=>?_⟩,I.loc,I.cell,I.free,I.freeC,I.pin,I.hok,I.len⟩
 .show upd X.H₀ a _ b=none
  rw[Au (ne b ob (k.bs b ob e).1)]; exact(k.bs b ob e).2
 .obtain⟨_,ob,e,_⟩:=k.funs.mem hb
  show upd X.H₀ a _ b=none;rw[Au (ne b ob e)]; exact k.frf b hb
 .obtain⟨ps,e1,e2⟩:=k.tb n q hm c p e
  exact⟨ps,by show upd X.H₀ a _ p=_; rw[Au (nh p _ e1)]; exact e1,e2⟩
 .have n:upd X.H₀ a _ b=none:=n
  rw[Au (ne b ob e)] at n; exact n
 .have n:upd X.H₀ a _ b=none:=n
  rw[Au (ne b ob e)] at n; exact n
 .have n:upd X.H₀ a _ b=none:=n
  rw[Au (ne b ob e)] at n; exact n
 .have e:upd X.H₀ a _ b=_:=e
  by_cases z:b=a
  .rw[z,AB] at e; cases e
  .rw[Au z] at e; exact I.base.tups b xs e
 .have e:upd X.H₀ a _ b=_:=e
  by_cases z:b=a
  .rw[z,AB] at e; cases e; rw[z]; exact ha
  .rw[Au z] at e; exact I.base.frzs b ob u e
 .have e:upd X.H₀ a _ b=_:=e
  by_cases z:b=a
  .rw[z,AB] at e; cases e
  .rw[Au z] at e; exact I.base.tbls b qs e
theorem Inv.un2(I:Inv (X.mk2 a o) pins σ H s)(k:X.Ok)(hs:X.s₀.heap.get? a=none)(hn:X.H₀ a=none):Inv X pins σ H s:=by
 have ne:∀b u,X.s₀.heap.get? b=some u->b≠a:=fun b u e z=>by rw[z,hs] at e; cases e
 have nh:∀b u,X.H₀ b=some u->b≠a:=fun b u e z=>by rw[z,hn] at e; cases e
 have u:=I.base;refine⟨k,I.os,I.bare,⟨fun b ob e n=>u.keep b ob e ?_,fun b ob e n=>u.slot b ob e ?_,fun b ob e n=>u.free b ob e ?_,u.there,fun b xs e=>u.tups b xs ?_,fun b ob v e=>u.frzs b ob v ?_,fun b qs e=>u.tbls b qs ?_⟩,I.loc,I.cell,I.free,I.freeC,I.pin,I.hok,I.len⟩
 .show upd X.H₀ a _ b=none; rw[Au (ne b ob e)]; exact n
 .show upd X.H₀ a _ b=none; rw[Au (ne b ob e)]; exact n
 .show upd X.H₀ a _ b=none; rw[Au (ne b ob e)]; exact n
 .show upd X.H₀ a _ b=_; rw[Au (nh b _ e)]; exact e
 .show upd X.H₀ a _ b=_; rw[Au (nh b _ e)]; exact e
 .show upd X.H₀ a _ b=_; rw[Au (nh b _ e)]; exact e
theorem Xn{vs:Array Value}(hd:o.data=.fields vs)(h2:vs[2]? = some .none):Mkd (X.mk2 a o):=⟨a,o,_,vs,rfl,AB,hd,h2⟩
end
theorem Pz{CX:CXT}{P:Program}{w:World}{K:Frag}{mg:Str->Option Value}{base:Heap}{k:Nat}{f:Addr}{name qual:Str}{params:Arguments}{body:List Stmt}{scope:Scope}{dV kV doc pm cdv ct oc:Value}{an od:Option Addr}{osl:Array (Option Value)}{N ps:List Str}(lk:K.lookup f=some ⟨oc,od,.func (PySem.W.fnOf name qual params body scope dV kV doc pm an cdv ct),osl⟩)(hcd:PySem.W.codeIn K cdv qual=true)(S:FnScope N ps scope){A:Around}{outer:List Env}{s:Shared}{H:Hp}{args:Args}{us:List Value}{vs:List V}{Q:VK}{E:XK}(hr:Room (k+1) A)(e0:Env0 P w K mg base A outer s H)(hb:BindsTo s (PySem.W.fnOf name qual params body scope dV kV doc pm an cdv ct) args (ps.zip us))(r:Vals vs us)(hl:vs.length=ps.length)(hbody:∀s1,Room k (A.deeper (envOfC qual scope s.heap.objs.size f cdv))->Inv (A7 CX P w K mg base N qual scope f cdv A outer s H E) [] (start N vs) H s1->(∀b o,s.heap.get? b=some o->s1.heap.get? b=some o) ->
   wpAny (model P w) (A.deeper (envOfC qual scope s.heap.objs.size f cdv)) (execs body (envOfC qual scope s.heap.objs.size f cdv)) (SP (A7 CX P w K mg base N qual scope f cdv A outer s H E) [] { nx:=fun _ H'=>Q .non H',rt:=Q }) (A7 CX P w K mg base N qual scope f cdv A outer s H E).xe s1):
  codeAny (model P w) A (.call (.ref f) args) (CR CX outer P w H s Q E) s:=by
 have KX:K.In s.heap:=e0.mod.kin.keeps fun b o e=>(e0.bs b o e).1;have lim:s.heap.NoLimit:=e0.mod.nolimit.keeps fun b o e=>(e0.bs b o e).1;have hkind:∀y∈ps.zip us,scope.names.lookup y.1=some .local\/(scope.names.lookup y.1=some .cell/\((cellsFrom (s.heap.objs.size+1) scope.names []).lookup y.1).isSome=true):=fun⟨n,v⟩ hy=>by
  rcases S.par n (List.of_mem_zip hy).1 with q|q
  .exact .inl q
  .exact .inr ⟨q,PySem.W.cellsFrom_some _ _ _ (.inl q)⟩
 refine codeAny_call_function hr.depth (KX _ _ lk) rfl S.co S.gen rfl (PySem.W.codeRec_of KX hcd) (hb _ _ _ _ ?_);refine wpAny_newFunctionEnv_cells S.kind hkind fun env he s1 x=>?_;subst he;refine⟨lim.keeps x.toInCall.keep,codeAny_func ?_⟩;have I:Inv (A7 CX P w K mg base N qual scope f cdv A outer s H E) [] (start N vs) H s1:=G0 S hr.hd e0 hl r x;refine wpAny_mono (hbody s1 (hr.deeper _) I x.toInCall.keep) (fun fl s' hs=>?_) fun e s' hs=>hs;have fin:∀{σ':St} {H':Hp} {v:V} {u:Value},Inv (A7 CX P w K mg base N qual scope f cdv A outer s H E) [] σ' H' s'->RelV v u->Q v H'->CE outer P w H s Q u s':=
  fun {σ' H' v u} J rv q=>⟨v,H',J.os,J.bare,J.base,J.hok,rv,q⟩
 cases fl with
 | ret u =>
  obtain⟨v,σ',H',J,rv,q⟩:=hs;exact fin J rv q
 | next =>
  obtain⟨σ',H',J,q⟩:=hs;exact fin (v:=V.non) (u:=Value.none) J rfl q
 | brk =>
  obtain⟨_,_,_,q⟩:=hs;exact False.elim q
 | cont =>
  obtain⟨_,_,_,q⟩:=hs;exact False.elim q
theorem O5{K:Frag}{h:Heap}{C B:Addr}{n n':String}(X:K.In h)(qC:excIn K C Rn n=true)(qB:excIn K B Rn n'=true)(hm:mroIn K C (.ref B)=some true)(hne:C≠B):Above h C B:=by
 obtain⟨bm',N',nm',qn',bs',hdct',sn',sub',ab',col',dd',j0,j1,j2,j3,j5,mN',hB,_,_,T'⟩:=Nt X qB;have hbase:=T'.hasType PySem.F.excBase_ValueError.hasBase;unfold excIn at qC;split at qC
 .rename_i dd cd sl ho
  split at qC
  .rename_i C' bm k0 k1 k2 k3 n k5 hmro hs
   simp only[Bool.and_eq_true,beq_iff_eq,Bool.not_eq_true'] at qC;obtain⟨⟨⟨⟨⟨rfl,rfl⟩,hdel⟩,ht⟩,hok⟩,hni⟩:=qC;have hc:clsIn K C'=some cd:=by unfold clsIn; rw[ho]
   unfold mroIn at hm;rw[hc,Option.bind_some,hmro] at hm;have hm2:(Value.ref C'::bm).contains (.ref B)=true:=by simpa using hm
   rw[List.contains_cons] at hm2;have hne2:((Value.ref B:Value)==.ref C')=false:=by
    rw[Bool.eq_false_iff];intro z;exact hne (Value.ref.inj (beq_iff_eq.mp z)).symm
   rw[hne2,Bool.false_or] at hm2;obtain⟨nm,bs,mro,ns,qn,hd,sn,sub,ab,col,del⟩:=cd;dsimp only at hmro hdel hok hni;subst hmro hdel;have hsl:sl = #[k0,k1,k2,k3,some (.builtin n),k5]:=by
    obtain⟨l⟩:=sl;simp only at hs;rw[hs]
   subst hsl;exact⟨_,_,_,_,_,_,_,_,_,_,_,_,_,_,_,_,_,_,_,_,_,_,_,_,_,_,_,_,_,_,_,_,_,_,X _ _ ho,hB,hbase,hm2⟩
  .cases qC
 .cases qC
end L2
end
section
namespace J
open PySem PySem.Spec PyProof.Rows L2
section
variable{P:Program}{w:World}{K:Frag}{mg:Str->Option Value}{base:Heap}
theorem GV{M:Model}{A:Around}{E:Value->Shared->Prop}{s:Shared}{env:Env}{st:Stmt}{Q:Flow->Shared->Prop}(h:wpAny M A (exec st env) Q E s):wpAny M A (execs [st] env) Q E s:=by
 refine wpAny_execs_cons (wpAny_mono h (fun fl s2 q=>?_) fun _ _ z=>z);cases fl with
 | next=>exact wpAny_execs_nil q
 | brk=>exact q
 | cont=>exact q
 | ret u=>exact q
theorem O2{Φ:Fn}{a:Addr}{o:Obj}{wd:Str}(hΦ : Φ [(.lent,.opq a o)]=some (.fz (.str wd),[.opq a o])):
  Hg (Ab (Ag (.str "refused")) (Ab (Ar Φ (Ab (Ad 1) Aj)) Aj)) [none,some (.own,.opq a o)]=some (.val (.fz (.tup [.str "refused",.str wd])),[none,some (.own,.opq a o)]):=by
 have h2:2<=LIM:=by decide
 simp[Hg,Ab,Ag,Ar,Ad,Aj,Cw,E6,refs,hΦ,vals,mkT,fzs,back,M9,h2]
theorem M4{k kw kc:Nat}{f C HE fv:Addr}{fd:FuncData}{st:Stmt}{wd:Str}{Φ:Fn}{k1 k2 k3 k4:Nat}{p1 p2 p3 p4 p5 p6 p7 p8 p9 p10 p11 p12 p13 p14:Pos}{A:Around}{outer:List Env}{s:Shared}{H:Hp}(F:Fun K "_law_answer" "_law_answer" st f fd)(S:FnScope ["_law_deed","_law_e"] ["_law_deed"] (Ao st))(hbd:Binds K fd ["_law_deed"] [])(hbody:BO st=[.Try [.Return (some (.Tuple [.Constant (.str "told") k1 p1,.Call (.Name "_law_deed" p2) [] [] p3] k2 p4)) p5]
   [.ExceptHandler (some (.Name "HandError" p6)) (some "_law_e") [.Return (some (.Tuple [.Constant (.str "refused") k3 p7,.Call (.Name "_law_word" p8) [.Name "_law_e" p9] [] p10] k4 p11)) p12] p13] [] [] p14])(hs1:(Ao st).names.lookup ("_law_deed" : Str)=some .local)(hs2:(Ao st).names.lookup ("_law_e" : Str)=some .local)(hs3:(Ao st).names.lookup ("HandError" : Str)=some .globalImplicit)(hs4:(Ao st).names.lookup ("_law_word" : Str)=some .globalImplicit)(hHE:mg "HandError" = some (.ref HE))(hab:Above base C HE)(W:DefM P w K mg base CX0 kw "_law_word" ["_law_e"] (spJ K Φ 1))(hnp:∀args y,Φ args=some y->args.length=1)(hΦ:∀a o,o.cls=.ref C -> Φ [(.lent,.opq a o)]=some (.fz (.str wd),[.opq a o]))(hkw:kw<=k)(hkc:kc<=k)(hr:Room (k+1) A)(e0:Env0 P w K mg base A outer s H)(clo:Clo P w K mg base kc (fun c _ H'=>c=.ref C/\BW H H') fv s H):
  codeAny (model P w) A (.call (.ref f) ⟨[.ref fv],[]⟩) (CR CX0 outer P w H s (fun v H'=>BW H H'/\Rep H' v (.tup [.str "refused",.str wd])) E0) s:=by
 obtain⟨oc,od,kV,doc,pm,an,cdv,ct,osl,rfl,lk,hcd⟩:=F.ex;have KX:K.In s.heap:=e0.mod.kin.keeps fun b o e=>(e0.bs b o e).1;have hb:=hbd s [.ref fv] KX rfl;refine Pz (E:=E0) lk hcd S hr e0 (us:=[.ref fv]) hb (vs:=[.ref fv]) (.cons rfl .nil) rfl fun s1 hr1 I kp=>?_;rw[hbody];refine GV ?_;have I:Inv (A7 CX0 P w K mg base ["_law_deed","_law_e"] "_law_answer" (Ao st) f cdv A outer s H E0) [] [some (.ref fv),none] H s1:=I;refine S2 (X:=A7 CX0 P w K mg base ["_law_deed","_law_e"] "_law_answer" (Ao st) f cdv A outer s H E0) (σ:=[some (.ref fv),none]) (H:=H) ?_;refine GV (wpAny_Return_some (wpAny_Tuple_spliced ?_));refine Calls.spliced_cons (wpAny_Constant_str (k:=k1) (pos:=p1) ?_);refine Calls.spliced_cons ?_;obtain⟨m,hn,hl⟩:=I.loc;obtain⟨u,ru,lku⟩:=hl 0 "_law_deed" (.ref fv) rfl rfl (.inl hs1);obtain rfl:u=.ref fv:=ru;have hm:m "_law_deed" = some (.ref fv):=by
  rcases lku with ⟨_,z⟩|⟨z,_⟩
  .exact z
  .rcases z with z|z<;>(rw[show Env.kindOf (A7 CX0 P w K mg base ["_law_deed","_law_e"] "_law_answer" (Ao st) f cdv A outer s H E0).env ("_law_deed" : Str)=some .local from hs1] at z; cases z)
 refine wpAny_Call_Name_kw (wpAny_Name (wpAny_loadName_local (v:=.ref fv) S.kind hs1 hn hm ?_) (by decide));have clo1:=clo.keeps (s':={ s1 with toks:=s1.toks+1 }) kp;refine PySem.W.callWith_F0 clo1.fn ?_;have I1:=I.tok (s1.toks+1);refine wpAny_call (codeAny_mono (clo1.run _ _ _ (hr1.mono hkc) I1.env0 fun _ _ e=>e) fun r s2 hq=>?_);cases r with
 | ok fl =>
  cases fl with
  | ret u=>obtain⟨_,_,_,_,_,_,_,z⟩:=hq; exact z.elim
  | next=>exact False.elim hq
  | brk=>exact False.elim hq
  | cont=>exact False.elim hq
 | error ex =>
  refine Je (X:=A7 CX0 P w K mg base ["_law_deed","_law_e"] "_law_answer" (Ao st) f cdv A outer s H E0) (E:=fun c _ H'=>c=.ref C/\BW H H') rfl rfl rfl rfl rfl (fun σ H1 H2 s3 s4 a C' a0 B I3 F3 I4 he=>?_) _ H _ _ _ I1 hq;obtain⟨hc,sm⟩:=he;obtain rfl:C'=C:=Value.ref.inj hc;have fresh3:s3.heap.get? a=none:=F3.fresh I3.env0;have fresh0:s.heap.get? a=none:=by
   cases q:s.heap.get? a with
   | none=>rfl
   | some o =>
    obtain⟨o',z⟩:=I3.base.there a o q (fun z=>absurd (show a∈([]:List Addr) from z) (by simp));rw[fresh3] at z; cases z
  refine Mu (X:=A7 CX0 P w K mg base ["_law_deed","_law_e"] "_law_answer" (Ao st) f cdv A outer s H E0) (i:=1) (HE:=HE) S.nd rfl hs2 hs2 hs3 hHE (by decide) hab I3 F3 F3.untracked ?_;intro oe vs s5 hcls hd h2 I5;have I6:=I5.mk2 AB fresh0 (e0.hok.none fresh0);have hl6:(σ.set 1 (some (.ref a))).length=2:=by rw[List.length_set]; exact I3.len
  have hlσ : σ.length=2:=I3.len;obtain⟨x0,x1,rfl⟩:∃x0 x1,σ=[x0,x1]:=by
   match σ,hlσ with
   | [x0,x1],_=>exact⟨x0,x1,rfl⟩
  have je:JE ((A7 CX0 P w K mg base ["_law_deed","_law_e"] "_law_answer" (Ao st) f cdv A outer s H E0).mk2 a oe) (.Tuple [.Constant (.str "refused") k3 p7,.Call (.Name "_law_word" p8) [.Name "_law_e" p9] [] p10] k4 p11)
    (Hg (Ab (Ag (.str "refused")) (Ab (Ar Φ (Ab (Ad 1) Aj)) Aj))):=
   Ka (Aa rfl (AD (by decide)) (Aa rfl (PY (X:=(A7 CX0 P w K mg base ["_law_deed","_law_e"] "_law_answer" (Ao st) f cdv A outer s H E0).mk2 a oe) (E:=E0) W hnp rfl rfl rfl rfl rfl (hr1.marked _) hkw (Xn hd h2) (fun _ _ _ _ _ _ _ z=>False.elim z) (by decide) hs4 rfl rfl (Aa rfl (MC 1 rfl (.inl hs2) (by decide) (by decide)) Af)) Af))
  have cl:=je [] s5 _ _ (fun v H'=>BW H H'/\Rep H' v (.tup [.str "refused",.str wd])) I6 ?_
  .refine wpAny_mono cl (fun u s6 q=>?_) fun _ _ z=>z
   obtain⟨v,H6,I7,r7,q7⟩:=q;exact⟨v,_,H6,I7.un2 I3.ok fresh0 (e0.hok.none fresh0),r7,q7⟩
  .refine⟨[none,some (.own,.opq a oe)],fun _=>False,fun _=>[],⟨rfl,fun i st' a' e=>?_,fun _ _=>rfl,fun _=>List.nodup_nil,fun i j p z=>by simp at z,fun i p z=>by simp at z,fun p z=>?_⟩,_,_,O2 (hΦ a oe hcls),fun v H' q=>?_⟩
   .match i,e with
    | 1,e =>
     cases e;refine⟨.ref a,rfl,?_⟩;rw[Am];exact⟨rfl,rfl,_,AB⟩
   .rcases z with ⟨i,z⟩|z
    .simp at z
    .exact z.elim
   .obtain⟨L,fp',p,rr⟩:=q
    simp only[RR] at rr;rw[Am] at rr;refine⟨fun b o e=>p.kept b o ?_ (.inl fun⟨i,z⟩=>by simp at z),Dh (fun _ z=>z.elim) rr.2⟩;have ne:b≠a:=fun z=>by
     rw[z,e0.hok.none fresh0] at e; cases e
    rw[Au ne];exact sm b o e
end
end J
end
section
namespace J
open PySem PySem.Spec PyProof.Rows L2 PySem.W
section
variable{P:Program}{w:World}{K:Frag}{mg:Str->Option Value}{base:Heap}
structure Ans (P:Program) (w:World) (K:Frag) (mg:Str->Option Value) (base:Heap) (k kc:Nat) (C:Addr) (wd:Str):Prop where
 ex:∃fa,mg "_law_answer" = some (.ref fa)/\keepIn K (.ref fa)=true/\∀(A:Around) (outer:List Env) (s:Shared) (H:Hp) (fv:Addr),Room k A->Env0 P w K mg base A outer s H->Clo P w K mg base kc (fun c _ H'=>c=.ref C/\BW H H') fv s H ->
  codeAny (model P w) A (.call (.ref fa) ⟨[.ref fv],[]⟩) (CR CX0 outer P w H s (fun v H'=>BW H H'/\Rep H' v (.tup [.str "refused",.str wd])) E0) s
theorem LV{k ka kc:Nat}{f C fv:Addr}{fd:FuncData}{st:Stmt}{wd:Str}{t:Tok}{k1 k2:Nat}{p1 p2 p3 p4 p5 p6 p7 p8:Pos}{A:Around}{outer:List Env}{s:Shared}{H:Hp}(F:Fun K "_law_refuses" "_law_refuses" st f fd)(S:FnScope ["_law_deed","_law_word_here"] ["_law_deed","_law_word_here"] (Ao st))(hbd:Binds K fd ["_law_deed","_law_word_here"] [])(hbody:BO st=[.Return (some (.Compare (.Call (.Name "_law_answer" p1) [.Name "_law_deed" p2] [] p3) [.Eq] [.Tuple [.Constant (.str "refused") k1 p4,.Name "_law_word_here" p5] k2 p6] p7)) p8])(hs1:(Ao st).names.lookup ("_law_deed" : Str)=some .local)(hs2:(Ao st).names.lookup ("_law_word_here" : Str)=some .local)(hs3:(Ao st).names.lookup ("_law_answer" : Str)=some .globalImplicit)(An:Ans P w K mg base ka kc C wd)(hwd:wd.length<=sizeLine)(hka:ka<=k)(hr:Room (k+1) A)(e0:Env0 P w K mg base A outer s H)(clo:Clo P w K mg base kc (fun c _ H'=>c=.ref C/\BW H H') fv s H):
  codeAny (model P w) A (.call (.ref f) ⟨[.ref fv,.str wd t],[]⟩) (CR CX0 outer P w H s (fun v H'=>v=.bl true/\BW H H') E0) s:=by
 obtain⟨oc,od,kV,doc,pm,an,cdv,ct,osl,rfl,lk,hcd⟩:=F.ex;obtain⟨fa,am,ak,arun⟩:=An.ex;have KX:K.In s.heap:=e0.mod.kin.keeps fun b o e=>(e0.bs b o e).1;have hb:=hbd s [.ref fv,.str wd t] KX rfl;refine Pz (E:=E0) lk hcd S hr e0 (us:=[.ref fv,.str wd t]) hb (vs:=[.ref fv,.str wd]) (.cons rfl (.cons ⟨t,rfl⟩ .nil)) rfl fun s1 hr1 I kp=>?_;rw[hbody];have I:Inv (A7 CX0 P w K mg base ["_law_deed","_law_word_here"] "_law_refuses" (Ao st) f cdv A outer s H E0) [] [some (.ref fv),some (.str wd)] H s1:=I;refine GV (wpAny_Return_some (wpAny_Compare1 ?_ rfl));obtain⟨m,hn,hl⟩:=I.loc;obtain⟨u,ru,lku⟩:=hl 0 "_law_deed" (.ref fv) rfl rfl (.inl hs1);obtain rfl:u=.ref fv:=ru;have hm:m "_law_deed" = some (.ref fv):=by
  rcases lku with ⟨_,z⟩|⟨z,_⟩
  .exact z
  .rcases z with z|z<;>(rw[show Env.kindOf (A7 CX0 P w K mg base ["_law_deed","_law_word_here"] "_law_refuses" (Ao st) f cdv A outer s H E0).env ("_law_deed" : Str)=some .local from hs1] at z; cases z)
 refine wpAny_Call_Name_kw (FJ (X:=A7 CX0 P w K mg base ["_law_deed","_law_word_here"] "_law_refuses" (Ao st) f cdv A outer s H E0) I hs3 am ?_ (by decide));refine callWith_K (h₀:=base) I.ok.mod.kin ak ?_ rfl rfl;refine Calls.spliced_cons (wpAny_Name (wpAny_loadName_local (v:=.ref fv) S.kind hs1 hn hm ?_) (by decide));refine Calls.spliced_nil ⟨I.kIn,?_⟩;refine wpAny_call (codeAny_mono (arun _ _ _ _ fv (hr1.mono hka) I.env0 (clo.keeps kp)) fun r s2 hq=>?_);cases r with
 | error ex=>exact False.elim hq
 | ok fl =>
  cases fl with
  | next=>exact False.elim hq
  | brk=>exact False.elim hq
  | cont=>exact False.elim hq
  | ret u =>
   obtain⟨v,H2,I2,r2,sm,rep⟩:=I.after hq;have je:JE (A7 CX0 P w K mg base ["_law_deed","_law_word_here"] "_law_refuses" (Ao st) f cdv A outer s H E0) (.Tuple [.Constant (.str "refused") k1 p4,.Name "_law_word_here" p5] k2 p6) (Hg (Ab (Ag (.str "refused")) (Ab (Ad 1) Aj))):=
    Ka (Aa rfl (AD (by decide)) (Aa rfl (MC 1 rfl (.inl hs2) (by decide) (by decide)) Af))
   have em:Hg (Ab (Ag (.str "refused")) (Ab (Ad 1) Aj)) [none,some (.own,.fz (.str wd))]=some (.val (.fz (.tup [.str "refused",.str wd])),[none,some (.own,.fz (.str wd))]):=by
    have h2:2<=LIM:=by decide
    simp[Hg,Ab,Ag,Ad,Aj,vals,mkT,fzs,h2]
   refine thn (je [] s2 _ H2 (fun v H'=>BW H2 H'/\Rep H' v (.tup [.str "refused",.str wd])) I2 ?_) fun u3 s3 q3=>?_
   .refine⟨[none,some (.own,.fz (.str wd))],fun _=>False,fun _=>[],⟨rfl,fun i st' a' e=>?_,fun _ _=>rfl,fun _=>List.nodup_nil,fun i j p z=>by simp at z,fun i p z=>by simp at z,fun p z=>?_⟩,_,_,em,fun v H' q=>?_⟩
    .match i,e with
     | 1,e =>
      cases e;refine⟨.str wd,rfl,?_⟩;rw[Am];exact⟨rfl,.str wd hwd⟩
    .rcases z with ⟨i,z⟩|z
     .simp at z
     .exact z.elim
    .obtain⟨L,fp',p,rr⟩:=q
     simp only[RR] at rr;rw[Am] at rr;exact⟨fun b o e=>p.kept b o e (.inl fun⟨i,z⟩=>by simp at z),Dh (fun _ z=>z.elim) rr.2⟩
   .obtain⟨v3,H3,I3,r3,sm3,rep3⟩:=q3
    refine thn (Ca hr1 [] s3 _ H3 v v3 _ _ (fun v H'=>v=.bl true/\BW H H') I3 r2 r3 ⟨_,_,rep.same (fun b o _ e=>sm3 b o e) (fun b xs e=>sm3 b _ e),rep3,.tup fun d hd=>?_,?_,sm.trans sm3⟩) fun u4 s4 q4=>?_
    .rcases List.mem_cons.mp hd with rfl|hd
     .exact .str _
     .rcases List.mem_cons.mp hd with rfl|hd
      .exact .str _
      .simp at hd
    .have:eqD (.tup [.str "refused",.str wd]) (.tup [.str "refused",.str wd])=(("refused" : Str) == "refused" && ((wd==wd)&&true)):=rfl
     rw[this,beq_self_eq_true,beq_self_eq_true]; rfl
    .obtain⟨v4,H4,I4,r4,q4⟩:=q4
     exact⟨v4,_,H4,I4,r4,q4⟩
structure Rfs (P:Program) (w:World) (K:Frag) (mg:Str->Option Value) (base:Heap) (k kc:Nat) (C:Addr) (wd:Str):Prop where
 ex:∃fa,mg "_law_refuses" = some (.ref fa)/\keepIn K (.ref fa)=true/\∀(A:Around) (outer:List Env) (s:Shared) (H:Hp) (fv:Addr) (t:Tok),Room k A->Env0 P w K mg base A outer s H->Clo P w K mg base kc (fun c _ H'=>c=.ref C/\BW H H') fv s H ->
  codeAny (model P w) A (.call (.ref fa) ⟨[.ref fv,.str wd t],[]⟩) (CR CX0 outer P w H s (fun v H'=>v=.bl true/\BW H H') E0) s
end
inductive LA where
 | nm (i:Nat)|tx (z:Str)
noncomputable def laE(X:Cx)(scope:Scope):List LA->List Expr->Prop
 | [],[]=>True
 | .nm i::ls,.Name x _::es=>(X.N[i]? = some x/\scope.names.lookup x=some .free/\X.env.scope.names.lookup x=some .cell/\(x==("__debug__" : Str))=false/\(x==("__classdict__" : Str))=false)/\laE X scope ls es
 | .tx z::ls,.Constant (.str z') _ _::es=>(z=z'/\z.length<=sizeLine)/\laE X scope ls es
 | _,_=>False
noncomputable def laD(Z:Ro):LA->Option (Own×A)
 | .nm i=>match Z[i]? with
  | some (some (_,.fz d))=>some (.own,.fz d)
  | _=>none
 | .tx z=>some (.own,.fz (.str z))
noncomputable def Qg(Z:Ro):List LA->Option (List (Own×A))
 | []=>some []
 | l::ls=>(laD Z l).bind fun a=>(Qg Z ls).map (a :: ·)
noncomputable def OP(Ψ:FnR)(ls:List LA)(wd:Str):ME:=fun Z=>(Qg Z ls).bind fun as=>(Ψ as).bind fun y=>if y=wd then some (.val (.fz (.bl true)),Z) else none
theorem Np{cells:List (Str×Addr)}{x:Str}{c:Addr}(hc:cells.lookup x=some c):∀{names:List (Str×NameKind)} {cs:List (Str×Addr)},(cs.lookup x=some c\/(cs.lookup x=none/\(x,NameKind.free)∈names))->(clo cells names cs).lookup x=some c
 | [],cs,h=>by
  rcases h with h|⟨_,h⟩
  .exact h
  .simp at h
 | (n,k)::r,cs,h=>by
  simp only[clo];apply Np hc;cases hk:(k==NameKind.free) with
  | true =>
   simp only[if_true,List.lookup_cons];cases hx:(x==n) with
   | true =>
    have:x=n:=beq_iff_eq.mp hx;subst this;simp only[hc,Option.getD_some];exact .inl trivial
   | false =>
    simp only;rcases h with h|⟨h1,h2⟩
    .exact .inl h
    .refine .inr ⟨h1,?_⟩
     rcases List.mem_cons.mp h2 with z|z
     .cases z; simp at hx
     .exact z
  | false =>
   simp only[Bool.false_eq_true,if_false];rcases h with h|⟨h1,h2⟩
   .exact .inl h
   .refine .inr ⟨h1,?_⟩
    rcases List.mem_cons.mp h2 with z|z
    .cases z; simp at hk
    .exact z
section
variable{X:Cx}{scope:Scope}{pins:List (Addr×Obj)}{σ:L2.St}{H H2:Hp}{s:Shared}{Z:Ro}{O:Addr->Prop}{fp:Nat->List Addr}
theorem RX{env:Env}(I:Inv X pins σ H2 s)(sm:BW H H2)(rl:Rel X.K Z σ H O fp)(hes:env.scope=scope)(hcl:env.cells=clo X.env.cells scope.names []):
  ∀{ls:List LA} {es:List Expr} {as:List (Own×A)},laE X scope ls es->Qg Z ls=some as->∃vs,vs.length=as.length/\Cf env s.heap es vs/\∀(j:Nat) st a,as[j]? = some (st,a)->∃v d,vs[j]? = some v/\a=.fz d/\Rep H2 v d:=by
 intro ls;induction ls with
 | nil =>
  intro es as h e;cases es with
  | nil=>cases e; exact⟨[],rfl,trivial,fun j st a z=>by simp at z⟩
  | cons _ _=>exact h.elim
 | cons l ls ih =>
  intro es as h e;simp only[Qg,bind_eq_some_iff,map_eq_some_iff] at e;obtain⟨a1,e1,as',e2,rfl⟩:=e;cases l with
  | nm i =>
   cases es with
   | nil=>exact h.elim
   | cons ex es =>
    cases ex with
    | Name x p =>
     obtain⟨⟨h1,h2,h3,h4,h5⟩,h⟩:=h;obtain⟨vs,l1,l2,l3⟩:=ih h e2;simp only[laD] at e1;split at e1
     .rename_i st d hi
      cases e1;obtain⟨v,hv,rep⟩:=rl.slot i st _ hi;rw[Am] at rep;obtain⟨m,hn,hl⟩:=I.loc;obtain⟨u,ru,lk⟩:=hl i x v h1 hv (.inr (.inl h3));have hce:∃c,X.env.cells.lookup x=some c/\s.heap.IsCell c (some u):=by
       rcases lk with ⟨z,_⟩|⟨_,z⟩
       .rw[show X.env.kindOf x=some .cell from h3] at z; cases z
       .exact z
      obtain⟨c,c1,c2⟩:=hce;refine⟨v::vs,by simp[l1],⟨⟨by show env.scope.names.lookup x=_; rw[hes]; exact h2,h4,h5,c,u,by rw[hcl]; exact Np c1 (.inr ⟨rfl,mem_of_lookup h2⟩),c2,ru⟩,l2⟩,fun j st' a' z=>?_⟩;cases j with
      | zero=>cases z; exact⟨v,d,rfl,rfl,(Dh (fun _ z=>z.elim) rep.2).same (fun b o _ e=>sm b o e) (fun b xs e=>sm b _ e)⟩
      | succ j=>exact l3 j st' a' (by simpa using z)
     .cases e1
    | _=>exact h.elim
  | tx z =>
   cases es with
   | nil=>exact h.elim
   | cons ex es =>
    cases ex with
    | Constant c k p =>
     cases c with
     | str z' =>
      obtain⟨⟨rfl,hz⟩,h⟩:=h;obtain⟨vs,l1,l2,l3⟩:=ih h e2;cases e1;refine⟨.str z::vs,by simp[l1],⟨rfl,l2⟩,fun j st' a' q=>?_⟩;cases j with
      | zero=>cases q; exact⟨_,_,rfl,rfl,.str z hz⟩
      | succ j=>exact l3 j st' a' (by simpa using q)
     | _=>exact h.elim
    | _=>exact h.elim
theorem Oo{P:Program}{w:World}{K:Frag}{mg:Str->Option Value}{base:Heap}{XC:Str->Addr}{kr kg j np:Nat}{g wd:Str}{ps:List Str}{Ψ:FnR}{ls:List LA}{params:Arguments}{e:Expr}{es:List Expr}{c b:Addr}{gp cp lp p kp pos:Pos}{kk:Nat}(hP:X.prog=P)(hw:X.w=w)(hK:X.K=K)(hm:X.mg=mg)(hb:X.base=base)(R:Rfs P w K mg base kr (kg+1) (XC wd) wd)(Dg:Def P w K mg base (Fly P w) kg g ps (spR K XC Ψ np))(hnp:∀args y,Ψ args=some y->args.length=np)(hr:Room j X.A)(hj:kr<=j)(ht:tabIn K Kc=some (c,b))(hh:codeHdIn K c b=true)(hcode:X.env.code=.ref c)(hg:Gl X "_law_refuses")(hq:X.env.qual ++ "<lambda>" = Bt)(hdef:defaultsOf params X.env=([],[]))(hfree:(scope.names.all fun x=>!(x.2==.free) || X.env.scope.names.lookup x.1==some .cell)=true)(hbind:∀pm c' cl ctv,bindArgs (kla_fn "<lambda>" Bt params (.Call (.Name g gp) (e::es) [] cp) scope cl pm (.ref c') ctv) ⟨[],[]⟩=pure [])(hk:scope.kind=.function)(hco:scope.isCoroutine=false)(hgen:scope.isGenerator=false)(hnc:∀n∈scope.names,n.2≠.cell)(hgg:scope.names.lookup g=some .globalImplicit)(hdb:(g==("__debug__" : Str))=false)(hst:∀env,starEach (e::es) env=(false,eval e env)::starEach es env)(hla:laE X scope ls (e::es)):
  JE X (.Call (.Name "_law_refuses" p) [.Lambda params (.Call (.Name g gp) (e::es) [] cp) scope lp,.Constant (.str wd) kk kp] [] pos) (OP Ψ ls wd):=by
 subst hP hw hK hm hb;intro pins s σ H Q I h;obtain⟨Z,O,fp,rl,r,Z',em,kont⟩:=h;simp only[OP,bind_eq_some_iff] at em;obtain⟨as,e1,y,e2,e3⟩:=em;split at e3
 .rename_i hy
  subst hy;cases e3;obtain⟨fa,rm,rk,run⟩:=R.ex;have hfr:∀x∈scope.names,(x.2==.free)=true->(X.env.cells.lookup x.1).isSome=true:=fun x hx hf=>by
   have:=List.all_eq_true.mp hfree x hx;rw[hf] at this;obtain⟨c,hc⟩:=I.ok.has x.1 (.inl (by
    have q:(X.env.scope.names.lookup x.1==some .cell)=true:=by simpa using this
    exact beq_iff_eq.mp q))
   rw[hc]; rfl
  refine wpAny_Call_Name_kw (FJ I hg rm ?_ (by decide));refine callWith_K (h₀:=X.base) I.ok.mod.kin rk ?_ rfl rfl;refine Calls.spliced_cons (Qj I hcode ht hh hq hdef (JU hfr) fun f c' pm ctv h' tk H2 I2 sm ho hcd=>?_);refine Calls.spliced_cons (wpAny_Constant_str (k:=kk) (pos:=kp) ?_);refine Calls.spliced_nil ⟨I2.kIn,?_⟩;have I3:=I2.tok (tk+1);have clo:Clo X.prog X.w X.K X.mg X.base (kg+1) (fun c _ H'=>c=.ref (XC y)/\BW H2 H') f { s with heap:=h',toks:=tk+1 } H2:=by
   obtain⟨vs,l1,l2,l3⟩:=RX (env:=newEnv scope 0 mainGlobals (clo X.env.cells scope.names []) (Bt ++ ".<locals>.") (some f) (.ref c') none builtinsNs) I3 sm rl rfl rfl hla e1;refine RZ (s:={ s with heap:=h',toks:=tk+1 }) Dg ho hcd (hbind _ _ _ _) hk hco hgen hnc hgg hdb hst (vs:=vs) (fun L=>?_) ?_
   .refine Cf.ind (env:=newEnv scope 0 mainGlobals (clo X.env.cells scope.names []) (Bt ++ ".<locals>.") (some f) (.ref c') none builtinsNs) (h:=h') (M:=fun es vs=>Cf (newEnv scope L mainGlobals (clo X.env.cells scope.names []) (Bt ++ ".<locals>.") (some f) (.ref c') none builtinsNs) h' es vs) trivial (fun x p es v vs a _ ih=>⟨a,ih⟩) (fun z k p es vs _ ih=>⟨rfl,ih⟩) l2
   .refine⟨as,fun _=>False,fun _=>[],by rw[l1]; exact hnp _ _ e2,⟨by simp[l1],fun i st a ea=>?_,fun _ _=>rfl,fun _=>List.nodup_nil,fun i j b h=>by simp at h,fun i b h=>by simp at h,fun b z=>?_⟩,y,e2,fun H' kk=>⟨rfl,fun b o e=>kk b o e (.inl fun⟨i,z⟩=>by simp at z)⟩⟩
    .obtain⟨v,d,hv,rfl,rd⟩:=l3 i st a (by simpa using ea)
     refine⟨v,by simp[hv],?_⟩;rw[Am];refine⟨rfl,Dh (fun b z=>?_) rd⟩;rcases z with ⟨i,z⟩|z
     .simp at z
     .exact z
    .rcases z with ⟨i,z⟩|z
     .simp at z
     .exact z.elim
  refine wpAny_call (codeAny_mono (run _ _ _ _ f tk (hr.mono hj) I3.env0 clo) fun r s2 hq=>?_);cases r with
  | error ex=>exact False.elim hq
  | ok fl =>
   cases fl with
   | next=>exact False.elim hq
   | brk=>exact False.elim hq
   | cont=>exact False.elim hq
   | ret u =>
    obtain⟨v,H3,I4,r4,rfl,sm4⟩:=I3.after hq;exact⟨_,H3,I4,r4,kont _ _ (rl.post.out ⟨sm.trans sm4,[],by rw[Am]; exact⟨rfl,.bl _⟩,List.nodup_nil,fun _ h=>by simp at h⟩)⟩
 .cases e3
end
end J
end
section
namespace L2
open PySem PySem.Spec PyProof.Rows
section
variable{X:Cx}
theorem ON{i:Nat}{y:Str}{py spos:Pos}{own:List Str}{scope:Scope}{target iter elt:Expr}{ifs:List Expr}{pos:Pos}{wi:TI}{un:TU}{tc:TT}{te:TE}(nd:X.N.Nodup)(hiN:X.N[i]? = some y)(hy:X.env.scope.names.lookup y=some .local)(hc:Mkd X)(hok:BR own X.N scope X.env.scope=true)(hi:PIM X target iter wi)(hg:∀C s H fp pins,PGo (cxC X own scope C s H fp pins) target own.length un)(ht:∀C s H fp pins,PTs (cxC X own scope C s H fp pins) ifs tc)(he:∀C s H fp pins,PE (cxC X own scope C s H fp pins) elt te)(hs:∀x,foldedSetIterable iter X.env x=pure x:=by intro _; rfl)(hsw:swapsWith (.ListComp elt [⟨target,iter,ifs,0⟩] scope pos) (some (.Name y py)) spos.line X.env=pure true:=by rfl):
  PS X (.Assign [.Name y py] (.ListComp elt [⟨target,iter,ifs,0⟩] scope pos) spos) (OY (tLc wi un tc te) (HW i)):=by
 intro pins s σ H D I h;rw[exec_Assign_Name_used _ _ _ _ hsw];refine wpAny_bind (wpAny_standAt (wpAny_bind ?_));show wpAny _ X.A (do let _ <- comprehension (.ListComp elt [⟨target,iter,ifs,0⟩] scope pos) scope X.env _ (newList []) false (eval iter X.env) (some (assign (.Name y py) X.env))) _ _ s;refine wpAny_bind (wpAny_mono (wpAny_comprehension_free (use:=some (assign (.Name y py) X.env)) (Q:=fun _ s'=>SP X pins D .next s') rfl hs (JU (BR.free hok I)) (BR.kind hok) (BR.names hok) ?_) (fun _ s' hq=>wpAny_pure (wpAny_pure hq)) fun _ _ e=>e);refine thn (hi pins s σ H _ I h) fun v s1 h1=>thn h1 fun itv s2 h2=>?_;obtain⟨it,fp,tn,J,H2,e,I2,T,st2,f2,q⟩:=h2;subst e;obtain⟨W,w0,turn⟩:=q s2.heap.objs.size I2.fresh;refine wpAny_newObj_type (hd:=by size_fits) ?_;have I3:Inv X pins σ (upd H2 s2.heap.objs.size (.lst [])) { s2 with heap:=s2.heap.push { cls:=.type "list",data:=.seq ([]:List Value).toArray } }:=I2.lnew (its:=[]) (t':=s2.toks) .nil (Nat.zero_le _);have st3:tn 0 (s2.heap.push { cls:=.type "list",data:=.seq ([]:List Value).toArray }):=T.keep _ _ _ st2 fun b _ o e=>Heap.get?_push_of_some _ e;have f3:∀b∈fp,Ep X pins (upd H2 s2.heap.objs.size (.lst [])) b:=fun b hb=>by
  obtain⟨o,e,_⟩:=T.obj _ _ st2 b hb;exact⟨by rw[Au (Nat.ne_of_lt (Heap.lt_size e))]; exact(f2 b hb).1,(f2 b hb).2⟩
 generalize hS:({ s2 with heap:=s2.heap.push { cls:=.type "list",data:=.seq ([]:List Value).toArray } }:Shared)=s3 at I3 st3;have st3':tn 0 s3.heap:=by rw[<- hS]; exact st3
 refine thn (M5 (iter:=iter) (pos:=pos) (acc:=s2.heap.objs.size) (Q:=fun x H1=>HW i x σ H1 D.nx) (R:=compPost (model X.prog X.w) X.A X.xe (some (assign (.Name y py) X.env)) (fun _ s'=>SP X pins D .next s') (.ref s2.heap.objs.size) s3.heap.objs.size) hc hok hg ht he I3 T st3' f3 W w0 turn fun s' σ' H' J' q'=>?_) fun cenv s4 ⟨el,h4⟩=>?_
 .have I4:Inv X pins σ H' s':=Fj I3 f3 J' (h':=s'.heap) (.refl ..)
  obtain⟨m,⟨oC,es,ep,hoC,hdC,hrC⟩,_⟩:=J'.loc;have hCL:s3.heap.objs.size≠X.env.locals:=Nat.ne_of_gt I3.lt;have hfs:s3.heap.objs.size∉X.fs:=I3.nofs (Nat.le_refl _);have hCc:∀x c,X.env.cells.lookup x=some c->c≠s3.heap.objs.size:=fun x c e=>by
   obtain⟨v,z⟩:=I3.cell x c e;exact Nat.ne_of_lt z.lt
  have hCp:∀p∈X.pn++pins,p.1≠s3.heap.objs.size:=fun p hp=>Nat.ne_of_lt (Heap.lt_size (I3.pin p hp).1);have I5:Inv X (pins++[(s3.heap.objs.size,oC)]) σ H' s':=I4.pins_of fun p hp=>(List.mem_append.mp hp).elim (fun z=>I4.pin p (List.mem_append_right _ z)) fun z=>by
   have z':p=(s3.heap.objs.size,oC):=by simpa using z
   subst z';exact⟨hoC,J'.free,hCL,hfs,fun v=>by rw[hdC]; intro z; cases z⟩
  show wpAny _ X.A (assign (.Name y py) X.env (.ref s2.heap.objs.size)) _ _ s';refine wpAny_assign_Name (Fy I5 nd hiN (.inl hy) (v:=.ref s2.heap.objs.size) rfl (fun s6 I6=>?_) (.inr hy));have hp:=I6.pin (s3.heap.objs.size,oC) (List.mem_append_right _ (List.mem_append_right _ (by simp)));refine⟨m,⟨oC,es,ep,hp.1,hdC,hrC⟩,fun h' hs'=>?_⟩;exact⟨_,H',I6.unpinned.turned (h':=h') (t':=s6.toks) (it:=s3.heap.objs.size) (fun b o hb e=>(hs'.2 b hb).trans e) hp.2.1 hCL (.inr I3.sz) hCc hCp,q'⟩
 .rw[<- el] at h4
  exact h4
theorem Sj{k:Nat}(hr:RoomM k X.A):OpR X (compareOp .NotEq) Vu:=by
 intro pins s σ H x y v u Q I rx ry h;obtain⟨d,e,r1,r2,hs,q⟩:=h;exact EqBoolInt.of_rcne (LR I.hok r1 r2 rx ry hs (by have:=hr.units; lia)) ⟨.bl _,H,I,rfl,q⟩
end
end L2
namespace J
open PySem PySem.Spec PyProof.Rows L2
section
variable{X:Cx}{a b c e:Expr}{m:ME}{mt:MT}{mi:MI}{p pos apos cpos q:Pos}{x:Str}{K:Frag}
theorem Oq(i:Nat){y:Str}{py spos:Pos}{scope:Scope}{iter elt:Expr}{ifs:List Expr}{px:Pos}(nd:X.N.Nodup)(hiN:X.N[i]? = some y)(hy:X.env.scope.names.lookup y=some .local)(hok:BR [x] X.N scope X.env.scope=true)(hc:Mkd X)(hx:scope.names.lookup x=some .local)(hs:∀z,foldedSetIterable iter X.env z=pure z)(hsw:swapsWith (.ListComp elt [⟨.Name x px,iter,ifs,0⟩] scope pos) (some (.Name y py)) spos.line X.env=pure true)(hi:JIM X (.Name x px) iter mi)(ht:JTc X [x] scope ifs mt)(he:JEc X [x] scope elt m):
  JS X (.Assign [.Name y py] (.ListComp elt [⟨.Name x px,iter,ifs,0⟩] scope pos) spos) (A9 i (Bn mi 0 mt m)):=by
 have hnx:x∉X.N:=fun hy=>by
  simp only[BR,Bool.and_eq_true,List.all_eq_true] at hok;have:=hok.2 x (by simp);simp[hy] at this
 exact Cd (ON (un:=S4) (te:=tE X.K m) nd hiN hy hc hok hi (fun C s H fp pins=>Iz rfl (List.nodup_cons.mpr ⟨hnx,nd⟩) (lookup_relabel_local hx)) ht (fun C s H fp pins=>he C s H fp pins) hs hsw) fun _ _ _ h=>KO (Rj h)
noncomputable def K2:List Str:=["NoHouse","NoRow","NoMachine","NoRoom","NoHand","Unlike","NoPast","TooMany","Torn","NoTable","NoSet","Falls","Whole","NoText","NoWord"]
structure XW (K:Frag) (mg:Str->Option Value) (C:Addr) (wd:Str):Prop where
 cls:ExcCls K C
 cd:(PySem.W.clsIn K C).isSome=true
 own:∀y∈K2,∃a,mg y=some (.ref a)/\PySem.W.kitOne K (.ref C) (.ref a)=some (y==wd)
 ve:mg "ValueError" = none/\PySem.W.kitOne K (.ref C) (.type "ValueError")=some true
theorem CO{y wd:Str}{C:Addr}(bb:Bool)(W:XW X.K X.mg C wd)(hy:y∈K2)(hb:(y==wd)=bb)(hdb:(y==("__debug__" : Str))=false)(hgy:Gl X y)(hg:Gl X "isinstance")(B:Blt X.mg X.K)(he:starEach [a,.Name y q] X.env=[(false,eval a X.env),(false,eval (.Name y q) X.env)])(he2:starEach [.Name y q] X.env=[(false,eval (.Name y q) X.env)])(ha:JE X a m):
  JE X (.Call (.Name "isinstance" p) [a,.Name y q] [] pos) (opM (Bl C bb) (m1L m)):=by
 obtain⟨cd,hcd⟩:=Option.isSome_iff_exists.mp W.cd;obtain⟨ay,h1,h2⟩:=W.own y hy;rw[hb] at h2;exact P4 (c:=.ref ay) W.cls hcd h2 (fun u r=>r) (Ku hgy h1 rfl hdb) hg B he he2 ha
theorem Uu{wd:Str}{C:Addr}(W:XW X.K X.mg C wd)(hgy:Gl X "ValueError")(hg:Gl X "isinstance")(B:Blt X.mg X.K)(he:starEach [a,.Name "ValueError" q] X.env=[(false,eval a X.env),(false,eval (.Name "ValueError" q) X.env)])(he2:starEach [.Name "ValueError" q] X.env=[(false,eval (.Name "ValueError" q) X.env)])(ha:JE X a m):
  JE X (.Call (.Name "isinstance" p) [a,.Name "ValueError" q] [] pos) (opM (Bl C true) (m1L m)):=by
 obtain⟨cd,hcd⟩:=Option.isSome_iff_exists.mp W.cd;exact P4 (c:=.ty "ValueError") W.cls hcd W.ve.2 (fun u r=>r) (FN hgy W.ve.1 dK rfl dK dK) hg B he he2 ha
end
end J
end
section
namespace J
open PySem PySem.Spec PyProof.Rows L2 PySem.W
noncomputable def Gg(x:Str)(n:Nat):Str:=⟨(List.replicate n x.cps).foldl (· ++ ·) #[]⟩
theorem PC(x:Array Nat):∀(n:Nat) (a:Array Nat),((List.replicate n x).foldl (· ++ ·) a).toList=a.toList++(List.replicate n x.toList).flatten:=by
 intro n;induction n with
 | zero=>intro a; simp
 | succ n ih=>intro a; rw[List.replicate_succ,List.foldl_cons,ih]; simp[List.replicate_succ]
theorem Jv(x:Str)(n:Nat):(Gg x n).cps.toList=(List.replicate n x.cps.toList).flatten:=by
 unfold Gg;exact(PC x.cps n #[]).trans (by simp)
theorem QU(x:Str)(n:Nat):(Gg x n).length=n*x.length:=by
 have h:(Gg x n).length=(Gg x n).cps.toList.length:=by simp[Str.length]
 rw[h,Jv];simp[Str.length]
theorem QW(x:Str):Gg x 1=x:=by
 obtain⟨c⟩:=x;simp[Gg]
theorem QV{x:Str}(h:x.length=0)(n:Nat):Gg x n=x:=by
 obtain⟨⟨c⟩⟩:=x;have:c=[]:=List.eq_nil_of_length_eq_zero (by simpa[Str.length] using h);subst this;have e:=Jv ⟨#[]⟩ n;have:(Gg ⟨#[]⟩ n).cps.toList=[]:=by rw[e]; simp
 generalize Gg ⟨#[]⟩ n=y at this;obtain⟨⟨d⟩⟩:=y;simp at this;subst this;rfl
theorem Qx{X:Cx}:OpR X (binaryOp .Mult) (fun x y H Q=>∃z i,x=.str z/\y=.int i/\(z.length<=1000/\0<=i/\i<=1000)/\Q (.str (Gg z i.toNat)) H):=by
 intro pins s σ H x y v u Q I rx ry h;obtain⟨z,i,rfl,rfl,⟨h1,h2,h3⟩,q⟩:=h;obtain⟨t,rfl⟩:=rx;obtain⟨t',rfl⟩:=ry;have hz:z.length*i.toNat<=1000000:=Nat.le_trans (Nat.mul_le_mul h1 (show i.toNat<=1000 by omega)) (by decide);have hlim:1000000<=sizeLine:=by decide
 refine P.mul_str (by rw[decide_eq_false (by omega),decide_eq_false (by omega)]; rfl) (fun a b=>?_) (fun a b=>?_) ?_
 .have:1000<=(2 ^ 63-1:Int) / i:=Int.le_ediv_of_mul_le (by omega) (by omega)
  omega
 .unfold Builtin.Str.tooLong
  exact decide_eq_false (by omega)
 .split
  .rename_i hi
   have:i.toNat=0:=by omega
   rw[this] at q;exact⟨by decide,⟨.str (Gg z 0),H,I.tok _,⟨_,rfl⟩,q⟩⟩
  .split
   .rename_i hc
    have:Gg z i.toNat=z:=by
     simp only[Bool.or_eq_true,beq_iff_eq] at hc;rcases hc with hc|hc
     .rw[hc]; exact QW z
     .exact QV hc _
    rw[this] at q;exact⟨.str z,H,I,⟨_,rfl⟩,q⟩
   .exact⟨by rw[show(⟨(List.replicate i.toNat z.cps).foldl (· ++ ·) #[]⟩:Str)=Gg z i.toNat from rfl,QU,Nat.mul_comm]; omega,⟨.str (Gg z i.toNat),H,I.tok _,⟨_,rfl⟩,q⟩⟩
section
variable{X:Cx}{K:Frag}{a b:Expr}{m1 m2:ME}{p2 pos:Pos}{N:Addr->Prop}{H:Hp}
noncomputable def EZ:List A->Option A:=on2 fun x q2=>(Bj q2).bind fun j=>(Co x).map fun ds=>.lst ((cutD ds (some j) none).map A.fz)
theorem Fo(ha:JE X a m1)(hb:JE X b m2):JE X (.Subscript a (.Slice (some b) none none p2) pos) (opM EZ (m2L m1 m2)):=by
 refine Az (LN N0 ha (NQ hb) NP) fun σ H Q h=>?_;have ok:OpN X.K EZ (r2L fun x y H Q=>∃j,y=.int j/\Vv X.K x (some j) none H Q):=by
  intro N H xs as b Q hs e k
  replace e:=B9 e
  obtain⟨x,q2,rfl,e⟩:=e
  replace e:=bind_eq_some_iff.mp e
  obtain⟨j,eq2,e⟩:=e;cases A1 eq2;clear eq2;simp only[map_eq_some_iff] at e;obtain⟨ds,e1,rfl⟩:=e;obtain⟨x,y,L1,L2,rfl,h1,h2⟩:=Bu hs;cases Ba h2;obtain⟨p,vs,rfl,hp,hz,q⟩:=CP h1 e1;refine⟨_,_,rfl,j,rfl,p,vs,rfl,.inl (.inl hp),fun l hl=>k _ _ (EM hl ?_ (NU q))⟩;exact Nat.le_trans (E9 _ _ _) hz
 exact tE.mono (two ok h) fun x H1 h1=>tE.mono h1 fun y H2 ⟨j,e,q⟩=>⟨j,e,q⟩
end
end J
end
section
namespace L2
open PySem PySem.Spec PyProof.Rows
section
variable{X:Cx}
noncomputable def QQ(K:Frag):List V->Hp->VK->Prop:=fun xs H Q=>∃p ys,xs=[.ref p]/\SqL K H p ys/\∀l,H l=none->Q (.ref l) (upd H l (.tup ys))
theorem HJ:B1 X (.type "tuple") (QQ X.K):=by
 intro pins s σ H xs us Q I r h;obtain⟨p,ys,rfl,hq,q⟩:=h;obtain⟨u,rfl,ru⟩:=r.one;cases ru;obtain⟨its,rv,pl,hz⟩:=I.list hq;have hlen:=rv.length;refine call_tuple_list pl.isList (fun h' kk=>?_) (by simp; lia);have I1:Inv X pins σ H { s with heap:=h',toks:=s.toks }:=I.kept kk;exact⟨.ref h'.objs.size,_,I1.laid (t':=s.toks) (o:=.tup ys) (fun b o e=>Heap.get?_push_of_some _ e) (Nat.le_refl _) ⟨hz,its,rv,⟨_,Heap.get?_push_size _ rfl,rfl,_,rfl⟩⟩,rfl,q _ (I1.hok.fresh (Nat.le_refl _))⟩
end
end L2
namespace J
open PySem PySem.Spec PyProof.Rows L2
section
variable{X:Cx}{e:Expr}{es:List Expr}{m:ME}{ms:MA}{p pos:Pos}{K:Frag}
noncomputable def OZ:List A->Option A:=on1 fun a=>(Co a).bind fun ds=>if ds.length<=LIM then some (.fz (.tup ds)) else none
theorem NJ:OpN K OZ (QQ K):=by
 intro N H xs as b Q hs e k
 replace e:=DL e
 obtain⟨a,rfl,e⟩:=e;simp only[bind_eq_some_iff] at e;obtain⟨ds,e1,e2⟩:=e;split at e2
 .rename_i hz
  cases e2;obtain⟨x,L1,rfl,h1⟩:=CQ hs;obtain⟨p,vs,rfl,hp,hz',q⟩:=CP h1 e1;exact⟨p,vs,rfl,.inl (.inl hp),fun l hl=>k _ _ (Sk hl hz' q)⟩
 .cases e2
end
end J
end
section
namespace L2
open PySem PySem.Spec PyProof.Rows
theorem QJ(its:List Value):slicePick its.toArray none none (some (-1))=its.reverse.toArray:=by
 have e0:slicePick its.toArray none none (some (-1))=((sliceRange ((its.toArray.size:Int)-1) (-1) (-1)).filterMap fun i=>its.toArray[i]?).toArray:=rfl;rw[e0,PySem.W.krv_sliceRange,PySem.W.krv_range,List.filterMap_reverse,PySem.W.krv_all]
section
variable{X:Cx}
theorem Sr{e b:Expr}{te ts:TE}{p2 pos:Pos}{K:Frag}(hK:X.K=K)(he:PE X e te)(hb:PE X b ts):PE X (.Subscript e (.Slice none none (some b) p2) pos) (fun σ H Q=>te σ H fun x H1=>ts σ H1 fun y H2=>∃a xs,x=.ref a/\y=.int (-1)/\SqL K H2 a xs/\∀p,H2 p=none->Q (.ref p) (upd H2 p (.lst xs.reverse))):=by
 subst hK;intro pins s σ H Q I h;refine Subscript_ (thn (he pins s σ H _ I h) fun v s1 yy=>?_);obtain⟨x,H1,I1,r1,q1⟩:=yy;refine wpAny_Slice ?_;rw[evalPart_none];refine wpAny_pure (wpAny_pure ?_);rw[evalPart_some];refine thn (hb pins s1 σ H1 _ I1 q1) fun u s3 yy=>?_;obtain⟨y,H3,I3,r3,a,xs,rfl,rfl,hx,q⟩:=yy;cases r1;obtain⟨tj,rfl⟩:=r3;have I4:Inv X pins σ H3 { s3 with heap:=s3.heap.push { cls:=.type "slice",data:=.fields #[.none,.none,.int (-1) tj] } }:=I3.kept (t':=s3.toks) fun b ob q=>Heap.get?_push_of_some _ q;show wpAny (model X.prog X.w) X.A (subscriptTail e (.Slice none none (some b) p2) (.ref a) (.ref s3.heap.objs.size)) (EP X pins σ Q) X.xe { s3 with heap:=s3.heap.push { cls:=.type "slice",data:=.fields #[.none,.none,.int (-1) tj] } };obtain⟨its,r,ht,hz⟩:=I4.list hx;have hlen:=r.length;refine tail_any (ops:=[.ref a,.ref s3.heap.objs.size]) ht.isList.typeIs slot_list_getitem.lookup ?_ (by with_unfolding_all rfl);refine wpAny_getItem_list_slice ht.isList ⟨_,Heap.get?_push_size _ rfl,rfl,rfl⟩ .none .none (.int _ _) (by simp) ?_ (by rw[List.size_toArray]<;>lia);rw[QJ];refine⟨.ref _,_,I4.laid (o:=.lst xs.reverse) (fun b ob q=>Heap.get?_push_of_some _ q) (Nat.le_refl _) ?_,rfl,q _ (I4.hok.fresh (Nat.le_refl _))⟩;exact⟨by rw[List.length_reverse]; exact hz,_,0,r.reverse,Heap.get?_push_size _ rfl⟩
end
end L2
namespace J
open PySem PySem.Spec PyProof.Rows L2
section
variable{K:Frag}{H:Hp}{N:Addr->Prop}
theorem SF:∀{vs:List V} {ds:List D},Ap N H vs ds->Ap N H vs.reverse ds.reverse:=by
 intro vs;induction vs with
 | nil =>
  intro ds q;cases ds with
  | nil=>exact q
  | cons _ _=>simp only[Ap] at q
 | cons v vs ih =>
  intro ds q;cases ds with
  | nil=>simp only[Ap] at q
  | cons d ds =>
   simp only[Ap] at q;rw[List.reverse_cons,List.reverse_cons];exact EC (ih q.2) (by simp only[Ap]; exact⟨q.1,trivial⟩)
theorem OQ{vs:List V}{ds:List D}(q:Ap N H vs ds):∀k:Nat,Ap N H (List.replicate k vs).flatten (List.replicate k ds).flatten:=by
 intro k;induction k with
 | zero=>simp only[List.replicate_zero,List.flatten_nil,Ap]
 | succ k ih=>rw[List.replicate_succ,List.replicate_succ,List.flatten_cons,List.flatten_cons]; exact EC q ih
noncomputable def ND:List A->Option A:=on2 fun x q2=>(Bj q2).bind fun j=>(Co x).bind fun ds=>if 0<=j/\j<=1000/\ds.length<=1000 then some (.lst ((List.replicate j.toNat ds).flatten.map A.fz)) else none
theorem Sd:OpN K ND (r2L WU):=by
 intro N H xs as b Q hs e k
 replace e:=B9 e
 obtain⟨q1,q2,rfl,e⟩:=e
 replace e:=bind_eq_some_iff.mp e
 obtain⟨j,eq2,e⟩:=e;cases A1 eq2;simp only[bind_eq_some_iff] at e;obtain⟨ds,e1,e⟩:=e;split at e
 .rename_i hc
  cases e;obtain⟨x,y,L1,L2,rfl,h1,h2⟩:=Bu hs;cases Ba h2;obtain⟨p,vs,rfl,hp,hz,q⟩:=CP h1 e1;have hl:=q.len;have big:1000000<=sizeLine:=by decide
  have h3:vs.length*j.toNat<=1000*1000:=Nat.mul_le_mul (by omega) (by omega);refine⟨_,_,rfl,p,j,vs,rfl,rfl,hp,by omega,by omega,by omega,fun p' hp'=>k _ _ (EM hp' ?_ (OQ q _))⟩;rw[len_rep,Nat.mul_comm]; omega
 .cases e
end
section
variable{X:Cx}{a b:Expr}{m m1 m2:ME}{p2 pos:Pos}
noncomputable def Vz:List A->Option A:=on2 fun x q2=>(Bj q2).bind fun j=>if j = -1 then (Co x).map fun ds=>.lst (ds.reverse.map A.fz) else none
theorem RV(ha:JE X a m1)(hb:JE X b m2):JE X (.Subscript a (.Slice none none (some b) p2) pos) (opM Vz (m2L m1 m2)):=by
 refine Az (Sr rfl ha hb) fun σ H Q h=>?_;have ok:OpN X.K Vz (r2L fun x y H Q=>∃a xs,x=.ref a/\y=.int (-1)/\SqL X.K H a xs/\∀p,H p=none->Q (.ref p) (upd H p (.lst xs.reverse))):=by
  intro N H xs as b Q hs e k
  replace e:=B9 e
  obtain⟨q1,q2,rfl,e⟩:=e
  replace e:=bind_eq_some_iff.mp e
  obtain⟨j,eq2,e⟩:=e;cases A1 eq2;split at e
  .rename_i hj
   subst hj;simp only[map_eq_some_iff] at e;obtain⟨ds,e1,rfl⟩:=e;obtain⟨x,y,L1,L2,rfl,h1,h2⟩:=Bu hs;cases Ba h2;obtain⟨p,vs,rfl,hp,hz,q⟩:=CP h1 e1;refine⟨_,_,rfl,p,vs,rfl,rfl,.inl (.inl hp),fun p' hp'=>k _ _ (EM hp' (by rw[List.length_reverse]; exact hz) (SF q))⟩
  .cases e
 exact two ok h
end
end J
end
section
namespace J
open PySem PySem.Spec PyProof.Rows L2
noncomputable def gk(d:D):Bool:=Ww d&&shB 8 d
end J
end
section
namespace J
open PySem PySem.Spec PyProof.Rows L2 PySem.W
section
variable{X:Cx}{XC:Str->Addr}{E:XK}{K:Frag}{σ:L2.St}{H:Hp}{D:Ends}
noncomputable def Up(c:MT)(r s:MR):MR:=fun Z=>(c Z).bind fun p=>if p.1 then r p.2 else s p.2
end
end J
end
section
namespace L2
open PySem PySem.Spec PyProof.Rows
theorem apart{n a b:Addr}(ha:a<n)(hb:b<n):ZipApart (n+4) (n+2) (n+3) n (n+1) a b:=by
 refine⟨?_,?_,?_,?_,?_,?_,?_,?_,?_,?_,?_,?_,?_,?_,?_,?_,?_,?_⟩<;>(intro e; simp only[Addr] at *; omega)
end L2
end
section
namespace Sp
open PySem Sg
end Sp
end
section
namespace Sp
open PySem PySem.Spec PyProof.Rows L2 Sg
end Sp
end
section
namespace J
open PySem PySem.Spec PyProof.Rows L2
section
variable{K:Frag}{Z Z' Z1 Z2:Ro}{σ σ' σ1 σ2:L2.St}{H H' H1 H2:Hp}{O O' N:Addr->Prop}{fp fp' fp1 fp2:Nat->List Addr}{L L1:List Addr}
noncomputable def E8(pat:Nat)(c:MT)(e:ME):List D->Ro->Option (List A×Ro)
 | [],Z=>some ([],Z)
 | d::ds,Z=>(Kt pat d).bind fun bs=>(c (bs.map own++Z)).bind fun p =>
  if p.1 then (e p.2).bind fun q=>match q.1 with
   | .val a=>(E8 pat c e ds (q.2.drop bs.length)).map fun t=>(a::t.1,t.2)
   | .ref _=>none
  else E8 pat c e ds (p.2.drop bs.length)
noncomputable def Jo(it:MI)(pat:Nat)(c:MT)(e:ME):ME:=fun Z=>(it Z).bind fun p=>if p.1.length<=LIM then (E8 pat c e p.1 (lock p.2.2 p.2.1)).map fun q=>(.val (.lst q.1),unlock p.2.2 q.2 p.2.1) else none
theorem Post.hs{vs:List V}{as:List A}{Ls:List Addr}(x:Post K O fp H Z Z1 σ σ1 L fp1 H1)(hr:Rel K Z σ H O fp)(q:Ak K (NN fp O) H vs as Ls)(hL:∀p∈Ls,O p):Ak K (NN fp1 (ad O L)) H1 vs as Ls:=
 q.tr (M:=Fp fp) (fun p z=>.inl z) x.kept (fun p z=>by
  rcases z with z|z|z
  .exact(x.new p (.inr z)).imp (fun y=>.inl y) id
  .exact .inl (.inr z)
  .exact(x.new p (.inl z)).imp (fun y=>.inl y) id) fun p hp ⟨i,z⟩=>hr.off i p z (hL p hp)
theorem Rf{it:MI}{pat:Nat}{c:MT}{e:ME}{Q:VK}(h:tE K (Jo it pat c e) σ H Q):tLc (tI K it) (S5 K pat) (tT K c) (tE K e) σ H Q:=by
 obtain⟨Z,O,fp,rl,x,Z',h0,k⟩:=h;simp only[Jo,bind_eq_some_iff] at h0;obtain⟨⟨ds,n,Z1⟩,e1,h0⟩:=h0;split at h0
 case isFalse=>cases h0
 rename_i hz;simp only[map_eq_some_iff] at h0;obtain⟨⟨es,Z8⟩,e2,e3⟩:=h0;cases e3;refine⟨Z,O,fp,rl,ds,n,Z1,e1,fun J H1 yy acc hacc=>?_⟩;obtain⟨r,v,a,L,fp1,p1,q1,hn,ha,hJ⟩:=yy;have hlk:∀i,n=some i->∃st,Z1[i]? = some (some (st,a)):=fun i hi=>by
  rw[hn] at hi;cases r with
  | val b=>simp[nameOf] at hi
  | ref j =>
   simp only[nameOf,Option.some.injEq] at hi;subst hi;simp only[peek] at ha;split at ha
   .rename_i st b hb
    cases ha;exact⟨st,hb⟩
   .cases ha
 have rl1:Rel K (lock Z1 n) σ H1 (ad O L) fp1:=p1.rel.lock;have st0:Post K (ad O L) fp1 H1 (lock Z1 n) (lock Z1 n) σ σ [acc] fp1 (upd H1 acc (.lst [])):=rl1.post.more (CW hacc) (by simp) fun p hp=>by
  have:p=acc:=by simpa using hp
  subst this;exact .inr ⟨hacc,by rw[AB]; simp⟩
 refine⟨fun i m ys H'=>m=ds.length-i/\i<=ds.length/\H' acc=some (.lst ys)/\ys.length<=i/\∃Z' fp' done rest Ls,Post K (ad O L) fp1 H1 (lock Z1 n) Z' σ σ (acc::Ls) fp' H'/\Ak K (NN fp' (ad (ad O L) (acc::Ls))) H' ys done Ls/\E8 pat c e (ds.drop i) Z'=some (rest,Z8)/\es=done++rest,
  ⟨ds.length,by simp,Nat.zero_le _,AB,by simp,lock Z1 n,fp1,[],es,[],st0,by simp only[Ak],by simpa using e2,rfl⟩,?_⟩
 rintro i m ys H2 ⟨rfl,hi,hy,hyl,Z2,fp2,done,rest,Ls,p2,qd,e2,ees⟩;refine⟨hy,?_⟩;obtain⟨L',src⟩:=N2 hn p1.rel q1 ha p2;have offacc:∀j,acc∉fp2 j:=fun j z=>p2.rel.off j acc z (.inr (by simp));have nacc:acc∉Ls:=(List.nodup_cons.mp p2.nd).1;by_cases hlt:i<ds.length
 .obtain⟨go,stop,yld⟩:=hJ _ _ ⟨⟨L',src⟩,fun _ _ h=>p2.kept _ _ h (.inr rfl),fun _ _ q=>p2.stayT q⟩
  refine .inr ⟨go i hlt,fun x H3 y=>?_⟩;have hd:ds[i]? = some ds[i]:=by simp[hlt]
  obtain⟨sm,qx0⟩:=yld i x H3 _ y hd;have qx:RepA (NN fp2 (ad (ad O L) (acc::Ls))) H3 x ds[i]:=qx0;have p3:Post K (ad O L) fp1 H1 (lock Z1 n) Z2 σ σ (acc::Ls) fp2 H3:=p2.more sm p2.nd fun p hp=>.inl hp;have hy3:H3 acc=some (.lst ys):=sm _ _ hy;have qd3:Ak K (NN fp2 (ad (ad O L) (acc::Ls))) H3 ys done Ls:=qd.tr (M:=fun _=>False) (fun _ z=>z.elim) (BW.kept sm) (fun p z=>.inl z) fun _ _ z=>z;rw[List.drop_eq_getElem_cons hlt] at e2;simp only[E8,bind_eq_some_iff] at e2;obtain⟨bs,eb,⟨b,Z3⟩,ec,e4⟩:=e2;obtain⟨vs,hu,hvs⟩:=NM (K:=K) qx eb;have rb:=p3.rel.block hvs;refine⟨vs,hu,_,_,_,rb,b,Z3,ec,fun fp4 H4 p4=>?_⟩;have keep:∀{Z5:Ro} {fp5:Nat->List Addr} {H5:Hp} {L5:List Addr},Post K (ad (ad O L) (acc::Ls)) (sh bs.length fp2) H3 (bs.map own++Z2) Z5 (vs.map some++σ) (vs.map some++σ) L5 fp5 H5 ->
    H5 acc=some (.lst ys)/\Post K (ad O L) fp1 H1 (lock Z1 n) (Z5.drop bs.length) σ σ (acc::Ls++L5) (fun j=>fp5 (j+bs.length)) H5/\Ak K (NN (fun j=>fp5 (j+bs.length)) (ad (ad (ad O L) (acc::Ls)) L5)) H5 ys done Ls:=fun {Z5 fp5 H5 L5} p5=>by
   have u:=p5.unblock hvs.len;refine⟨p5.kept _ _ hy3 (.inl fun z=>?_),p3.then u,u.hs p3.rel qd3 fun p hp=>.inr (List.mem_cons_of_mem _ hp)⟩;obtain⟨j,z⟩:=Lk.mp z;exact offacc j z
  cases b with
  | false =>
   simp only[Bool.false_eq_true,if_false] at e4;dsimp only;rw[if_neg Bool.false_ne_true];obtain⟨h1,h2,h3⟩:=keep p4;rw[List.append_nil] at h2;refine⟨ds.length-(i+1),by lia,rfl,hlt,h1,by lia,_,_,done,rest,Ls,h2,?_,e4,ees⟩;exact Ni (fun p z=>Fs.mpr z) h3
  | true =>
   simp only[if_true,bind_eq_some_iff] at e4;obtain⟨⟨r5,Z5⟩,e5,e4⟩:=e4;dsimp only at e4;cases r5 with
   | ref _=>cases e4
   | val a5 =>
    simp only[map_eq_some_iff] at e4;obtain⟨⟨rest',Z7⟩,e7,e8⟩:=e4;cases e8;dsimp only;rw[if_pos rfl];refine⟨Z3,_,fp4,p4.rel0,_,Z5,e5,fun y H5 yy=>?_⟩;obtain⟨L5,fp5,p5,q5⟩:=yy;obtain⟨h1,h2,h3⟩:=keep (p4.next p5);have hacc1:H1 acc=none:=hacc;have nd5:=h2.nd;have nL5:acc∉L5:=fun z=>(List.nodup_cons.mp nd5).1 (List.mem_append_right _ z);refine⟨h1,Nat.lt_of_lt_of_le (Nat.lt_of_le_of_lt hyl hlt) hz,ds.length-(i+1),by lia,rfl,hlt,AB,by simp; lia,_,_,done++[a5],rest',Ls++L5,h2.updT (by simp) hacc1 h1,?_,e7,by rw[ees]; simp⟩;have nn1:∀p,NN (fun j=>fp5 (j+bs.length)) (ad (ad O L) (acc::(Ls++L5))) p->NN (fun j=>fp5 (j+bs.length)) (ad (ad (ad O L) (acc::Ls)) L5) p:=fun p z=>by
     rcases z with z|z|z
     .exact .inl z
     .exact .inr (.inl (.inl z))
     .rcases List.mem_cons.mp z with z|z
      .exact .inr (.inl (.inr (z ▸ List.mem_cons_self)))
      .rcases List.mem_append.mp z with z|z
       .exact .inr (.inl (.inr (List.mem_cons_of_mem _ z)))
       .exact .inr (.inr z)
    have q5':Am K (NN (fun j=>fp5 (j+bs.length)) (ad (ad (ad O L) (acc::Ls)) L5)) H5 y a5 L5:=DG (fun p z=>z.imp (fun⟨j,q⟩=>⟨_,q⟩) id) q5;have tr:∀{ws:List V} {fs:List A} {M:List Addr},acc∉M->Ak K (NN (fun j=>fp5 (j+bs.length)) (ad (ad (ad O L) (acc::Ls)) L5)) H5 ws fs M->Ak K (NN (fun j=>fp5 (j+bs.length)) (ad (ad O L) (acc::(Ls++L5)))) (upd H5 acc (.lst (ys++[y]))) ws fs M:=fun {ws fs M} hM q =>
     q.tr (M:=fun q=>q=acc) (fun b z=>by rw[z]; exact .inr (.inl (.inr (by simp)))) (Cs h1) (fun p z=>.inl (nn1 p z)) fun p hp z=>hM (z ▸ hp)
    refine Ak.app (tr nacc h3) (tr nL5 ?_);simp only[Ak];exact⟨L5,[],by simp,q5',rfl⟩
 .have:i=ds.length:=by lia
  subst this;obtain⟨go,stop,yld⟩:=hJ _ _ ⟨⟨L',src⟩,fun _ _ h=>p2.kept _ _ h (.inr rfl),fun _ _ q=>p2.stayT q⟩;simp only[List.drop_length,E8,Option.some.injEq,Prod.mk.injEq] at e2;obtain⟨rfl,rfl⟩:=e2;refine .inl ⟨stop _ (Nat.le_refl _),k _ _ ?_⟩;have p3:=(p1.then (p2.unlock hlk)).drop;refine⟨acc::Ls,fp2,p3,?_⟩;show Am _ _ _ _ _ _;rw[Am];rw[List.append_nil] at ees;subst ees;refine⟨acc,ys,Ls,rfl,rfl,hy,Nat.le_trans hyl hz,Ni (fun p z=>?_) qd⟩;rcases z with z|z|z
  .exact .inl z
  .exact .inr (.inl (.inl z))
  .exact .inr (.inr z)
end
end J
end
section
namespace J
open PySem PySem.Spec PyProof.Rows L2
structure GStr (mg:Str->Option Value) (x z:Str):Prop where
 at_:z.length<=sizeLine/\∃t,mg x=some (.str z t)
section
variable{X:Cx}{a b c e:Expr}{es:List Expr}{m m1 m2 m3:ME}{K:Frag}{σ:L2.St}{H:Hp}{x:Str}{p p2 pos pos' apos cpos npos:Pos}
theorem RT{z:Str}(G:GStr X.mg x z)(hg:Gl X x)(hd:(x==("__debug__" : Str))=false):JE X (.Name x pos) (Ag (.str z)):=by
 obtain⟨hz,t,e⟩:=G.at_;exact Az (Ku (v:=.str z) hg e ⟨t,rfl⟩ hd) fun _ _ _ h=>Hf (fun _ _=>.str z hz) h
end
end J
end
section
namespace J
open PySem L2
noncomputable def EV(m:ME)(Z:Ro)(Q:R->Ro->Prop):Prop:=∃r Z',m Z=some (r,Z')/\Q r Z'
noncomputable def AV(m:MA)(Z:Ro)(Q:List R->Ro->Prop):Prop:=∃r Z',m Z=some (r,Z')/\Q r Z'
noncomputable def TV(m:MT)(Z:Ro)(Q:Bool->Ro->Prop):Prop:=∃b Z',m Z=some (b,Z')/\Q b Z'
noncomputable def SV(m:MS)(Z:Ro)(Q:Fl->Prop):Prop:=∃f,m Z=some f/\Q f
noncomputable def IV(m:MI)(Z:Ro)(Q:List D->Option Nat->Ro->Prop):Prop:=∃ds n Z',m Z=some (ds,n,Z')/\Q ds n Z'
noncomputable def FV(Φ:Fn)(as:List (Own×A))(Q:A->List A->Prop):Prop:=∃a os,Φ as=some (a,os)/\Q a os
noncomputable def nxt(K:Ro->Prop)(Q:Fl->Prop):Fl->Prop
 | .next Z=>K Z
 | f=>Q f
noncomputable def turn(I:Ro->Prop)(u:Ro->Ro)(Q:Fl->Prop):Fl->Prop
 | .next Z=>I Z
 | .cnt Z=>I Z
 | .brk Z=>Q (.next (u Z))
 | .ret x Z=>Q (.ret x (u Z))
noncomputable def fin(np:Nat)(Q:A->List A->Prop):Fl->Prop
 | .next Z=>Q (.fz .non) ((Z.take np).map GH)
 | .ret a Z=>Q a ((Z.take np).map GH)
 | _=>False
noncomputable abbrev Fr(x:Slot):Prop:=free [x] 0=true
section
variable{m m1 m2 m3:ME}{ms:MA}{c c2:MT}{a b:MS}{it:MI}{Z Z1 Z2:Ro}{Q:R->Ro->Prop}{QA:List R->Ro->Prop}{QT:Bool->Ro->Prop}{QS:Fl->Prop}{K:Ro->Prop}{i:Nat}
theorem Pu{r:R}(h:m Z=some (r,Z1))(q:Q r Z1):EV m Z Q:=⟨r,Z1,h,q⟩
theorem WZ{f:Fl}(h:a Z=some f)(q:QS f):SV a Z QS:=⟨f,h,q⟩
theorem CT{Φ:Fn}{as:List (Own×A)}{QF:A->List A->Prop}{x:A}{os:List A}(h : Φ as=some (x,os))(q:QF x os):FV Φ as QF:=⟨x,os,h,q⟩
theorem BI{Φ:Fn}{as:List (Own×A)}{QF QF':A->List A->Prop}(h:FV Φ as QF)(k:∀x os,QF x os->QF' x os):FV Φ as QF':=by
 obtain⟨x,os,e,q⟩:=h; exact⟨x,os,e,k x os q⟩
theorem SS{QS':Fl->Prop}(h:SV a Z QS)(k:∀f,QS f->QS' f):SV a Z QS':=by
 obtain⟨f,e,q⟩:=h; exact⟨f,e,k f q⟩
theorem D1{np nn:Nat}{as:List (Own×A)}{QF:A->List A->Prop}(hl:as.length=np)(hZ:as.map some++List.replicate (nn-np) none=Z)(h:SV b Z (fin np QF)):FV (fnM np nn b) as QF:=by
 obtain⟨f,e,q⟩:=h;subst hZ;cases f with
 | next Z'=>exact⟨_,_,by simp only[fnM,if_pos hl,e,Option.bind_some],q⟩
 | ret x Z'=>exact⟨_,_,by simp only[fnM,if_pos hl,e,Option.bind_some],q⟩
 | brk Z'=>exact q.elim
 | cnt Z'=>exact q.elim
theorem Cj{d:D}(q:Q (.val (.fz d)) Z):EV (Ag d) Z Q:=⟨_,_,rfl,q⟩
theorem Ew{f:List A->Option A}(h:AV ms Z fun rs Z1=>∃as,peeks Z1 rs=some as/\∃x,f as=some x/\Q (.val x) Z1):EV (opM f ms) Z Q:=by
 obtain⟨rs,Z1,e,as,e2,x,e3,q⟩:=h;exact⟨_,_,by simp only[opM,e,e2,e3,Option.bind_some,Option.map_some],q⟩
noncomputable def bk(rs:List R)(os:List A)(Z:Ro):Ro:=match refs rs with
 | []=>Z
 | _::_=>back rs os Z
theorem Wh(rs:List R)(os:List A)(Z:Ro):bk rs os Z=back rs os Z:=by
 unfold bk;split
 .rename_i h
  induction rs generalizing os Z with
  | nil=>simp[back]
  | cons r rs ih =>
   cases r with
   | ref i=>simp[refs] at h
   | val a =>
    have h:refs rs=[]:=h;cases os with
    | nil=>rfl
    | cons o os=>exact ih os Z h
 .rfl
theorem Ec{Φ:Fn}(h:AV ms Z fun rs Z1=>∃as,Cw Z1 rs=some as/\decide (refs rs).Nodup=true/\FV Φ as fun x os=>Q (.val x) (bk rs os Z1)):EV (Ar Φ ms) Z Q:=by
 obtain⟨rs,Z1,e,as,e2,hn,x,os,e3,q⟩:=h;rw[Wh] at q;exact⟨_,_,by simp only[Ar,e,e2,e3,Option.bind_some,Option.map_some,if_pos (of_decide_eq_true hn)],q⟩
theorem DB(h:EV m Z fun r Z1=>∃d Z2,share Z1 r=some (d,Z2)/\Q (.val (.fz d)) Z2):EV (Ae m) Z Q:=by
 obtain⟨r,Z1,e,d,Z2,e2,q⟩:=h;exact⟨_,_,by simp only[Ae,e,e2,Option.bind_some,Option.map_some],q⟩
theorem Fc(h:EV m1 Z fun r Z1=>∃x,peek Z1 r=some x/\∃y,DW x=some y/\if y then EV m2 Z1 Q else Q (.val (.fz (.bl false))) Z1):EV (andM m1 m2) Z Q:=by
 obtain⟨r,Z1,e,x,e2,y,e3,q⟩:=h;cases y with
 | false=>exact⟨_,_,by simp only[andM,AG,e,e2,e3,Option.bind_some,Option.map_some,Bool.false_eq_true,if_false],q⟩
 | true =>
  obtain⟨r',Z',e4,q⟩:=q;exact⟨_,_,by simp only[andM,AG,e,e2,e3,Option.bind_some,Option.map_some,if_true,e4],q⟩
theorem Ho(h:EV m1 Z fun r Z1=>∃x,peek Z1 r=some x/\∃y,DW x=some y/\if y then Q (.val (.fz (.bl true))) Z1 else EV m2 Z1 Q):EV (orM m1 m2) Z Q:=by
 obtain⟨r,Z1,e,x,e2,y,e3,q⟩:=h;cases y with
 | true=>exact⟨_,_,by simp only[orM,AG,e,e2,e3,Option.bind_some,Option.map_some,if_true],q⟩
 | false =>
  obtain⟨r',Z',e4,q⟩:=q;exact⟨_,_,by simp only[orM,AG,e,e2,e3,Option.bind_some,Option.map_some,Bool.false_eq_true,if_false,e4],q⟩
theorem Fg(h:EV m Z fun r Z1=>∃x,peek Z1 r=some x/\∃y,DW x=some y/\Q (.val (.fz (.bl (!y)))) Z1):EV (notM m) Z Q:=by
 obtain⟨r,Z1,e,x,e2,y,e3,q⟩:=h;exact⟨_,_,by simp only[notM,AG,e,e2,e3,Option.bind_some,Option.map_some],q⟩
theorem Fd(h:TV c Z fun x Z1=>if x then EV m1 Z1 Q else EV m2 Z1 Q):EV (Uo c m1 m2) Z Q:=by
 obtain⟨x,Z1,e,q⟩:=h;cases x with
 | true=>obtain⟨r',Z',e4,q⟩:=q; exact⟨_,_,by simp only[Uo,e,Option.bind_some,if_true,e4],q⟩
 | false=>obtain⟨r',Z',e4,q⟩:=q; exact⟨_,_,by simp only[Uo,e,Option.bind_some,Bool.false_eq_true,if_false,e4],q⟩
theorem Ff(h:AV ms Z fun rs Z1=>∃as,vals rs=some as/\decide (as.length<=LIM)=true/\Q (.val (.lst as)) Z1):EV (lstM ms) Z Q:=by
 obtain⟨rs,Z1,e,as,e2,hl,q⟩:=h;exact⟨_,_,by simp only[lstM,e,e2,Option.bind_some,if_pos (of_decide_eq_true hl)],q⟩
theorem Fh(h:AV ms Z fun rs Z1=>∃as Z2,moves rs Z1=some (as,Z2)/\decide (as.length<=LIM)=true/\Q (.val (mkT as)) Z2):EV (CZ ms) Z Q:=by
 obtain⟨rs,Z1,e,as,Z2,e2,hl,q⟩:=h;exact⟨_,_,by simp only[CZ,e,e2,Option.bind_some,if_pos (of_decide_eq_true hl)],q⟩
theorem Dm(q:QA [] Z):AV Aj Z QA:=⟨_,_,rfl,q⟩
theorem BB(h:EV m Z fun r Z1=>AV ms Z1 fun rs Z2=>QA (r::rs) Z2):AV (Ab m ms) Z QA:=by
 obtain⟨r,Z1,e,rs,Z2,e2,q⟩:=h;exact⟨_,_,by simp only[Ab,e,e2,Option.bind_some,Option.map_some],q⟩
theorem JK(h:EV m Z fun r Z1=>QA [r] Z1):AV (m1L m) Z QA:=BB (by
 obtain⟨r,Z1,e,q⟩:=h; exact⟨r,Z1,e,Dm q⟩)
theorem GO(h:EV m1 Z fun r Z1=>EV m2 Z1 fun r2 Z2=>QA [r,r2] Z2):AV (m2L m1 m2) Z QA:=BB (by
 obtain⟨r,Z1,e,q⟩:=h; exact⟨r,Z1,e,JK q⟩)
theorem D8(h:EV m Z fun r Z1=>∃x,peek Z1 r=some x/\∃y,DW x=some y/\QT y Z1):TV (AG m) Z QT:=by
 obtain⟨r,Z1,e,x,e2,y,e3,q⟩:=h;exact⟨_,_,by simp only[AG,e,e2,e3,Option.bind_some,Option.map_some],q⟩
theorem D7(h:TV c Z fun x Z1=>QT (!x) Z1):TV (B3 c) Z QT:=by
 obtain⟨x,Z1,e,q⟩:=h;exact⟨_,_,by simp only[B3,e,Option.map_some],q⟩
theorem Hu(h:TV c Z fun x Z1=>if x then QT true Z1 else TV c2 Z1 QT):TV (orT c c2) Z QT:=by
 obtain⟨x,Z1,e,q⟩:=h;cases x with
 | true=>exact⟨_,_,by simp only[orT,e,Option.bind_some,if_true],q⟩
 | false=>obtain⟨y,Z',e4,q⟩:=q; exact⟨_,_,by simp only[orT,e,Option.bind_some,Bool.false_eq_true,if_false,e4],q⟩
theorem FG(h:TV c Z fun x Z1=>if x then TV c2 Z1 QT else QT false Z1):TV (Rw c c2) Z QT:=by
 obtain⟨x,Z1,e,q⟩:=h;cases x with
 | false=>exact⟨_,_,by simp only[Rw,e,Option.bind_some,Bool.false_eq_true,if_false],q⟩
 | true=>obtain⟨y,Z',e4,q⟩:=q; exact⟨_,_,by simp only[Rw,e,Option.bind_some,if_true,e4],q⟩
theorem CF(h:SV a Z (nxt (fun Z1=>SV b Z1 QS) QS)):SV (AA a b) Z QS:=by
 obtain⟨f,e,q⟩:=h;cases f with
 | next Z1=>obtain⟨f,e2,q⟩:=q; exact⟨f,by simp only[AA,e,Option.bind_some,e2],q⟩
 | brk Z1=>exact⟨_,by simp only[AA,e,Option.bind_some],q⟩
 | cnt Z1=>exact⟨_,by simp only[AA,e,Option.bind_some],q⟩
 | ret x Z1=>exact⟨_,by simp only[AA,e,Option.bind_some],q⟩
theorem EW(h:EV m Z fun r Z1=>∃x Z2,keep Z1 r=some (x,Z2)/\free Z2 i=true/\QS (.next (Z2.set i (some (.own,x))))):SV (A9 i m) Z QS:=by
 obtain⟨r,Z1,e,x,Z2,e2,e3,q⟩:=h;exact⟨_,by simp only[A9,e,e2,e3,Option.bind_some,if_true],q⟩
theorem EX(h:EV m Z fun _ Z1=>QS (.next Z1)):SV (Hw m) Z QS:=by
 obtain⟨r,Z1,e,q⟩:=h;exact⟨_,by simp only[Hw,e,Option.map_some],q⟩
theorem DN(h:EV m Z fun r Z1=>∃x Z2,move Z1 r=some (x,Z2)/\QS (.ret x Z2)):SV (retS m) Z QS:=by
 obtain⟨r,Z1,e,x,Z2,e2,q⟩:=h;exact⟨_,by simp only[retS,e,e2,Option.bind_some,Option.map_some],q⟩
theorem FE(h:TV c Z fun x Z1=>if x then SV a Z1 QS else SV b Z1 QS):SV (ifS c a b) Z QS:=by
 obtain⟨x,Z1,e,q⟩:=h;cases x with
 | true=>obtain⟨f,e2,q⟩:=q; exact⟨f,by simp only[ifS,e,Option.bind_some,if_true,e2],q⟩
 | false=>obtain⟨f,e2,q⟩:=q; exact⟨f,by simp only[ifS,e,Option.bind_some,Bool.false_eq_true,if_false,e2],q⟩
theorem Ei(q:QS (.next Z)):SV Bf Z QS:=⟨_,rfl,q⟩
theorem FF{is:List Nat}(h:EV m Z fun r Z1=>∃x Z2,keep Z1 r=some (x,Z2)/\∃as,EN x=some as/\∃Z3,CC is as Z2=some Z3/\QS (.next Z3)):SV (K0 is m) Z QS:=by
 obtain⟨r,Z1,e,x,Z2,e2,as,e3,Z3,e4,q⟩:=h;exact⟨_,by simp only[K0,e,e2,e3,e4,Option.bind_some,Option.map_some],q⟩
theorem FD(h:∃d Z2,share Z (.ref i)=some (d,Z2)/\QS (.next Z2)):SV (Wm i) Z QS:=by
 obtain⟨d,Z2,e,q⟩:=h;exact⟨_,by simp only[Wm,e,Option.map_some],q⟩
theorem FC(h:SV (A9 i (opM TR (m2L (Ad i) m))) Z QS):SV (Xj i m) Z QS:=h
theorem Q9(h0:∃p,Ee Z i=some p)(h:EV m Z fun r Z1=>∃x Z2,keep Z1 r=some (x,Z2)/\∃st as,Ee Z2 i=some (st,as)/\as.length<LIM/\QS (.next (Z2.set i (some (st,.lst (as++[x])))))):SV (IS i m) Z QS:=by
 obtain⟨p,e0⟩:=h0;obtain⟨r,Z1,e,x,Z2,e2,st,as,e3,hl,q⟩:=h;exact⟨_,by simp only[IS,e0,e,e2,e3,Option.bind_some,if_pos hl],q⟩
theorem KN{is:List Nat}{one:Bool}(h:IV it Z fun ds n Z1=>∃Inv:Nat->Ro->Prop,Inv 0 (lock Z1 n)/\(∀j d Z2,ds[j]? = some d->Inv j Z2->∃Z3,Hi is one d Z2=some Z3/\SV b Z3 (turn (Inv (j+1)) (fun Z4=>unlock Z1 Z4 n) QS))/\∀Z2,Inv ds.length Z2->QS (.next (unlock Z1 Z2 n))):SV (J1 is one it b) Z QS:=by
 obtain⟨ds,n,Z1,e,Inv,h0,hs,he⟩:=h;have key:∀(es:List D) (j:Nat) (Z2:Ro),j<=ds.length->ds.drop j=es->Inv j Z2->∃f,forL is one b es Z2=some f/\QS (KZ Z1 n f):=by
  intro es;induction es with
  | nil =>
   intro j Z2 hj hd hI;have hj2:ds.length<=j:=by
    have:=congrArg List.length hd;simp at this;lia
   have:j=ds.length:=by lia
   subst this;exact⟨_,rfl,he Z2 hI⟩
  | cons d es ih =>
   intro j Z2 hj hd hI;have hlt:j<ds.length:=by
    rcases Nat.lt_or_ge j ds.length with z|z
    .exact z
    .rw[List.drop_eq_nil_of_le z] at hd; cases hd
   rw[List.drop_eq_getElem_cons hlt] at hd;injection hd with e1 e2
   obtain⟨Z3,e3,f,e4,q⟩:=hs j d Z2 (by rw[<- e1]; simp) hI;cases f with
   | next Z4 =>
    obtain⟨f,e5,q⟩:=ih (j+1) Z4 hlt e2 q;exact⟨f,by simp only[forL,e3,e4,Option.bind_some,e5],q⟩
   | cnt Z4 =>
    obtain⟨f,e5,q⟩:=ih (j+1) Z4 hlt e2 q;exact⟨f,by simp only[forL,e3,e4,Option.bind_some,e5],q⟩
   | brk Z4=>exact⟨.next Z4,by simp only[forL,e3,e4,Option.bind_some],q⟩
   | ret x Z4=>exact⟨.ret x Z4,by simp only[forL,e3,e4,Option.bind_some],q⟩
 obtain⟨f,e2,q⟩:=key ds 0 (lock Z1 n) (Nat.zero_le _) (by simp) h0;exact⟨_,by simp only[J1,e,Option.bind_some,e2,Option.map_some],q⟩
theorem RH{pat:Nat}{e:ME}(f:D->Option D)(h:IV it Z fun ds n Z1=>decide (ds.length<=LIM)=true/\(∀d∈ds,∃bs,Kt pat d=some bs/\TV c (bs.map own++lock Z1 n) fun x Z2=>Z2=bs.map own++lock Z1 n/\if x then EV e (bs.map own++lock Z1 n) (fun r Z3=>Z3=bs.map own++lock Z1 n/\∃v,share (bs.map own++lock Z1 n) r=some (v,bs.map own++lock Z1 n)/\f d=some v) else f d=none)/\Q (.val (.lst ((ds.filterMap f).map A.fz))) (unlock Z1 (lock Z1 n) n)):EV (Bn it pat c e) Z Q:=by
 obtain⟨ds,n,Z1,e0,hl,hs,q⟩:=h;have key:∀es:List D,(∀d∈es,d∈ds)->E7 pat c e es (lock Z1 n)=some (es.filterMap f,lock Z1 n):=by
  intro es;induction es with
  | nil=>intro _; rfl
  | cons d es ih =>
   intro hm;obtain⟨bs,e1,x,Z2,e2,rfl,q2⟩:=hs d (hm d List.mem_cons_self);have ih:=ih fun y hy=>hm y (List.mem_cons_of_mem _ hy);have hdr:(bs.map own++lock Z1 n).drop bs.length=lock Z1 n:=by
    rw[List.drop_append_of_le_length (by simp),List.drop_of_length_le (by simp),List.nil_append]
   cases x with
   | false =>
    have q2:f d=none:=q2;simp only[E7,e1,Option.bind_some,e2,Bool.false_eq_true,if_false,hdr,ih,List.filterMap_cons,q2]
   | true =>
    obtain⟨r,Z3,e3,rfl,v,e4,e5⟩:=q2;simp only[E7,e1,Option.bind_some,e2,if_true,e3,e4,hdr,ih,Option.map_some,List.filterMap_cons,e5]
 exact⟨_,_,by simp only[Bn,e0,Option.bind_some,if_pos (of_decide_eq_true hl),key ds fun _ h=>h,Option.map_some],q⟩
theorem HR{pat:Nat}{e:ME}(f:D->Option D)(out:List D)(h:IV it Z fun ds n Z1=>ds.length<=100000/\ds.filterMap f=out/\(∀d∈ds,∃bs,Kt pat d=some bs/\TV c (bs.map own++lock Z1 n) fun x Z2=>Z2=bs.map own++lock Z1 n/\if x then EV e (bs.map own++lock Z1 n) (fun r Z3=>Z3=bs.map own++lock Z1 n/\∃v,share (bs.map own++lock Z1 n) r=some (v,bs.map own++lock Z1 n)/\f d=some v) else f d=none)/\Q (.val (.lst (out.map A.fz))) (unlock Z1 (lock Z1 n) n)):EV (Bn it pat c e) Z Q:=by
 obtain⟨ds,n,Z1,e0,hl,rfl,hs,q⟩:=h;have hL:100000<=LIM:=by decide
 exact RH f ⟨ds,n,Z1,e0,decide_eq_true (by lia),hs,q⟩
theorem EY{QT:Bool->Ro->Prop}(q:QT true Z):TV Dw Z QT:=⟨_,_,rfl,q⟩
theorem HZ{QI:List D->Option Nat->Ro->Prop}(h:EV m Z fun r Z1=>∃x,peek Z1 r=some x/\∃ds,AI x=some ds/\QI ds (nameOf r) Z1):IV (De m) Z QI:=by
 obtain⟨r,Z1,e,x,e2,ds,e3,q⟩:=h;exact⟨_,_,_,by simp only[De,e,e2,e3,Option.bind_some,Option.map_some],q⟩
theorem Mz{QI:List D->Option Nat->Ro->Prop}(h:EV m Z fun r Z1=>∃k:Int,r=.val (.fz (.int k))/\(-1000000<=k/\k<=1000000)/\QI (E3 0 k.toNat) none Z1):IV (CV m) Z QI:=by
 obtain⟨r,Z1,e,k,rfl,hk,q⟩:=h;have e0:(-(2 ^ 62)<=k/\k<2 ^ 62)=True:=by simp; lia
 exact⟨_,_,_,by simp only[CV,e,Option.bind_some,e0,if_true],q⟩
theorem Uq{QI:List D->Option Nat->Ro->Prop}(h:EV m Z fun r Z1=>∃z,r=.val (.fz (.str z))/\decide (z.length<=LIM)=true/\QI (Hd z) none Z1):IV (L7 m) Z QI:=by
 obtain⟨r,Z1,e,z,rfl,hl,q⟩:=h;exact⟨_,_,_,by simp only[L7,e,Option.bind_some,if_pos (of_decide_eq_true hl)],q⟩
theorem KW{I:Ro->Prop}{u:Ro->Ro}{Z:Ro}(h:I Z):turn I u QS (.next Z):=h
theorem AJ{Z:Ro}(h:K Z):nxt K QS (.next Z):=h
theorem Ft{x:A}{Z:Ro}(h:QS (.ret x Z)):nxt K QS (.ret x Z):=h
theorem Ed{np:Nat}{QF:A->List A->Prop}{x:A}{Z:Ro}(h:QF x ((Z.take np).map GH)):fin np QF (.ret x Z):=h
theorem DC{np:Nat}{QF:A->List A->Prop}{Z:Ro}(h:QF (.fz .non) ((Z.take np).map GH)):fin np QF (.next Z):=h
theorem Hr{P1 P2:Prop}{x:Bool}(hx:x=true)(h:P1):if x then P1 else P2:=by rw[if_pos hx]; exact h
theorem Hq{P1 P2:Prop}{x:Bool}(hx:x=false)(h:P2):if x then P1 else P2:=by rw[if_neg (by rw[hx]; exact Bool.false_ne_true)]; exact h
theorem Tc{P1 P2:Prop}{x:Bool}(h1:x=true->P1)(h2:x=false->P2):if x then P1 else P2:=by
 cases x with
 | true=>exact h1 rfl
 | false=>exact h2 rfl
end
theorem CU{i j:Int}(h:decide (-1000000<=j/\j<=1000000)=true):Kg [.fz (.int i),.fz (.int j)]=some (.fz (.int (i*j))):=by
 have h:=of_decide_eq_true h;have e:((-(2 ^ 64)<i/\i<2 ^ 64)\/(-(2 ^ 64)<j/\j<2 ^ 64))=True:=by simp only[eq_iff_iff,iff_true]; exact .inr ⟨by lia,by lia⟩
 simp only[Kg,on2,Bj,fzU,DR,Option.bind_some,e,if_true]
theorem ex1{α:Type}{f:Option α}{q:α -> Prop}{x:α}(h:f=some x)(k:q x):∃x,f=some x/\q x:=⟨x,h,k⟩
theorem ex2{α β:Type}{f:Option (α×β)}{q:α -> β -> Prop}{x:α}{y:β}(h:f=some (x,y))(k:q x y):∃x y,f=some (x,y)/\q x y:=⟨x,y,h,k⟩
theorem CI{i:Nat}{Z Z1:Ro}{Q:R->Ro->Prop}{r:R}(h:Ad i Z=some (r,Z1))(q:Q r Z1):EV (Ad i) Z Q:=⟨r,Z1,h,q⟩
theorem ex3{α β:Type}{f:Option (α×β)}{b:β}{q:α -> Prop}{x:α}(h:f=some (x,b))(k:q x):∃x,f=some (x,b)/\q x:=⟨x,h,k⟩
theorem ex0{α β:Type}{r:β}{g:α -> β}{q:α -> Prop}{x:α}(h:r=g x)(k:q x):∃x,r=g x/\q x:=⟨x,h,k⟩
theorem Dx{Ψ:FnR}{ms:MA}{Z:Ro}{o:Option Str}(h:AV ms Z fun rs Z1=>∃as,Cw Z1 rs=some as/\DT as=true/\Ψ as=o):Hk Ψ ms Z=o:=by
 obtain⟨rs,Z1,e,as,e2,hp,q⟩:=h;simp only[Hk,e,e2,Option.bind_some,hp,if_true,q]
theorem Ef{c:MT}{r s:MR}{Z:Ro}{o:Option Str}(h:TV c Z fun x Z1=>if x then r Z1=o else s Z1=o):Up c r s Z=o:=by
 obtain⟨x,Z1,e,q⟩:=h;cases x with
 | true=>simp only[Up,e,Option.bind_some,if_true]; exact q
 | false=>simp only[Up,e,Option.bind_some,Bool.false_eq_true,if_false]; exact q
theorem EI{c:MT}{r:MR}{Z:Ro}{o:Option Str}(h:TV c Z fun x Z1=>if x then r Z1=o else none=o):ifR c r Z=o:=by
 obtain⟨x,Z1,e,q⟩:=h;cases x with
 | true=>simp only[ifR,e,Option.bind_some,if_true]; exact q
 | false=>simp only[ifR,e,Option.bind_some,Bool.false_eq_true,if_false]; exact q
theorem Eh{a:MS}{r:MR}{Z:Ro}{o:Option Str}(h:SV a Z (nxt (fun Z1=>r Z1=o) fun _=>False)):WW a r Z=o:=by
 obtain⟨f,e,q⟩:=h;cases f with
 | next Z1=>simp only[WW,e,Option.bind_some]; exact q
 | brk Z1=>exact q.elim
 | cnt Z1=>exact q.elim
 | ret x Z1=>exact q.elim
theorem Px{np nn:Nat}{r:MR}{as:List (Own×A)}{Z:Ro}{o:Option Str}(hl:as.length=np)(hZ:as.map some++List.replicate (nn-np) none=Z)(h:r Z=o):fnR np nn r as=o:=by
 subst hZ;simp only[fnR,if_pos hl,h]
section
variable{i:Nat}{m:ME}{Z:Ro}{QS:Fl->Prop}{QI:List D->Option Nat->Ro->Prop}
theorem Ml{Z:Ro}{i:Nat}{d:D}(h:free Z i=true):Hi [i] true d Z=some (Z.set i (J.own d)):=if_pos h
theorem T2{i j:Nat}{a b:D}{Z:Ro}(h:free Z i=true)(h2:free (Z.set i (some (.own,.fz a))) j=true):Hi [i,j] false (.tup [a,b]) Z=some ((Z.set i (some (.own,.fz a))).set j (some (.own,.fz b))):=by
 simp only[Hi,CC,List.map_cons,List.map_nil,h,h2,if_true]
end
theorem Bp(ds:List D):fzs (ds.map A.fz)=some ds:=by
 induction ds with
 | nil=>rfl
 | cons d ds ih=>simp[fzs,ih]
theorem Gr(ds:List D):ers (ds.map A.fz)=some ds:=by
 induction ds with
 | nil=>simp[ers]
 | cons d ds ih=>simp[ers,er,ih]
theorem Ow(Z:Ro):lock Z none=Z:=rfl
theorem Mf(Z:Ro)(n:Option Nat):unlock Z (lock Z n) n=Z:=by
 cases n with
 | none=>rfl
 | some i =>
  simp only[unlock,lock];split
  .rename_i s e
   apply List.ext_getElem?;intro j;by_cases h:j=i
   .subst h
    have hj:j<Z.length:=Ay e;split
    .rw[List.getElem?_set_self (by simpa using hj),e]
    .rw[List.getElem?_set_self hj,e]
   .split
    .rw[List.getElem?_set_ne (Ne.symm h),List.getElem?_set_ne (Ne.symm h)]
    .rw[List.getElem?_set_ne (Ne.symm h)]
  .rename_i e
   split
   .rename_i st a e'
    rw[e] at e'; cases e'
   .rfl
theorem Pl{c:MT}{e:ME}{f:D->D}{g:D->Bool}{Z:Ro}:∀{ds:List D},(∀d∈ds,c (own d::Z)=some (g d,own d::Z))->(∀d∈ds,g d=true->∃r,e (own d::Z)=some (r,own d::Z)/\share (own d::Z) r=some (f d,own d::Z))->E7 0 c e ds Z=some ((ds.filter g).map f,Z):=by
 intro _l;induction _l with
 | nil =>
  intro _ _;exact rfl
 | cons d ds ih =>
  intro hc he;have ih:=ih (fun x hx=>hc x (List.mem_cons_of_mem _ hx)) fun x hx=>he x (List.mem_cons_of_mem _ hx);simp only[E7,Kt,Option.bind_some,List.map_cons,List.map_nil,List.cons_append,List.nil_append,hc d List.mem_cons_self];cases h:g d with
  | true =>
   obtain⟨r,h1,h2⟩:=he d List.mem_cons_self h;simp[h1,h2,ih,h]
  | false=>simp[ih,h]
theorem Pm{it:MI}{c:MT}{e:ME}{f:D->D}{g:D->Bool}{Z Z1:Ro}{ds:List D}{n:Option Nat}(hi:it Z=some (ds,n,Z1))(hl:ds.length<=LIM)(hc:∀d∈ds,c (own d::lock Z1 n)=some (g d,own d::lock Z1 n))(he:∀d∈ds,g d=true->∃r,e (own d::lock Z1 n)=some (r,own d::lock Z1 n)/\share (own d::lock Z1 n) r=some (f d,own d::lock Z1 n)):Bn it 0 c e Z=some (.val (.lst (((ds.filter g).map f).map A.fz)),Z1):=by
 simp only[Bn,hi,Option.bind_some,hl,if_true,Pl hc he,Option.map_some,Mf]
theorem Eu{it:MI}{e:ME}{f:D->D}{Z Z1:Ro}{ds:List D}{n:Option Nat}(hi:it Z=some (ds,n,Z1))(hl:ds.length<=LIM)(he:∀d∈ds,∃r,e (own d::lock Z1 n)=some (r,own d::lock Z1 n)/\share (own d::lock Z1 n) r=some (f d,own d::lock Z1 n)):Bn it 0 Dw e Z=some (.val (.lst ((ds.map f).map A.fz)),Z1):=by
 have:=Pm (g:=fun _=>true) (c:=Dw) hi hl (fun d _=>rfl) fun d hd _=>he d hd;rw[List.filter_eq_self.mpr (fun _ _=>rfl)] at this;exact this
theorem Hh(lo:Int)(n:Nat):(E3 lo n).length=n:=by simp[E3]
theorem Gi{lo:Int}{n j:Nat}{d:D}(h:(E3 lo n)[j]? = some d):d=.int (lo+j)/\j<n:=by
 have hj:j<n:=by have:=Ay h; simpa[E3] using this
 simp only[E3,List.getElem?_map,List.getElem?_range hj,Option.map_some,Option.some.injEq] at h;exact⟨h.symm,hj⟩
noncomputable def iL(xs:List Int):List D:=xs.map D.int
theorem Nw(xs:List Int):(iL xs).all DD=true:=by simp[iL,DD,List.all_eq_true]
theorem PM(x:Int)(xs:List Int):inD (.int x) (iL xs)=decide (x∈xs):=by
 induction xs with
 | nil=>rfl
 | cons y ys ih =>
  have:inD (.int x) (iL (y::ys))=(eqD (.int y) (.int x) || inD (.int x) (iL ys)):=rfl;rw[this,ih];simp only[Hm,List.mem_cons];by_cases h:y=x
  .subst h; simp
  .have h':¬x=y:=fun z=>h z.symm
   simp[h,h']
theorem Et{α:Type}(xs:List α)(f:α -> Bool):Dn (xs.map fun x=>D.bl (f x))=some (xs.map f):=by
 induction xs with
 | nil=>rfl
 | cons x xs ih=>simp[Dn,ih]
theorem Lp(xs:List Int):PR (iL xs)=some xs:=by
 induction xs with
 | nil=>rfl
 | cons x xs ih =>
  simp only[iL,List.map_cons,PR] at ih |-;rw[ih]; rfl
end J
namespace J
open PySem L2
@[simp] theorem Cr(xs:List Int):(iL xs).length=xs.length:=by simp[iL]
theorem UJ{d:D}{xs:List Int}:d∈iL xs↔∃i∈xs,d=.int i:=by
 simp only[iL,List.mem_map];constructor
 .rintro ⟨i,h,rfl⟩; exact⟨i,h,rfl⟩
 .rintro ⟨i,h,rfl⟩; exact⟨i,h,rfl⟩
noncomputable def nD:D->Int
 | .int i=>i
 | _=>0
@[simp] theorem Xo(i:Int):nD (.int i)=i:=rfl
theorem UH{β:Type}(f:Int -> β)(xs:List Int):(iL xs).map (fun d=>f (nD d))=xs.map f:=by simp[iL]
end J
namespace J
open PySem L2
theorem A4{a b:MS}{Z Z1:Ro}(h:a Z=some (.next Z1)):AA a b Z=b Z1:=by simp[AA,h]
theorem ES{a b:MS}{Z Z1:Ro}{v:A}(h:a Z=some (.ret v Z1)):AA a b Z=some (.ret v Z1):=by simp[AA,h]
theorem Mw{c:MT}{a b:MS}{Z Z1:Ro}(h:c Z=some (true,Z1)):ifS c a b Z=a Z1:=by simp[ifS,h]
theorem J3{c:MT}{a b:MS}{Z Z1:Ro}(h:c Z=some (false,Z1)):ifS c a b Z=b Z1:=by simp[ifS,h]
theorem CS{m:ME}{Z Z1:Ro}{b:Bool}(h:m Z=some (.val (.fz (.bl b)),Z1)):AG m Z=some (b,Z1):=by simp[AG,h,peek,DW]
theorem not_of{m:MT}{Z Z1:Ro}{b:Bool}(h:m Z=some (b,Z1)):B3 m Z=some (!b,Z1):=by simp[B3,h]
theorem BZ{m:ME}{Z Z1:Ro}{a:A}(h:m Z=some (.val a,Z1)):retS m Z=some (.ret a Z1):=by simp[retS,h,move]
theorem JH{m:ME}{Z Z1:Ro}{a:A}{i:Nat}(h:m Z=some (.val a,Z1))(hf:free Z1 i=true):A9 i m Z=some (.next (Z1.set i (some (.own,a)))):=by simp[A9,h,keep,hf]
theorem Br{np nn:Nat}{b:MS}{args:List (Own×A)}{a:A}{Z:Ro}(hl:args.length=np)(h:b (args.map some++List.replicate (nn-np) none)=some (.ret a Z)):fnM np nn b args=some (a,(Z.take np).map GH):=by simp[fnM,hl,h]
end J
end
section
namespace J
open PySem L2
section
variable{i:Nat}{m e:ME}{Z:Ro}{QS:Fl->Prop}{Q:R->Ro->Prop}
theorem Gs(xs:List D)(g:D->D)(h:EV m Z fun r Z1=>∃x,peek Z1 r=some x/\AI x=some xs/\xs.length<=100000/\(∀d,d∈xs->EV e (own d::lock Z1 (nameOf r)) fun r2 Z3=>∃v,share Z3 r2=some (v,own d::lock Z1 (nameOf r))/\Z3=own d::lock Z1 (nameOf r)/\v=g d)/\Q (.val (.lst ((xs.map g).map A.fz))) (unlock Z1 (lock Z1 (nameOf r)) (nameOf r))):EV (Bn (De m) 0 Dw e) Z Q:=by
 refine HR (fun d=>some (g d)) (xs.map g) (HZ ?_);obtain⟨r,Z1,e0,x,e1,e2,hl,hs,q⟩:=h;refine⟨_,Z1,e0,x,e1,xs,e2,hl,by rw[<- List.filterMap_eq_map]; rfl,?_,q⟩;intro d hd;refine⟨[d],rfl,EY ⟨rfl,?_⟩⟩;obtain⟨r,Z3,e1,v,e2,rfl,e3⟩:=hs d hd;exact⟨r,_,e1,rfl,v,e2,by simp[e3]⟩
theorem OV{Z:Ro}{i:Nat}{ds:List D}(h : Z[i]? = some (some (.own,.lst (ds.map A.fz)))):share Z (.ref i)=some (.lst ds,Z.set i (some (.own,.fz (.lst ds)))):=by
 simp only[share,h,J.er,Gr,Option.map_some]
end
end J
end
section
namespace J
open PySem PySem.Spec PyProof.Rows L2
noncomputable def brw(Z:Ro):R->Option D
 | .val a=>er a
 | .ref i=>match Z[i]? with
  | some (some (_,a))=>er a
  | _=>none
noncomputable def Pf(Z:Ro):List R->Option (List D)
 | []=>some []
 | r::rs=>(brw Z r).bind fun d=>(Pf Z rs).map (d :: ·)
noncomputable def VF:A->Bool
 | .fz .non=>true
 | .fz (.bl _)=>true
 | .fz (.int _)=>true
 | .fz (.str _)=>true
 | _=>false
noncomputable def fzA(d:D):Own×A:=(.own,.fz d)
noncomputable def FX(Φ:Fn)(m:MA):ME:=fun Z=>(m Z).bind fun p=>(Pf p.2 p.1).bind fun ds=>(Φ (ds.map fzA)).bind fun q=>if VF q.1 then some (.val q.1,p.2) else none
section
variable{K:Frag}{Z Z' Z1 Z2:Ro}{σ σ' σ1 σ2:L2.St}{H H' H1 H2:Hp}{O O' N:Addr->Prop}{fp fp' fp1 fp2:Nat->List Addr}{L L1:List Addr}
theorem RC(rl:Rel K Z1 σ H1 O fp1){v:V}{r:R}{d:D}(q:RR K N H1 σ v r L)(e:brw Z1 r=some d):RepA (fun _=>False) H1 v d:=by
 cases r with
 | val a=>exact Dh (fun _ z=>z.elim) (Am.er q e)
 | ref i =>
  simp only[brw] at e;split at e
  .rename_i st a ea
   obtain⟨w,hw,z⟩:=rl.slot i _ _ ea;obtain⟨_,hv⟩:=q;rw[hv] at hw; cases hw;exact Dh (fun _ z=>z.elim) (Am.er z e)
  .cases e
theorem K7(rl:Rel K Z1 σ H1 O fp1):∀{vs:List V} {rs:List R} {L:List Addr} {ds:List D},RRs K N H1 σ vs rs L->Pf Z1 rs=some ds->vs.length=ds.length/\∀(j:Nat) d,ds[j]? = some d->∃v,vs[j]? = some v/\RepA (fun _=>False) H1 v d
 | [],[],L,ds,q,e=>by
  cases e;exact⟨rfl,fun j d h=>by simp at h⟩
 | [],_::_,L,ds,q,e=>q.elim
 | _::_,[],L,ds,q,e=>q.elim
 | v::vs,r::rs,L,ds,q,e=>by
  obtain⟨La,Lb,rfl,q1,q2⟩:=q;simp only[Pf,bind_eq_some_iff,map_eq_some_iff] at e;obtain⟨d,e1,ds',e2,rfl⟩:=e;obtain⟨h1,h2⟩:=K7 rl q2 e2;refine⟨by simp[h1],fun j d' h=>?_⟩;cases j with
  | zero=>simp at h; subst h; exact⟨v,rfl,RC rl q1 e1⟩
  | succ j=>simpa using h2 j d' (by simpa using h)
theorem Rb{Φ:Fn}{np:Nat}{m:MA}{Q:VK}{E:XK}(hnp:∀args y,Φ args=some y->args.length=np)(h:tE K (FX Φ m) σ H Q):Jz (spJ K Φ np) [] E (tA K m) σ H Q:=by
 obtain⟨Z,O,fp,rl,x,Z',e,k⟩:=h;simp only[FX,bind_eq_some_iff] at e;obtain⟨⟨rs,Z1⟩,e1,ds,e2,⟨a,as'⟩,e3,e4⟩:=e;split at e4
 case isFalse=>cases e4
 rename_i hsc;cases e4;refine⟨Z,O,fp,rl,rs,_,e1,fun vs H1 yy=>?_⟩;obtain⟨L,fp1,p,q⟩:=yy;rw[List.append_nil];obtain⟨hl,hg⟩:=K7 p.rel q e2;have hn:=hnp _ _ e3;refine⟨ds.map fzA,fun _=>False,fun _=>[],by rw[<- hn,hl]; simp,⟨by simp[hl],fun j st b hb=>?_,fun _ _=>rfl,fun _=>List.nodup_nil,fun _ _ _ h=>by simp at h,fun _ _ h=>by simp at h,fun pp z=>?_⟩,a,as',e3,fun v H' o=>?_⟩
 .rw[List.map_map,List.getElem?_map] at hb
  cases hd:ds[j]? with
  | none=>rw[hd] at hb; cases hb
  | some d =>
   rw[hd] at hb;cases hb;obtain⟨w,hw,r⟩:=hg j d hd;refine⟨w,by rw[List.getElem?_map,hw]; rfl,?_⟩;rw[Am];exact⟨rfl,Dh (fun pp z=>by rcases z with ⟨i,hi⟩|z; simp at hi; exact z) r⟩
 .rcases z with ⟨i,hi⟩|z
  .simp at hi
  .exact z.elim
 .obtain⟨L',fp2,p2,q2⟩:=o
  have sm:BW H1 H':=fun b o hb=>p2.kept b o hb (.inl fun⟨i,hi⟩=>by simp at hi);have p3:Post K O fp H Z Z1 σ σ [] fp1 H':=p.more sm List.nodup_nil fun _ h=>by simp at h
  refine k v H' ⟨[],fp1,p3,?_⟩;show Am K _ H' v a [];cases a with
  | fz d =>
   obtain⟨_,q3⟩:=(EO (K:=K)).mp q2;rw[Am];refine⟨rfl,?_⟩;cases q3 with
   | non=>exact .non
   | bl b=>exact .bl b
   | int i=>exact .int i
   | str z hz=>exact .str z hz
   | lst=>cases hsc
   | tup=>cases hsc
  | lst as=>cases hsc
  | tup as=>cases hsc
  | scr as=>cases hsc
  | dic as=>cases hsc
  | dct as=>cases hsc
  | opq b o=>cases hsc
theorem HQ{Φ:Fn}{ms:MA}{Z:Ro}{Q:R->Ro->Prop}(h:AV ms Z fun rs Z1=>∃ds,Pf Z1 rs=some ds/\FV Φ (ds.map fzA) fun x _=>VF x=true/\Q (.val x) Z1):EV (FX Φ ms) Z Q:=by
 obtain⟨rs,Z1,e,ds,e2,x,os,e3,hs,q⟩:=h;exact⟨_,_,by simp only[FX,e,e2,e3,Option.bind_some,hs,if_true],q⟩
end
section
variable{X:Cx}{e:Expr}{es:List Expr}{ms:MA}{p pos:Pos}{x:Str}
theorem H0{P:Program}{w:World}{K:Frag}{mg:Str->Option Value}{base:Heap}{CX:CXT}{k j:Nat}{ps:List Str}{Φ:Fn}{np:Nat}{E:XK}(D:Def P w K mg base CX k x ps (spJ K Φ np))(hnp:∀args y,Φ args=some y->args.length=np)(hP:X.prog=P)(hw:X.w=w)(hK:X.K=K)(hm:X.mg=mg)(hb:X.base=base)(hr:Room j X.A)(hkj:k<=j)(hx:Passes CX X E)(hdb:(x==("__debug__" : Str))=false)(hg:Gl X x)(he:starEach (e::es) X.env=(false,eval e X.env)::starEach es X.env)(hpl:(backTo pos (starEach es X.env)).any (·.1)=false)(ha:JA X (e::es) ms):JE X (.Call (.Name x p) (e::es) [] pos) (FX Φ ms):=by
 subst hP hw hK hm hb;exact Az (MW D hr hkj hx ha hg hdb he hpl) fun _ _ _ h=>Rb hnp h
end
noncomputable def GY:List Nat->A->Option A
 | [],a=>some a
 | n::p,.lst as=>match as[n]? with
  | some b=>GY p b
  | none=>none
 | n::p,.tup as=>match as[n]? with
  | some b=>GY p b
  | none=>none
 | _::_,_=>none
noncomputable def HB:List Nat->A->A->A
 | [],b,_=>b
 | n::p,b,.lst as=>match as[n]? with
  | some c=>.lst (as.set n (HB p b c))
  | none=>.lst as
 | n::p,b,.tup as=>match as[n]? with
  | some c=>.tup (as.set n (HB p b c))
  | none=>.tup as
 | _::_,_,a=>a
noncomputable def Ln(Z:Ro)(i:Nat)(p:List Nat):Option (Own×A×List A):=match Z[i]? with
 | some (some (.ro,_))=>none
 | some (some (st,a))=>match GY p a with
  | some (.lst bs)=>some (st,a,bs)
  | _=>none
 | _=>none
noncomputable def Ks(i:Nat)(p:List Nat)(j:Int):MS:=fun Z=>(Ln Z i p).bind fun h=>if h.2.2.length<LIM then some (.next (Z.set i (some (h.1,HB p (.lst (h.2.2++[.fz (.int j)])) h.2.1)))) else none
noncomputable def Walk(H:Hp):V->List Nat->V->Prop
 | v,[],w=>v=w
 | v,n::p,w=>∃a vs u,v=.ref a/\(H a=some (.lst vs)\/H a=some (.tup vs))/\vs[n]? = some u/\Walk H u p w
noncomputable def Sx(K:Frag):TE->List Nat->TE
 | t,[]=>t
 | t,n::p=>Sx K (tOp (rIx K) t (tC (.int n))) p
section
variable{K:Frag}{Z Z' Z1 Z2:Ro}{σ σ' σ1 σ2:L2.St}{H H' H1 H2:Hp}{O O' N:Addr->Prop}{fp fp' fp1 fp2:Nat->List Addr}{L L1:List Addr}
theorem JJ{α:Type}{xs:List α}{n:Nat}{u:α}(h:xs[n]? = some u):atI xs (n:Int)=some u:=by
 have hn:n<xs.length:=by
  rcases Nat.lt_or_ge n xs.length with z|z
  .exact z
  .rw[List.getElem?_eq_none z] at h; cases h
 unfold atI ixN;rw[if_pos (Int.natCast_nonneg n)];simp[hn];exact(List.getElem?_eq_some_iff.mp h).2
theorem LP:∀{p:List Nat} {t:TE} {v w:V} {Q:VK},(∀Q':VK,Q' v H->t σ H Q')->Walk H v p w->Q w H->Sx K t p σ H Q
 | [],t,v,w,Q,ht,hw,q=>by
  cases hw;exact ht _ q
 | n::p,t,v,w,Q,ht,hw,q=>by
  obtain⟨a,vs,u,rfl,ha,hu,hw⟩:=hw;refine LP (p:=p) (v:=u) (fun Q' q'=>?_) hw q;refine ht _ ?_;rcases ha with ha|ha
  .exact .inl ⟨a,vs,n,u,rfl,rfl,.inl (.inl ha),JJ hu,q'⟩
  .exact .inr (.inl ⟨a,vs,n,u,rfl,rfl,.inl (.inl ha),JJ hu,q'⟩)
theorem Ak.splitAt:∀{vs:List V} {as:List A} {L:List Addr} {n:Nat} {c:A},Ak K N H vs as L->as[n]? = some c->∃w La Lc Lb,L=La++(Lc++Lb)/\vs[n]? = some w/\Am K N H w c Lc /\
  ∀(H2:Hp) (M:Addr->Prop) (c':A) (Lc':List Addr),(∀q,M q->N q)->Kept M H H2->(∀q∈La,¬M q)->(∀q∈Lb,¬M q)->Am K N H2 w c' Lc'->Ak K N H2 vs (as.set n c') (La++(Lc'++Lb))
 | [],[],L,n,c,r,e=>by simp at e
 | [],_::_,L,n,c,r,e=>by simp only[Ak] at r
 | _::_,[],L,n,c,r,e=>by simp only[Ak] at r
 | v::vs,a::as,L,0,c,r,e=>by
  simp only[Ak] at r;obtain⟨La,Lb,rfl,h1,h2⟩:=r;simp at e;subst e;refine⟨v,[],La,Lb,rfl,rfl,h1,fun H2 M c' Lc' hM k _ hb r'=>?_⟩;simp only[List.set_cons_zero,List.nil_append,Ak];exact⟨_,_,rfl,r',h2.tr hM k (fun q z=>.inl z) hb⟩
 | v::vs,a::as,L,n+1,c,r,e=>by
  simp only[Ak] at r;obtain⟨La,Lb,rfl,h1,h2⟩:=r;obtain⟨w,Lx,Lc,Ly,rfl,g1,g2,g3⟩:=Ak.splitAt (n:=n) h2 (by simpa using e);refine⟨w,La++Lx,Lc,Ly,by simp,by simpa using g1,g2,fun H2 M c' Lc' hM k ha hb r'=>?_⟩;simp only[List.set_cons_succ,Ak];exact⟨La,Lx++(Lc'++Ly),by simp,h1.tr hM k (fun q z=>.inl z) fun q hq=>ha q (by simp[hq]),g3 H2 M c' Lc' hM k (fun q hq=>ha q (by simp[hq])) hb r'⟩
theorem nd3{La Lc Lb Lc':List Addr}(nd:(La++(Lc++Lb)).Nodup)(s:∀q∈Lc',q∈Lc)(n:Lc'.Nodup):(La++(Lc'++Lb)).Nodup:=by
 have h:=List.nodup_append.mp nd;have h2:=List.nodup_append.mp h.2.1;refine List.nodup_append.mpr ⟨h.1,List.nodup_append.mpr ⟨n,h2.2.1,fun x hx y hy=>h2.2.2 x (s x hx) y hy⟩,fun x hx y hy=>?_⟩;rcases List.mem_append.mp hy with hy|hy
 .exact h.2.2 x hx y (by simp[s y hy])
 .exact h.2.2 x hx y (by simp[hy])
theorem Am.putP:∀{p:List Nat} {v:V} {a:A} {L:List Addr} {bs:List A},Am K N H v a L->GY p a=some (.lst bs)->L.Nodup->(∀q∈L,N q)->∃p1 ws L1,Walk H v p (.ref p1)/\p1∈L/\H p1=some (.lst ws)/\ws.length<=sizeLine/\Ak K N H ws bs L1/\p1∉L1/\L1.Nodup/\(∀q∈L1,q∈L) /\
  ∀ws' bs' L1',Ak K N (upd H p1 (.lst ws')) ws' bs' L1'->ws'.length<=sizeLine->(∀q∈L1',q∈L1)->L1'.Nodup->∃L',Am K N (upd H p1 (.lst ws')) v (HB p (.lst bs') a) L'/\(∀q∈L',q∈L)/\L'.Nodup
 | [],v,a,L,bs,r,e,nd,hN=>by
  cases e;rw[Am] at r;obtain⟨p1,ws,L1,rfl,rfl,hp,hz,hs⟩:=r;have n1:=List.nodup_cons.mp nd;refine⟨p1,ws,L1,rfl,by simp,hp,hz,hs,n1.1,n1.2,fun q hq=>by simp[hq],fun ws' bs' L1' r' hz' sub nd1=>⟨p1::L1',?_,?_,?_⟩⟩
  .simp only[HB]
   rw[Am];exact⟨p1,ws',L1',rfl,rfl,AB,hz',r'⟩
  .intro q hq
   rcases List.mem_cons.mp hq with rfl|hq
   .simp
   .simp[sub q hq]
  .exact List.nodup_cons.mpr ⟨fun z=>n1.1 (sub _ z),nd1⟩
 | n::p,v,.lst as,L,bs,r,e,nd,hN=>by
  rw[Am] at r;obtain⟨a0,vs,L0,rfl,rfl,h0,hz0,hs⟩:=r;simp only[GY] at e;split at e
  case h_2=>cases e
  rename_i c hc;have n1:=List.nodup_cons.mp nd;obtain⟨w,La,Lc,Lb,rfl,g1,g2,g3⟩:=Ak.splitAt hs hc;have n2:=List.nodup_append.mp n1.2;have n3:=List.nodup_append.mp n2.2.1;obtain⟨p1,ws,L1,k1,k2,k3,k4,k5,k6,k7,k8,k9⟩:=Am.putP (p:=p) g2 e n3.1 fun q hq=>hN q (by simp[hq]);have ne:a0≠p1:=fun z=>n1.1 (by simp[z,k2]);refine⟨p1,ws,L1,⟨a0,vs,w,rfl,.inl h0,g1,k1⟩,by simp[k2],k3,k4,k5,k6,k7,fun q hq=>by simp[k8 q hq],fun ws' bs' L1' r' hz' sub nd1=>?_⟩;obtain⟨Lc',m1,m2,m3⟩:=k9 ws' bs' L1' r' hz' sub nd1;refine⟨a0::(La++(Lc'++Lb)),?_,?_,?_⟩
  .simp only[HB,hc]
   rw[Am];refine⟨a0,vs,_,rfl,rfl,by rw[Au ne]; exact h0,hz0,g3 _ (fun q=>q=p1) _ _ (fun q z=>z ▸ hN p1 (by simp[k2])) (Cs k3) (fun q hq z=>?_) (fun q hq z=>?_) m1⟩
   .exact n2.2.2 q hq p1 (by simp[k2]) z
   .exact n3.2.2 p1 k2 q hq z.symm
  .intro q hq
   simp only[List.mem_cons,List.mem_append] at hq |-;rcases hq with h|h|h|h
   .exact .inl h
   .exact .inr (.inl h)
   .exact .inr (.inr (.inl (m2 q h)))
   .exact .inr (.inr (.inr h))
  .refine List.nodup_cons.mpr ⟨fun z=>n1.1 ?_,nd3 n1.2 m2 m3⟩
   simp only[List.mem_append] at z |-;exact z.imp id fun z=>z.imp (m2 _) id
 | n::p,v,.tup as,L,bs,r,e,nd,hN=>by
  rw[Am] at r;obtain⟨a0,vs,rfl,h0,hz0,hs⟩:=r;simp only[GY] at e;split at e
  case h_2=>cases e
  rename_i c hc;obtain⟨w,La,Lc,Lb,rfl,g1,g2,g3⟩:=Ak.splitAt hs hc;have n2:=List.nodup_append.mp nd;have n3:=List.nodup_append.mp n2.2.1;obtain⟨p1,ws,L1,k1,k2,k3,k4,k5,k6,k7,k8,k9⟩:=Am.putP (p:=p) g2 e n3.1 fun q hq=>hN q (by simp[hq]);have ne:a0≠p1:=fun z=>by rw[z,k3] at h0; cases h0
  refine⟨p1,ws,L1,⟨a0,vs,w,rfl,.inr h0,g1,k1⟩,by simp[k2],k3,k4,k5,k6,k7,fun q hq=>by simp[k8 q hq],fun ws' bs' L1' r' hz' sub nd1=>?_⟩;obtain⟨Lc',m1,m2,m3⟩:=k9 ws' bs' L1' r' hz' sub nd1;refine⟨La++(Lc'++Lb),?_,?_,nd3 nd m2 m3⟩
  .simp only[HB,hc]
   rw[Am];refine⟨a0,vs,rfl,by rw[Au ne]; exact h0,hz0,g3 _ (fun q=>q=p1) _ _ (fun q z=>z ▸ hN p1 (by simp[k2])) (Cs k3) (fun q hq z=>?_) (fun q hq z=>?_) m1⟩
   .exact n2.2.2 q hq p1 (by simp[k2]) z
   .exact n3.2.2 p1 k2 q hq z.symm
  .intro q hq
   simp only[List.mem_append] at hq |-;rcases hq with h|h|h
   .exact .inl h
   .exact .inr (.inl (m2 q h))
   .exact .inr (.inr h)
 | n::p,v,.fz d,L,bs,r,e,nd,hN=>by simp[GY] at e
 | n::p,v,.scr d,L,bs,r,e,nd,hN=>by simp[GY] at e
 | n::p,v,.dic d,L,bs,r,e,nd,hN=>by simp[GY] at e
 | n::p,v,.dct d,L,bs,r,e,nd,hN=>by simp[GY] at e
 | n::p,v,.opq d o,L,bs,r,e,nd,hN=>by simp[GY] at e
theorem PH{i:Nat}{p:List Nat}{st:Own}{a:A}{bs:List A}(h:Ln Z i p=some (st,a,bs)): Z[i]? = some (some (st,a))/\st≠.ro/\GY p a=some (.lst bs):=by
 unfold Ln at h;split at h
 .cases h
 .rename_i st' a' hs hne
  split at h
  .rename_i bs' e
   cases h;exact⟨hne,fun z=>hs z,e⟩
  .cases h
 .cases h
theorem VY{i:Nat}{p:List Nat}{j:Int}{D:Ends}(h:tS K (Ks i p j) D σ H):JB (tBM K "list" Ky (Sx K (L9 i) p) (Ce (tC (.int j)) FT)) D σ H:=by
 obtain⟨Z,O,fp,rl,fl,e,w⟩:=h;simp only[Ks,bind_eq_some_iff] at e;obtain⟨⟨st,a,bs⟩,e0,e⟩:=e;split at e
 case isFalse=>cases e
 rename_i hz;cases e;obtain⟨g,gst,gp⟩:=PH e0;obtain⟨v,hv,r⟩:=rl.slot i _ _ g;have hN:∀q∈fp i,NN fp O q:=fun q hq=>.inl ⟨i,hq⟩;obtain⟨p1,ws,L1,k1,k2,k3,k4,k5,k6,k7,k8,k9⟩:=Am.putP r gp (rl.nd i) hN;have l5:=k5.len;refine LP (v:=v) (fun Q' q'=>⟨v,hv,q'⟩) k1 ⟨.inl ⟨rfl,ws,.inl (.inl k3)⟩,p1,ws,.int j,rfl,rfl,k3,by rw[l5]; exact hz,?_⟩;have t1:Ak K (NN fp O) (upd H p1 (.lst (ws++[.int j]))) ws bs L1:=k5.tr (M:=fun b=>b=p1) (fun b z=>z ▸ hN p1 k2) (Cs k3) (fun b z=>.inl z) fun b hb z=>k6 (z ▸ hb);have t2:Ak K (NN fp O) (upd H p1 (.lst (ws++[.int j]))) (ws++[.int j]) (bs++[.fz (.int j)]) (L1++[]):=t1.app (by
  simp only[Ak];exact⟨[],[],rfl,by rw[Am]; exact⟨rfl,.int j⟩,rfl⟩)
 obtain⟨L',m1,m2,m3⟩:=k9 (ws++[.int j]) (bs++[.fz (.int j)]) (L1++[]) t2 (by rw[List.length_append,l5]; exact hz) (fun q hq=>by simpa using hq) (by simpa using k7);refine w _ _ _ (rl.post.mut (a':=HB p (.lst (bs++[.fz (.int j)])) a) (L':=L') g gst hv k2 k3 (fun q hq=>.inl (m2 q hq)) m3 ?_);exact m1.tr (M:=fun _=>False) (fun _ z=>z.elim) Kept.refl (fun b z=>.inl (Fs.mp z)) fun _ _ z=>z
end
section
variable{X:Cx}{a o e:Expr}{p pos apos cpos npos:Pos}{x:Str}
noncomputable def JP(X:Cx)(o:Expr)(t:TE):Prop:=PE X o t
theorem Qa(i:Nat)(hN:X.N[i]? = some x)(hv:Vis X.env.scope x)(hd:(x==("__debug__" : Str))=false)(hcd:(x==("__classdict__" : Str))=false):JP X (.Name x npos) (L9 i):=Iy hN hv hd hcd
theorem NA{t:TE}{j:Nat}(n:Nat)(h:JP X a t):JP X (.Subscript a (.Constant (.int n) j p) pos) (tOp (rIx X.K) t (tC (.int n))):=Tn Av h MX fun _ _=>rfl
theorem Qd(i:Nat)(pt:List Nat){j:Int}{k:Nat}(ho:JP X o (Sx X.K (L9 i) pt))(hbase:attributeBase o "append" X.env (eval o X.env)=eval o X.env)(hline:(apos.endLine==cpos.line)=true)(hw:swapsWith (.Call (.Attribute o "append" apos) [.Constant (.int j) k p] [] cpos) none pos.line X.env=pure false):JS X (.Expr (.Call (.Attribute o "append" apos) [.Constant (.int j) k p] [] cpos) pos) (Ks i pt j):=
 Cd (GI (LM PySem.F.plainAttrs_list PySem.F.slot_list_append PySem.F.type_list_append FK ho (CL MX Eo rfl) hbase rfl hline rfl rfl) hw) fun _ _ _ h=>VY h
theorem Ra{i:Nat}{pt:List Nat}{j:Int}{Z:Ro}{Q:Fl->Prop}{st:Own}{a:A}{bs:List A}(h:Ln Z i pt=some (st,a,bs))(hz:bs.length<LIM)(q:Q (.next (Z.set i (some (st,HB pt (.lst (bs++[.fz (.int j)])) a))))):SV (Ks i pt j) Z Q:=
 ⟨_,by simp only[Ks,h,Option.bind_some,hz,if_true],q⟩
end
end J
end
section
namespace L2
open PySem PySem.Spec PyProof.Rows PySem.Builtin PySem.Builtin.Str
section
variable{prog:Program}{w:World}{A:Around}{E:Value->Shared->Prop}{s:Shared}{x y:PySem.Str}{t u:Tok}{Q:Value->Shared->Prop}
theorem Rp(hy:(y.length==0)=false)(hsz:x.length+2<=sizeLine)(h:∀l k,l.map (·.1)=Txt.split x y->Q (.ref s.heap.objs.size) { s with heap:=s.heap.push { cls:=.type "list",data:=.seq (strValues l).toArray },toks:=k }):
  wpAny (model prog w) A (call (.builtin "str.split") [.str x t,.str y u]) Q E s:=by
 have hn:(partsBetween x (occurrences x y 0 x.length (x.length+1)) y.length).length<=sizeLine:=by
  have e1:=StrLaws.occ_length_le x y 0 x.length (x.length+1);rw[length_partsBetween]; omega
 cases h1:(decide (x.length<y.length) || decide (strKind x<strKind y))
 .cases hf:(occurrences x y 0 x.length (x.length+1)).isEmpty
  .refine call_meets F.slot_str_split (typeIs_str _ _ _) F.entry_str_split (F.args_str_split_2 _ _) (meets_str_split_sep x y t u h1 hy hf (by omega) hn) ?_
   show wants Q E _ { s with toks:=_,heap:=s.heap.push { cls:=.type "list",data:=.seq (strsFrom s.toks (partsBetween x (occurrences x y 0 x.length (x.length+1)) y.length)).toArray } };rw[strsFrom_eq];exact h (numbered s.toks _) _ ((numbered_texts _ _).trans ((if_neg (ne_true_of_eq_false h1)).trans (if_neg (ne_true_of_eq_false hf))).symm)
  .exact call_meets F.slot_str_split (typeIs_str _ _ _) F.entry_str_split (F.args_str_split_2 _ _) (meets_str_split_not_found x y t u h1 hy hf)
    (h [(x,t)] s.toks ((if_neg (ne_true_of_eq_false h1)).trans (if_pos hf)).symm)
 .exact call_meets F.slot_str_split (typeIs_str _ _ _) F.entry_str_split (F.args_str_split_2 _ _) (meets_str_split_cannot_occur x y t u h1)
   (h [(x,t)] s.toks (if_pos h1).symm)
end
section
variable{X:Cx}{a e:Expr}{ta te:TE}{apos cpos:Pos}
noncomputable def M0:V->List V->Hp->VK->Prop:=fun x xs H Q=>∃z y,x=.str z/\xs=[.str y]/\(y.length==0)=false/\z.length+2<=sizeLine/\∀l,H l=none->Q (.ref l) (upd H l (.lst ((Txt.split z y).map V.str)))
theorem IP:∀{l:List (PySem.Str×Tok)},Vals ((l.map (·.1)).map V.str) (strValues l)
 | []=>.nil
 | (z,t)::l=>.cons ⟨t,rfl⟩ (IP (l:=l))
theorem Qo:MtR X "str.split" M0:=by
 intro pins s σ H x xs v us Q I rx rv h;obtain⟨z,y,rfl,rfl,hy,hz,q⟩:=h;obtain⟨t,rfl⟩:=rx;obtain⟨u,rfl,ru⟩:=rv.one;obtain⟨t',rfl⟩:=ru;refine Rp hy hz fun l k e=>?_;refine⟨.ref s.heap.objs.size,_,I.laid (t':=k) (o:=.lst ((Txt.split z y).map V.str)) (fun b o hb=>?_) (Nat.le_refl _) ⟨?_,strValues l,0,by rw[<- e]; exact IP,?_⟩,rfl,q _ (I.hok.fresh (Nat.le_refl _))⟩
 .rw[Heap.get?_push_ne]
  .exact hb
  .intro z; have:=Heap.lt_size hb; lia
 .rw[List.length_map]
  exact Nat.le_trans (split_le z y) hz
 .exact Heap.get?_push_size _ rfl
theorem QD(hbase:attributeBase a "split" X.env (eval a X.env)=eval a X.env)(hline:(apos.endLine==cpos.line)=true)(hs:starEach [e] X.env=[(false,eval e X.env)])(ha:PE X a ta)(he:PE X e te):
  PE X (.Call (.Attribute a "split" apos) [e] [] cpos) (tBM X.K "str" M0 ta (Ce te FT)):=
 LM F.plainAttrs_str F.slot_str_split F.type_str_split Qo ha (CL he Eo hs) hbase (by rw[hs]; rfl) hline hs rfl
noncomputable def Tv:List V->Hp->VK->Prop:=fun xs H Q=>∃i:Int,xs=[.int i]/\i.natAbs.log2<1920/\Q (.str (PySem.Str.ofString (toString i))) H
theorem GQ:B1 X (.type "str") Tv:=by
 intro pins s σ H xs us Q I r h;obtain⟨i,rfl,hi,q⟩:=h;obtain⟨u,rfl,t,rfl⟩:=r.one;exact PySem.P.str_of_int hi ⟨.str _,H,I.tok _,⟨_,rfl⟩,q⟩
noncomputable def Tr:List V->Hp->VK->Prop:=fun xs H Q=>∃z n,xs=[.str z]/\z.length<=640/\PySem.intText? z=some n/\Q (.int n) H
theorem Jn:B1 X (.type "int") Tr:=by
 intro pins s σ H xs us Q I r h;obtain⟨z,n,rfl,hz,hn,q⟩:=h;obtain⟨u,rfl,t,rfl⟩:=r.one;exact PySem.W.KIN.call_text hn hz ⟨.int _,H,I.tok _,⟨_,rfl⟩,q⟩
end
end L2
namespace J
open PySem PySem.Spec PyProof.Rows L2
section
variable{K:Frag}
noncomputable def B0(zs:List PySem.Str):List D:=zs.map D.str
noncomputable def OW(z:PySem.Str):List A->Option A:=on1 fun q1=>(CD q1).bind fun y=>if (y.length==0)=false/\z.length+2<=sizeLine then some (.lst ((B0 (Txt.split z y)).map A.fz)) else none
theorem Jw{N:Addr->Prop}{H:Hp}:∀{zs:List PySem.Str},(∀z∈zs,z.length<=sizeLine)->Ap N H (zs.map V.str) (B0 zs)
 | [],_=>trivial
 | z::zs,h=>⟨.str _ (h z (by simp)),Jw (zs:=zs) fun y hy=>h y (by simp[hy])⟩
theorem U0(z:PySem.Str)(hz:z.length<=sizeLine):OpN K (OW z) fun xs H Q=>M0 (.str z) xs H Q:=by
 intro N H xs as b Q hs e k
 replace e:=DL e
 obtain⟨q1,rfl,e⟩:=e
 replace e:=bind_eq_some_iff.mp e
 obtain⟨y,eq1,e⟩:=e;cases CM eq1;clear eq1;split at e
 .rename_i h0
  cases e;obtain⟨x,L1,rfl,h1⟩:=CQ hs;obtain⟨rfl,_⟩:=Dv h1;refine⟨z,y,rfl,rfl,h0.1,h0.2,fun l hl=>k _ _ (EM hl ?_ (Jw fun a ha=>?_))⟩
  .rw[List.length_map]; exact Nat.le_trans (split_le z y) h0.2
  .exact Nat.le_trans (part_short ha) hz
 .cases e
noncomputable def GB(sep:PySem.Str):List A->Option A:=on1 fun b=>(Co b).bind fun ds=>(GL ds).bind fun zs=>if (zs.map (·.length)).sum+zs.length*sep.length<=16777216 then some (.fz (.str (Txt.join sep zs))) else none
theorem Qv(sep:PySem.Str)(hz:sep.length<=sizeLine):OpN K (GB sep) fun xs H Q=>rJoin K (.str sep) xs H Q:=by
 intro N H xs as b Q hs e k
 replace e:=DL e
 obtain⟨b,rfl,e⟩:=e;simp only[bind_eq_some_iff] at e;obtain⟨ds,e1,zs,e2,e3⟩:=e;split at e3
 .rename_i hl
  cases e3;obtain⟨x,L1,rfl,h1⟩:=CQ hs;obtain⟨p,vs,rfl,hp,hz',q⟩:=CP h1 e1;cases SQ q e2;refine⟨_,p,zs,rfl,rfl,.inl (.inl hp),hl,k _ _ (HD ?_)⟩;show(Builtin.Str.glued sep zs).length<=sizeLine;rw[StrLaws.glued_eq_join];exact Nat.le_trans (StrLaws.join_length_le sep zs) hl
 .cases e3
noncomputable def strN:List A->Option A:=on1 fun a=>(Bj a).bind fun i=>if 0<=i/\i<1000000000 then some (.fz (.str (PySem.Str.ofString (toString i)))) else none
theorem Kq:OpN K strN Tv:=by
 intro N H xs as b Q hs e k
 replace e:=DL e
 obtain⟨a,rfl,e⟩:=e;simp only[bind_eq_some_iff] at e;obtain⟨i,e1,e2⟩:=e;cases A1 e1;split at e2
 .rename_i h0
  cases e2;obtain⟨x,L1,rfl,h1⟩:=CQ hs;cases Ba h1;refine⟨i,rfl,?_,k _ _ (HD ?_)⟩
  .have h2:i.natAbs<2 ^ 30:=by omega
   have h3:i.natAbs.log2<1920:=by
    by_cases h4:i.natAbs=0
    .rw[h4]; decide
    .exact Nat.lt_trans ((Nat.log2_lt h4).mpr h2) (by decide)
   exact h3
  .exact Nat.le_trans (PySem.W.KT.len_num h0.1 (by omega)) (by decide)
 .cases e2
noncomputable def PQ:List A->Option A:=on1 fun a=>(CD a).bind fun z=>if z.length<=640 then (PySem.intText? z).map fun n=>.fz (.int n) else none
theorem NH:OpN K PQ Tr:=by
 intro N H xs as b Q hs e k
 replace e:=DL e
 obtain⟨a,rfl,e⟩:=e;simp only[bind_eq_some_iff] at e;obtain⟨z,e1,e2⟩:=e;cases CM e1;split at e2
 .rename_i h0
  simp only[map_eq_some_iff] at e2;obtain⟨n,e2,rfl⟩:=e2;obtain⟨x,L1,rfl,h1⟩:=CQ hs;obtain⟨rfl,_⟩:=Dv h1;exact⟨z,n,rfl,h0,e2,k _ _ Dd⟩
 .cases e2
end
section
variable{X:Cx}{a e:Expr}{m1 m2:ME}{apos cpos:Pos}
theorem Lr(hbase:attributeBase a "split" X.env (eval a X.env)=eval a X.env)(hline:(apos.endLine==cpos.line)=true)(hs:starEach [e] X.env=[(false,eval e X.env)])(ha:JE X a m1)(he:JE X e m2):
  JE X (.Call (.Attribute a "split" apos) [e] [] cpos) (Gh OW m1 (m1L m2)):=by
 refine Az (QD hbase hline hs ha he) fun σ H Q h=>?_;exact tE.mono (Rh U0 h) fun x H1 ⟨ty,q⟩=>⟨ty,FP q |> fun q=>tE.mono q fun y H2 q=>IL q⟩
theorem Gz(hbase:attributeBase a "join" X.env (eval a X.env)=eval a X.env)(hline:(apos.endLine==cpos.line)=true)(B:Blt X.mg X.K)(hs:starEach [e] X.env=[(false,eval e X.env)])(ha:JE X a m1)(he:JE X e m2):
  JE X (.Call (.Attribute a "join" apos) [e] [] cpos) (Gh GB m1 (m1L m2)):=by
 refine Az (Sq rfl B hbase hline hs ha he) fun σ H Q h=>?_;exact tE.mono (Rh Qv h) fun x H1 ⟨ty,q⟩=>⟨ty,FP q |> fun q=>tE.mono q fun y H2 q=>IL q⟩
end
end J
end
section
namespace J
open PySem PySem.Spec PyProof.Rows L2
section
variable{X:Cx}{m:ME}{mt:MT}{mi:MI}{x:Str}{pos:Pos}
theorem RU(N':List Str){scope:Scope}{iter elt:Expr}{ifs:List Expr}{px:Pos}(hid:Jr N' X.N X.env.scope=true)(hok:BR [x] N' scope X.env.scope=true)(hc:X.calm=true)(hn:N'.Nodup)(hx:scope.names.lookup x=some .local)(hs:∀z,foldedSetIterable iter X.env z=pure z)(hi:JI X (.Name x px) iter mi)(ht:JTc (withN X N') [x] scope ifs mt)(he:JEc (withN X N') [x] scope elt m):
  JE X (.ListComp elt [⟨.Name x px,iter,ifs,0⟩] scope pos) (Jo mi 0 mt m):=by
 have hnx:∀y∈N',x≠y:=fun y hy z=>by
  simp only[BR,Bool.and_eq_true,List.all_eq_true] at hok;have:=hok.2 x (by simp);rw[z] at this;simp[hy] at this
 exact Az (Vd (te:=tE X.K m) hid hc hok hi (fun C s H fp pins=>Iz rfl (List.nodup_cons.mpr ⟨fun z=>hnx x z rfl,hn⟩) (lookup_relabel_local hx)) ht (fun C s H fp pins=>he C s H fp pins) hs) fun _ _ _ h=>Rf (pat:=0) h
end
noncomputable def GS0(K:Frag)(x z:Str):Prop:=z.length<=sizeLine/\∃t,PySem.W.nsIn K mainGlobals x=some (some (.str z t))
theorem Wq{K:Frag}{h:Heap}{mg:Str->Option Value}{x z:Str}(X:K.In h)(G:h.Ns mainGlobals mg)(e:GS0 K x z):GStr mg x z:=by
 obtain⟨hz,t,e⟩:=e;exact⟨hz,t,PySem.W.mg_of X G e⟩
end J
end
section
namespace St
noncomputable def hit(f:Nat->List Int)(bs:List Int)(c:Nat):Bool:=(f c).any fun x=>decide (x∈bs)
noncomputable def fs(f:Nat->List Int):List Int->List Nat->List Nat
 | _,[]=>[]
 | bs,c::w=>if hit f bs c then fs f (bs++f c) w else c::fs f (bs++f c) w
noncomputable def rs(f:Nat->List Int):List Int->List Nat->List Nat
 | _,[]=>[]
 | bs,c::w=>if hit f bs c then c::rs f (bs++f c) w else rs f (bs++f c) w
noncomputable def srt(cs:List Nat):List Nat:=cs.mergeSort fun a b=>decide (a<=b)
variable{f:Nat->List Int}
noncomputable def pl(f:Nat->List Int):List Int->Nat->List Nat->List Nat
 | _,_,[]=>[]
 | bs,k,c::w=>if hit f bs c then pl f (bs++f c) (k+1) w else k::pl f (bs++f c) (k+1) w
end St
end
section
namespace St
variable{f:Nat->List Int}
noncomputable def lst(cs:List Nat):Nat:=(srt cs).headD 0
end St
end
section
namespace St
variable{f:Nat->List Int}
noncomputable def dec(k:Nat->Nat)(c:Nat):Nat->Nat:=fun d=>if d=c then k d-1 else k d
noncomputable def wi:(Nat->Nat)->List Nat->List Nat
 | _,[]=>[]
 | k,c::w=>if 0<k c then c::wi (dec k c) w else wi k w
noncomputable def pt(o:List Nat):List Nat->List Nat->List Nat->List Nat×List Nat
 | ws,bs,[]=>(ws,bs)
 | ws,bs,c::w=>if ws.count c<o.count c then pt o (ws++[c]) bs w else pt o ws (bs++[c]) w
end St
end
section
namespace St
open PySem
theorem Nm(x y:Str):(x++y).cps.toList=x.cps.toList++y.cps.toList:=by
 show(x.cps++y.cps).toList=_;simp
theorem Pn{c:Nat}:∀{p q X Y:List Nat},c∉p->c∉q->p++c::X=q++c::Y->p=q/\X=Y
 | [],[],X,Y,_,_,e=>⟨rfl,by simpa using e⟩
 | [],b::q,X,Y,_,hq,e=>by
  simp only[List.nil_append,List.cons_append,List.cons.injEq] at e;exact absurd (by simp[e.1]) hq
 | a::p,[],X,Y,hp,_,e=>by
  simp only[List.nil_append,List.cons_append,List.cons.injEq] at e;exact absurd (by simp[e.1]) hp
 | a::p,b::q,X,Y,hp,hq,e=>by
  simp only[List.cons_append,List.cons.injEq] at e;obtain⟨h1,h2⟩:=Pn (p:=p) (q:=q) (fun z=>hp (by simp[z])) (fun z=>hq (by simp[z])) e.2;exact⟨by rw[e.1,h1],h2⟩
theorem N3{x y:Str}(h:x.cps.toList=y.cps.toList):x=y:=by
 cases x; cases y;simp only[Str.mk.injEq];exact Array.toList_inj.mp h
theorem Fq(c:Nat)(x y:Str)(r:List Str):(Str.join ⟨#[c]⟩ (x::y::r)).cps.toList=x.cps.toList++c::(Str.join ⟨#[c]⟩ (y::r)).cps.toList:=by
 show(x++(⟨#[c]⟩:Str)++Str.join ⟨#[c]⟩ (y::r)).cps.toList=_;rw[Nm,Nm];simp
theorem Lu{c:Nat}:∀{ps qs:List Str},ps≠[]->qs≠[]->(∀p∈ps,c∉p.cps.toList)->(∀q∈qs,c∉q.cps.toList)->Str.join ⟨#[c]⟩ ps=Str.join ⟨#[c]⟩ qs->ps=qs
 | [],_,h,_,_,_,_=>absurd rfl h
 | _::_,[],_,h,_,_,_=>absurd rfl h
 | [p],[q],_,_,_,_,e=>by
  have:p=q:=e;rw[this]
 | [p],q::q2::r,_,_,hp,_,e=>by
  have e1:p.cps.toList=(Str.join ⟨#[c]⟩ (q::q2::r)).cps.toList:=congrArg (fun z=>z.cps.toList) e;rw[Fq] at e1;exact absurd (by rw[e1]; simp) (hp p (by simp))
 | p::p2::r,[q],_,_,_,hq,e=>by
  have e1:(Str.join ⟨#[c]⟩ (p::p2::r)).cps.toList=q.cps.toList:=congrArg (fun z=>z.cps.toList) e;rw[Fq] at e1;exact absurd (by rw[<- e1]; simp) (hq q (by simp))
 | p::p2::r,q::q2::r2,_,_,hp,hq,e=>by
  have e1:(Str.join ⟨#[c]⟩ (p::p2::r)).cps.toList=(Str.join ⟨#[c]⟩ (q::q2::r2)).cps.toList:=congrArg (fun z=>z.cps.toList) e;rw[Fq,Fq] at e1;obtain⟨h1,h2⟩:=Pn (hp p (by simp)) (hq q (by simp)) e1;have h3:=Lu (ps:=p2::r) (qs:=q2::r2) (by simp) (by simp) (fun x hx=>hp x (by simp only[List.mem_cons] at hx |-; exact .inr hx)) (fun x hx=>hq x (by simp only[List.mem_cons] at hx |-; exact .inr hx)) (N3 h2);rw[N3 h1,h3]
theorem L6{c:Nat}{ps:List Str}(ne:ps≠[])(fr:∀p∈ps,c∉p.cps.toList):Txt.split (Txt.join ⟨#[c]⟩ ps) ⟨#[c]⟩=ps:=by
 have e:Txt.join ⟨#[c]⟩ ps=Str.join ⟨#[c]⟩ ps:=StrLaws.glued_eq_join _ _;rw[e];refine Lu (fun z=>?_) ne (StrLaws.split_free _ c) fr (StrLaws.join_split _ _);have:=PyProof.Rows.split_pos (Str.join ⟨#[c]⟩ ps) ⟨#[c]⟩;rw[z] at this;exact absurd this (by decide)
theorem mem_join{c x:Nat}:∀{ps:List Str},x∈(Str.join ⟨#[c]⟩ ps).cps.toList->x=c\/∃p∈ps,x∈p.cps.toList
 | [],h=>by
  have:(Str.join ⟨#[c]⟩ []).cps.toList=[]:=(by decide +kernel:(("" : Str)).cps.toList=[]);rw[this] at h;cases h
 | [p],h=>.inr ⟨p,by simp,h⟩
 | p::q::r,h=>by
  rw[Fq] at h;simp only[List.mem_append,List.mem_cons] at h;rcases h with h|h|h
  .exact .inr ⟨p,by simp,h⟩
  .exact .inl h
  .rcases mem_join (ps:=q::r) h with h|⟨z,hz,hx⟩
   .exact .inl h
   .exact .inr ⟨z,by simp only[List.mem_cons] at hz |-; exact .inr hz,hx⟩
theorem Md(s:Str)(ps:List Str):Txt.join s ps=Str.join s ps:=StrLaws.glued_eq_join _ _
theorem Q8{ps:List Str}{b:Nat}(h:∀p∈ps,p.length<=b):(ps.map (·.length)).sum<=ps.length*b:=by
 induction ps with
 | nil=>simp
 | cons p ps ih =>
  have h1:=h p (by simp);have h2:=ih fun q hq=>h q (by simp[hq]);simp only[List.map_cons,List.sum_cons,List.length_cons,Nat.succ_mul];omega
theorem join_le{c b:Nat}{ps:List Str}(h:∀p∈ps,p.length<=b):(Txt.join ⟨#[c]⟩ ps).length<=ps.length*(b+1):=by
 rw[Md];refine Nat.le_trans (StrLaws.join_length_le _ _) ?_;have:=Q8 h;show _+ps.length*1<=_;rw[Nat.mul_add];omega
end St
end
section
namespace Gk61
open PySem PySem.Spec PyProof.Rows L2 J
noncomputable def top(i:Nat):Stmt:=PySem.Challenge.pw_handsapart_k61_houses_written.main.body.getD i (.Pass ⟨0,0,0,0⟩)
noncomputable def Eb:MS:=retS (andM (opM (CY isTup) (m1L (Ad 0))) (opM eqA (m2L (opM DJ (Ab (Ad 0) Aj)) (Ag (.int 2)))))
noncomputable def BA:Fn:=fnM 1 1 Eb
noncomputable def Gp:MS:=retS (andM (opM (CY isInt) (m1L (Ad 0))) (notM (opM (CY isBool) (m1L (Ad 0)))))
noncomputable def Cm:Fn:=fnM 1 1 Gp
noncomputable def Df:MS:=retS (andM (Ar Cm (Ab (Ad 0) Aj)) (Gn leA leA (Ag (.int 2)) (Ad 0) (Ag (.int 4))))
noncomputable def AS:Fn:=fnM 1 1 Df
noncomputable def DO:MS:=retS (andM (Ar Cm (Ab (Ad 0) Aj)) (Gn leA ltA (Ag (.int 0)) (Ad 0) (Ad 1)))
noncomputable def Be:Fn:=fnM 2 2 DO
noncomputable def B6:MS:=retS (opM EG (Ab (Bn (De (Ad 0)) 0 Dw (Ar Be (Ab (Ad 0) (Ab (Ad 2) Aj)))) Aj))
noncomputable def BH:Fn:=fnM 2 2 B6
noncomputable def A5:MS:=retS (andM (opM (CY D4) (m1L (Ad 0))) (Ar BH (Ab (Ad 0) (Ab (Ad 1) Aj))))
noncomputable def AF:Fn:=fnM 2 2 A5
noncomputable def AO:MS:=AA (ifS (B3 (AG (Ar AF (Ab (Ad 0) (Ab (Ad 1) Aj))))) (retS (Ag (.bl false))) Bf) (retS (opM EG (Ab (Bn (CV (opM He (m2L (opM DJ (Ab (Ad 0) Aj)) (Ag (.int 1))))) 0 Dw (opM ltA (m2L (opM ixA (m2L (Ad 1) (Ad 0))) (opM ixA (m2L (Ad 1) (opM Bg (m2L (Ad 0) (Ag (.int 1))))))))) Aj)))
noncomputable def AQ:Fn:=fnM 2 2 AO
noncomputable def DP:MS:=retS (andM (opM (CY isStr) (m1L (Ad 0))) (andM (opM eqA (m2L (opM DJ (Ab (Ad 0) Aj)) (Ag (.int 1)))) (Gn leA leA (Ag (.str (Str.ofString "a"))) (Ad 0) (Ag (.str (Str.ofString "z"))))))
noncomputable def AE:Fn:=fnM 1 1 DP
noncomputable def Bh:MS:=AA (ifS (orT (B3 (AG (Ar BA (Ab (Ad 1) Aj)))) (B3 (AG (Ar AE (Ab (opM ixA (m2L (Ad 1) (Ag (.int 0)))) Aj))))) (retS (Ag (.bl false))) Bf) (retS (andM (Ar AQ (Ab (opM ixA (m2L (Ad 1) (Ag (.int 1)))) (Ab (Ad 0) Aj))) (opM gtA (m2L (opM DJ (Ab (opM ixA (m2L (Ad 1) (Ag (.int 1)))) Aj)) (Ag (.int 0))))))
noncomputable def A0:Fn:=fnM 2 2 Bh
noncomputable def AM:MS:=AA (ifS (orT (B3 (AG (opM (CY D4) (m1L (Ad 1))))) (B3 (AG (Gn leA leA (Ag (.int 1)) (opM DJ (Ab (Ad 1) Aj)) (Ag (.int 6)))))) (retS (Ag (.bl false))) Bf) (AA (ifS (B3 (AG (opM EG (Ab (Bn (De (Ad 1)) 0 Dw (Ar A0 (Ab (Ad 1) (Ab (Ad 0) Aj)))) Aj)))) (retS (Ag (.bl false))) Bf) (retS (opM EG (Ab (Bn (CV (opM He (m2L (opM DJ (Ab (Ad 1) Aj)) (Ag (.int 1))))) 0 Dw (opM ltA (m2L (opM ixA (m2L (opM ixA (m2L (Ad 2) (Ad 0))) (Ag (.int 0)))) (opM ixA (m2L (opM ixA (m2L (Ad 2) (opM Bg (m2L (Ad 0) (Ag (.int 1)))))) (Ag (.int 0))))))) Aj))))
noncomputable def Ck:Fn:=fnM 2 2 AM
noncomputable def BG:MS:=AA (ifS (B3 (AG (Ar BA (Ab (Ad 0) Aj)))) (retS (Ag (.bl false))) Bf) (retS (andM (Ar AS (Ab (opM ixA (m2L (Ad 0) (Ag (.int 0)))) Aj)) (Ar Ck (Ab (opM ixA (m2L (Ad 0) (Ag (.int 0)))) (Ab (opM ixA (m2L (Ad 0) (Ag (.int 1)))) Aj)))))
noncomputable def BS:Fn:=fnM 1 1 BG
noncomputable def C4:MS:=AA (ifS (AG (opM geA (m2L (opM O6 (Ab (Ad 0) Aj)) (opM OL (m2L (Ag (.int 10)) (Ag (.int 18))))))) (retS (lstM (Ab (Ae (opM O6 (Ab (Ad 0) Aj))) (Ab (Ae (Ag (.int 0))) Aj)))) Bf) (retS (lstM (Ab (Ae (opM LC (m2L (Ad 0) (Ag (.int 2147483647))))) (Ab (Ae (Ag (.int 1))) Aj))))
noncomputable def DE:Fn:=fnM 1 1 C4
noncomputable def CH:MS:=AA (ifS (AG (opM eqA (m2L (opM ixA (m2L (Ad 0) (Ag (.int 1)))) (Ag (.int 0))))) (AA (A9 2 (opM LC (m2L (opM ixA (m2L (Ad 0) (Ag (.int 0)))) (Ad 1)))) (AA (LQ 0 (Ag (.int 0)) (opM Lj (m2L (opM ixA (m2L (Ad 0) (Ag (.int 0)))) (Ad 1)))) (retS (Ad 2)))) Bf) (AA (LQ 0 (Ag (.int 0)) (opM LC (m2L (opM Bg (m2L (opM Bg (m2L (opM Kg (m2L (opM ixA (m2L (Ad 0) (Ag (.int 0)))) (Ag (.int 48271)))) (opM Kg (m2L (opM Kg (m2L (Ag (.int 7919)) (opM ixA (m2L (Ad 0) (Ag (.int 1)))))) (opM ixA (m2L (Ad 0) (Ag (.int 1)))))))) (Ag (.int 17)))) (Ag (.int 2147483647))))) (AA (LQ 0 (Ag (.int 1)) (opM Bg (m2L (opM ixA (m2L (Ad 0) (Ag (.int 1)))) (Ag (.int 1))))) (retS (opM LC (m2L (opM Lj (m2L (opM LC (m2L (opM Kg (m2L (opM ixA (m2L (Ad 0) (Ag (.int 0)))) (Ag (.int 69621)))) (Ag (.int 2147483629)))) (Ag (.int 5)))) (Ad 1))))))
noncomputable def AH:Fn:=fnM 2 3 CH
noncomputable def DY:MS:=AA (A9 1 (opM Bg (m2L (Ag (.int 2)) (Ar AH (Ab (Ad 0) (Ab (Ag (.int 3)) Aj)))))) (AA (A9 2 (opM Bg (m2L (Ag (.int 1)) (Ar AH (Ab (Ad 0) (Ab (Ag (.int 6)) Aj)))))) (AA (A9 3 (Ar AH (Ab (Ad 0) (Ab (Ag (.int 2)) Aj)))) (AA (A9 4 (lstM Aj)) (AA (A9 5 (Ag (.int 0))) (AA (J1 [6] true (CV (Ad 2)) (AA (A9 5 (opM Bg (m2L (Ad 5) (Ar AH (Ab (Ad 0) (Ab (opM He (m2L (opM Bg (m2L (opM He (m2L (Ag (.int 27)) (Ad 2))) (Ad 6))) (Ad 5))) Aj)))))) (AA (A9 7 (opM Bg (m2L (Ag (.int 1)) (Ar AH (Ab (Ad 0) (Ab (opM He (m2L (opM KJ (m2L (Ag (.int 1)) (Ad 1))) (Ag (.int 1)))) Aj)))))) (AA (ifS (AG (opM eqA (m2L (Ad 3) (Ag (.int 1))))) (A9 7 (opM RB (m2L (opM KJ (m2L (Ag (.int 1)) (Ar AH (Ab (Ad 0) (Ab (Ad 1) Aj))))) (opM KJ (m2L (Ag (.int 1)) (Ar AH (Ab (Ad 0) (Ab (Ad 1) Aj)))))))) Bf) (AA (IS 4 (CZ (Ab (Ae (opM ixA (m2L (Ag (.str (Str.ofString "abcdefghijklmnopqrstuvwxyz"))) (Ad 5)))) (Ab (Ae (Bn (CV (Ad 1)) 0 (AG (opM eqA (m2L (opM K5 (m2L (opM Nb (m2L (Ad 8) (Ad 0))) (Ag (.int 1)))) (Ag (.int 1))))) (Ad 0))) Aj)))) (A9 5 (opM Bg (m2L (Ad 5) (Ag (.int 1)))))))))) (retS (CZ (Ab (Ae (Ad 1)) (Ab (Ae (Ad 4)) Aj)))))))))
noncomputable def B4:Fn:=fnM 1 8 DY
noncomputable def Cy:MS:=retS (CZ (Ab (Ae (opM ixA (m2L (Ad 0) (Ag (.int 0))))) (Ab (Ae (Bn (De (opM ixA (m2L (Ad 0) (Ag (.int 1))))) 2 Dw (CZ (Ab (Ae (Ad 0)) (Ab (Ae (opM Jt (Ab (Ad 1) Aj))) Aj))))) Aj)))
noncomputable def Bd:Fn:=fnM 1 1 Cy
noncomputable def Cz:MS:=AA (A9 1 (lstM (Ab (Ae (opM Bg (m2L (Ag (.str (Str.ofString "hands "))) (opM strN (Ab (opM ixA (m2L (Ad 0) (Ag (.int 0)))) Aj))))) Aj))) (AA (J1 [2,3] false (De (opM ixA (m2L (Ad 0) (Ag (.int 1))))) (IS 1 (Gh GB (Ag (.str (Str.ofString " "))) (m1L (opM Bg (m2L (lstM (Ab (Ae (Ad 2)) Aj)) (Bn (De (Ad 3)) 0 Dw (opM strN (Ab (Ad 0) Aj))))))))) (retS (Gh GB (Ag (.str (Str.ofString "\n"))) (m1L (Ad 1)))))
noncomputable def Bz:Fn:=fnM 1 4 Cz
noncomputable def Dp:MS:=ifS (B3 (AG (Ad 0))) (EU) Bf
noncomputable def Bq:Fn:=fnM 1 1 Dp
noncomputable def C6:MS:=AA (Hw (Ar Bq (Ab (opM (CY isStr) (m1L (Ad 0))) Aj))) (retS (Bn (De (Gh OW (Ad 0) (m1L (Ag (.str (Str.ofString "\n")))))) 0 Dw (Gh OW (Ad 0) (m1L (Ag (.str (Str.ofString " ")))))))
noncomputable def Cq:Fn:=fnM 1 1 C6
noncomputable def Fb:MS:=ifS (B3 (AG (Ar BS (Ab (Ad 0) Aj)))) (EU) Bf
noncomputable def BL:Fn:=fnM 1 1 Fb
noncomputable def F2:MS:=AA (ifS (orT (AG (opM eqA (m2L (Ad 0) (Ag (.str (Str.ofString "")))))) (B3 (AG (opM EG (Ab (Bn (L7 (Ad 0)) 0 Dw (opM (inA false) (m2L (Ad 0) (Ag (.str (Str.ofString "0123456789")))))) Aj))))) (retS (Ag (.bl false))) Bf) (retS (orM (opM eqA (m2L (Ad 0) (Ag (.str (Str.ofString "0"))))) (opM neA (m2L (opM ixA (m2L (Ad 0) (Ag (.int 0)))) (Ag (.str (Str.ofString "0")))))))
noncomputable def Bo:Fn:=fnM 1 1 F2
noncomputable def BX:MS:=retS (andM (opM eqA (m2L (opM ixA (m2L (Ad 1) (Ag (.int 0)))) (Ad 0))) (opM EG (Ab (Bn (De (opM EZ (m2L (Ad 1) (Ag (.int 1))))) 0 Dw (Ar Bo (Ab (Ad 0) Aj))) Aj)))
noncomputable def Bc:Fn:=fnM 2 2 BX
noncomputable def CN:MS:=retS (Bn (De (opM EZ (m2L (Ad 0) (Ag (.int 1))))) 0 Dw (opM PQ (Ab (Ad 0) Aj)))
noncomputable def Cc:Fn:=fnM 1 1 CN
noncomputable def DZ:MS:=AA (A9 1 (Ar Cq (Ab (Ad 0) Aj))) (AA (Hw (Ar Bq (Ab (andM (opM eqA (m2L (opM DJ (Ab (opM ixA (m2L (Ad 1) (Ag (.int 0)))) Aj)) (Ag (.int 2)))) (Ar Bc (Ab (Ag (.str (Str.ofString "hands"))) (Ab (opM ixA (m2L (Ad 1) (Ag (.int 0)))) Aj)))) Aj))) (AA (J1 [2] true (De (opM EZ (m2L (Ad 1) (Ag (.int 1))))) (Hw (Ar Bq (Ab (andM (Ar AE (Ab (opM ixA (m2L (Ad 2) (Ag (.int 0)))) Aj)) (Ar Bc (Ab (opM ixA (m2L (Ad 2) (Ag (.int 0)))) (Ab (Ad 2) Aj)))) Aj)))) (AA (A9 3 (Hg (Ab (opM PQ (Ab (opM ixA (m2L (opM ixA (m2L (Ad 1) (Ag (.int 0)))) (Ag (.int 1)))) Aj)) (Ab (Jo (De (opM EZ (m2L (Ad 1) (Ag (.int 1))))) 0 Dw (Hg (Ab (opM ixA (m2L (Ad 0) (Ag (.int 0)))) (Ab (Ar Cc (Ab (Ad 0) Aj)) Aj)))) Aj)))) (AA (Hw (FX BL (Ab (Ad 3) Aj))) (retS (Ad 3))))))
noncomputable def BM:Fn:=fnM 1 4 DZ
noncomputable def C5:MS:=AA (K0 [2,3] (Ad 1)) (AA (A9 4 (opM ixA (m2L (lstM (Ab (Ae (Ag .non)) (Ab (Ae (Ag (.bl true))) (Ab (Ae (Ag (.int 0))) (Ab (Ae (Ag (.str (Str.ofString "")))) (Ab (Ae (lstM Aj)) (Ab (Ae (CZ Aj)) (Ab (Ae (opM OL (m2L (Ag (.int 10)) (Ag (.int 39))))) (Ab (Ae (opM MJ (m1L (Ag (.int 1))))) (Ab (Ae (Ag (.str (Str.ofString "a")))) (Ab (Ae (lstM (Ab (Ae (Ag (.int 0))) Aj))) (Ab (Ae (CZ (Ab (Ae (Ag (.int 0))) Aj))) Aj)))))))))))) (Ar AH (Ab (Ad 0) (Ab (Ag (.int 11)) Aj)))))) (AA (A9 5 (Ar AH (Ab (Ad 0) (Ab (Ag (.int 12)) Aj)))) (AA (A9 6 (Ar AH (Ab (Ad 0) (Ab (opM DJ (Ab (Ad 3) Aj)) Aj)))) (AA (K0 [7,8] (opM ixA (m2L (Ad 3) (Ad 6)))) (AA (A9 9 (Ar AH (Ab (Ad 0) (Ab (Ag (.int 8)) Aj)))) (AA (ifS (AG (opM ltA (m2L (Ad 5) (Ag (.int 3))))) (retS (opM ixA (m2L (lstM (Ab (Ae (Ad 4)) (Ab (Ae (lstM (Ab (Ae (Ad 2)) (Ab (Ae (Ad 3)) Aj)))) (Ab (Ae (CZ (Ab (Ae (Ad 2)) (Ab (Ae (Ad 3)) (Ab (Ae (Ad 4)) Aj))))) Aj)))) (Ad 5)))) Bf) (AA (ifS (AG (opM eqA (m2L (Ad 5) (Ag (.int 3))))) (retS (CZ (Ab (Ae (opM ixA (m2L (lstM (Ab (Ae (Ag (.int 1))) (Ab (Ae (Ag (.int 5))) (Ab (Ae (Ag (.int 0))) (Ab (Ae (opM MJ (m1L (Ag (.int 1))))) (Ab (Ae (Ag (.bl true))) (Ab (Ae (Ag (.str (Str.ofString "2")))) (Ab (Ae (Ag .non)) (Ab (Ae (opM OL (m2L (Ag (.int 10)) (Ag (.int 39))))) Aj))))))))) (Ad 9)))) (Ab (Ae (Ad 3)) Aj)))) Bf) (AA (ifS (AG (opM ltA (m2L (Ad 5) (Ag (.int 6))))) (retS (opM ixA (m2L (lstM (Ab (Ae (CZ (Ab (Ae (Ad 2)) (Ab (Ae (opM OZ (Ab (Ad 3) Aj))) Aj)))) (Ab (Ae (CZ (Ab (Ae (Ad 2)) (Ab (Ae (lstM Aj)) Aj)))) Aj))) (opM He (m2L (Ad 5) (Ag (.int 4))))))) Bf) (AA (ifS (AG (opM eqA (m2L (Ad 5) (Ag (.int 6))))) (retS (CZ (Ab (Ae (Ad 2)) (Ab (Ae (opM Bg (m2L (Ad 3) (lstM (Ab (Ae (opM ixA (m2L (Ad 3) (Ad 6)))) Aj))))) Aj)))) Bf) (AA (ifS (AG (opM eqA (m2L (Ad 5) (Ag (.int 7))))) (A9 10 (CZ (Ab (Ae (opM ixA (m2L (lstM (Ab (Ae (Ag (.str (Str.ofString "")))) (Ab (Ae (Ag (.str (Str.ofString "A")))) (Ab (Ae (Ag (.str (Str.ofString "ab")))) (Ab (Ae (Ag (.str (Str.ofString "-")))) (Ab (Ae (Ag (.str (Str.ofString "1")))) (Ab (Ae (Ag .non)) (Ab (Ae (Ag (.int 5))) (Ab (Ae (CZ (Ab (Ae (Ag (.str (Str.ofString "a")))) Aj))) Aj))))))))) (Ad 9)))) (Ab (Ae (Ad 8)) Aj)))) (ifS (AG (opM eqA (m2L (Ad 5) (Ag (.int 8))))) (AA (A9 11 (opM ixA (m2L (lstM (Ab (Ae (lstM Aj)) (Ab (Ae (opM Bg (m2L (Ad 8) (Ad 8)))) (Ab (Ae (opM Bg (m2L (Ad 8) (lstM (Ab (Ae (Ad 2)) Aj))))) (Ab (Ae (opM Bg (m2L (lstM (Ab (Ae (opM MJ (m1L (Ag (.int 1))))) Aj)) (Ad 8)))) (Ab (Ae (opM OZ (Ab (Ad 8) Aj))) (Ab (Ae (lstM (Ab (Ae (Ag (.bl true))) Aj))) (Ab (Ae (Ag .non)) (Ab (Ae (Ag (.str (Str.ofString "0")))) Aj))))))))) (Ad 9)))) (A9 10 (CZ (Ab (Ae (Ad 7)) (Ab (Ae (Ad 11)) Aj))))) (ifS (AG (opM eqA (m2L (Ad 5) (Ag (.int 9))))) (A9 10 (opM ixA (m2L (lstM (Ab (Ae (lstM (Ab (Ae (Ad 7)) (Ab (Ae (Ad 8)) Aj)))) (Ab (Ae (CZ (Ab (Ae (Ad 7)) Aj))) (Ab (Ae (CZ (Ab (Ae (Ad 7)) (Ab (Ae (Ad 8)) (Ab (Ae (Ad 4)) Aj))))) (Ab (Ae (Ad 7)) (Ab (Ae (Ag .non)) (Ab (Ae (Ag (.int 3))) (Ab (Ae (CZ Aj)) (Ab (Ae (CZ (Ab (Ae (Ad 8)) (Ab (Ae (Ad 7)) Aj)))) Aj))))))))) (Ad 9)))) (ifS (AG (opM eqA (m2L (Ad 5) (Ag (.int 10))))) (retS (CZ (Ab (Ae (Ad 2)) (Ab (Ae (opM ND (m2L (opM Vz (m2L (Ad 3) (opM MJ (m1L (Ag (.int 1)))))) (opM RL (Ab (opM gtA (m2L (opM DJ (Ab (Ad 3) Aj)) (Ag (.int 1)))) Aj))))) Aj)))) (retS (CZ (Ab (Ae (Ad 2)) (Ab (Ae (Bn (L7 (Ag (.str (Str.ofString "abcdefg")))) 0 Dw (CZ (Ab (Ae (Ad 0)) (Ab (Ae (lstM (Ab (Ae (Ag (.int 0))) Aj))) Aj))))) Aj)))))))) (retS (CZ (Ab (Ae (Ad 2)) (Ab (Ae (opM Bg (m2L (opM Bg (m2L (opM Qn (m2L (Ad 3) (Ad 6))) (lstM (Ab (Ae (Ad 10)) Aj)))) (opM EZ (m2L (Ad 3) (opM Bg (m2L (Ad 6) (Ag (.int 1))))))))) Aj))))))))))))))
noncomputable def Bv:Fn:=fnM 2 12 C5
noncomputable def Ci:MS:=AA (ifS (orT (B3 (AG (opM (CY isTup) (m1L (Ad 0))))) (orT (AG (opM neA (m2L (Ad 0) (Ad 1)))) (B3 (AG (opM (CY D4) (m1L (opM ixA (m2L (Ad 0) (Ag (.int 1)))))))))) (retS (Ag (.bl false))) Bf) (retS (opM EG (Ab (Bn (De (opM ixA (m2L (Ad 0) (Ag (.int 1))))) 0 Dw (andM (opM (CY isTup) (m1L (Ad 0))) (opM (CY D4) (m1L (opM ixA (m2L (Ad 0) (Ag (.int 1)))))))) Aj)))
noncomputable def AY:Fn:=fnM 2 2 Ci
noncomputable def CG:MS:=AA (ifS (AG (opM ltA (m2L (Ad 1) (opM DJ (Ab (Ad 0) Aj))))) (retS (opM ixA (m2L (Ad 0) (Ad 1)))) Bf) (retS (Ag (.int 0)))
noncomputable def C7:Fn:=fnM 2 2 CG
noncomputable def HL:MS:=retS (andM (opM (CY isInt) (m1L (Ad 0))) (notM (opM (CY isBool) (m1L (Ad 0)))))
noncomputable def Em:Fn:=fnM 1 1 HL
noncomputable def El:Fn:=fnM 2 2 EU
noncomputable def Ek:MS:=AA (ifS (AG (opM (CY isTup) (m1L (Ad 1)))) (EU) Bf) (AA (ifS (AG (opM (CY isStr) (m1L (Ad 1)))) (retS (andM (opM (CY isStr) (m1L (Ad 0))) (opM eqA (m2L (Ad 0) (Ad 1))))) Bf) (AA (ifS (AG (opM RM (m2L (Ad 1) (Ag .non)))) (retS (opM RM (m2L (Ad 0) (Ag .non)))) Bf) (retS (andM (Ar Em (Ab (Ad 0) Aj)) (opM eqA (m2L (Ad 0) (Ad 1)))))))
noncomputable def C8:Fn:=fnM 2 2 Ek
noncomputable def BP:MS:=retS (Gh GB (Ag (.str (Str.ofString " "))) (m1L (opM Bg (m2L (lstM (Ab (Ae (Ad 0)) Aj)) (Bn (De (Ad 1)) 0 Dw (opM strN (Ab (Ad 0) Aj)))))))
noncomputable def BE:Fn:=fnM 2 2 BP
noncomputable def D0:MS:=AA (Hw (Ar BL (Ab (Ad 0) Aj))) (AA (A9 1 (lstM (Ab (Ae (Ar BE (Ab (Ag (.str (Str.ofString "hands"))) (Ab (lstM (Ab (Ae (opM ixA (m2L (Ad 0) (Ag (.int 0))))) Aj)) Aj)))) Aj))) (AA (Li 1 (Bn (De (opM ixA (m2L (Ad 0) (Ag (.int 1))))) 2 Dw (Ar BE (Ab (Ad 0) (Ab (Ad 1) Aj))))) (retS (Gh GB (Ag (.str (Str.ofString "\n"))) (m1L (Ad 1))))))
noncomputable def CJ:Fn:=fnM 1 2 D0
noncomputable def CK:FnR:=fnR 1 1 (ifR (B3 (AG (Ar BS (Ab (Ad 0) Aj)))) (M3 "NoHouse"))
noncomputable def B5:FnR:=fnR 1 2 (Hk CK (Ab (Ad 0) Aj))
noncomputable def HM(C:Addr)(j:Nat):MS:=AA (A9 1 (lstM (Ab (Ae (opM (Bl C (0==j)) (m1L (Ad 0)))) (Ab (Ae (opM (Bl C (1==j)) (m1L (Ad 0)))) (Ab (Ae (opM (Bl C (2==j)) (m1L (Ad 0)))) (Ab (Ae (opM (Bl C (3==j)) (m1L (Ad 0)))) Aj)))))) (AA (A9 1 (opM Bg (m2L (Ad 1) (lstM (Ab (Ae (opM (Bl C (4==j)) (m1L (Ad 0)))) (Ab (Ae (opM (Bl C (5==j)) (m1L (Ad 0)))) (Ab (Ae (opM (Bl C (6==j)) (m1L (Ad 0)))) (Ab (Ae (opM (Bl C (7==j)) (m1L (Ad 0)))) Aj)))))))) (AA (A9 1 (opM Bg (m2L (Ad 1) (lstM (Ab (Ae (opM (Bl C (8==j)) (m1L (Ad 0)))) (Ab (Ae (opM (Bl C (9==j)) (m1L (Ad 0)))) (Ab (Ae (opM (Bl C (10==j)) (m1L (Ad 0)))) (Ab (Ae (opM (Bl C (11==j)) (m1L (Ad 0)))) Aj)))))))) (AA (A9 1 (opM Bg (m2L (Ad 1) (lstM (Ab (Ae (opM (Bl C (12==j)) (m1L (Ad 0)))) (Ab (Ae (opM (Bl C (13==j)) (m1L (Ad 0)))) (Ab (Ae (opM (Bl C (14==j)) (m1L (Ad 0)))) Aj))))))) (AA (A9 2 (lstM (Ab (Ae (Ag (.str (Str.ofString "NoHouse")))) (Ab (Ae (Ag (.str (Str.ofString "NoRow")))) (Ab (Ae (Ag (.str (Str.ofString "NoMachine")))) (Ab (Ae (Ag (.str (Str.ofString "NoRoom")))) (Ab (Ae (Ag (.str (Str.ofString "NoHand")))) (Ab (Ae (Ag (.str (Str.ofString "Unlike")))) (Ab (Ae (Ag (.str (Str.ofString "NoPast")))) (Ab (Ae (Ag (.str (Str.ofString "TooMany")))) (Ab (Ae (Ag (.str (Str.ofString "Torn")))) (Ab (Ae (Ag (.str (Str.ofString "NoTable")))) Aj)))))))))))) (AA (A9 2 (opM Bg (m2L (Ad 2) (lstM (Ab (Ae (Ag (.str (Str.ofString "NoSet")))) (Ab (Ae (Ag (.str (Str.ofString "Falls")))) (Ab (Ae (Ag (.str (Str.ofString "Whole")))) (Ab (Ae (Ag (.str (Str.ofString "NoText")))) (Ab (Ae (Ag (.str (Str.ofString "NoWord")))) Aj))))))))) (AA (A9 3 (Bn (CV (Ag (.int 15))) 0 (AG (opM ixA (m2L (Ad 2) (Ad 0)))) (opM ixA (m2L (Ad 3) (Ad 0))))) (AA (ifS (orT (AG (opM neA (m2L (opM DJ (Ab (Ad 3) Aj)) (Ag (.int 1))))) (B3 (AG (opM (Bl C true) (m1L (Ad 0)))))) (retS (Ag (.str (Str.ofString "else")))) Bf) (retS (opM ixA (m2L (Ad 3) (Ag (.int 0))))))))))))
noncomputable def Gu(C:Addr)(j:Nat):Fn:=fnM 1 4 (HM C j)
noncomputable def JV:MS:=AA (J1 [1] true (CV (opM UI (Ab (Ag (.int 3)) (Ab (opM UK (Ab (opM DJ (Ab (Ad 0) Aj)) (Ab (Ag (.int 10)) Aj))) Aj)))) (AA (A9 2 (Ar DE (Ab (opM Bg (m2L (Ar C7 (Ab (Ad 0) (Ab (Ad 1) Aj))) (Ad 1))) Aj))) (AA (A9 3 (Ar B4 (Ab (Ad 2) Aj))) (AA (A9 4 (Ar Bd (Ab (Ad 3) Aj))) (AA (A9 5 (Ar Bz (Ab (Ad 3) Aj))) (AA (ifS (orT (B3 (AG (Ar C8 (Ab (Ar CJ (Ab (Ad 4) Aj)) (Ab (Ad 5) Aj))))) (AG (opM neA (m2L (Ad 4) (Ad 3))))) (retS (Ag (.bl false))) Bf) (AA (A9 6 (Ar BM (Ab (Ad 5) Aj))) (AA (ifS (B3 (AG (FX AY (Ab (Ad 6) (Ab (Ad 3) Aj))))) (retS (Ag (.bl false))) Bf) (AA (Ks 6 [1,0,1] 9) (AA (Ks 6 [1] 9) (AA (ifS (B3 (AG (FX AY (Ab (Ar BM (Ab (Ad 5) Aj)) (Ab (Ad 3) Aj))))) (retS (Ag (.bl false))) Bf) (AA (A9 7 (Ar Bv (Ab (Ad 2) (Ab (Ad 3) Aj)))) (ifS (B3 (AG (OP B5 [.nm 7] "NoHouse"))) (retS (Ag (.bl false))) Bf))))))))))))) (retS (Ag (.bl true)))
noncomputable def GW:Fn:=fnM 1 8 JV
local macro_rules | `(tactic| walk_at $s:str)=>do
 let n:=s.getString
 if n.startsWith "v" && n.length < 4 && n != "vis" then `(tactic| exact MC $(Lean.quote (n.drop 1).toNat!) rfl (by walk_at "vis") dK dK) else Lean.Macro.throwUnsupported
local macro_rules | `(tactic| walk_at "vis")=>`(tactic| first | exact .inl rfl | exact .inr (.inl rfl) | exact .inr (.inr rfl))
local macro_rules | `(tactic| walk_at "loc")=>`(tactic| first | exact .inl rfl | exact .inr rfl)
structure Blt2 (mg:Str->Option Value):Prop where
 sorted:mg "sorted" = none
 set:mg "set" = none
 enumerate:mg "enumerate" = none
 zip:mg "zip" = none
 reversed:mg "reversed" = none
section
variable{P:Program}{w:World}{K:Frag}{mg:Str->Option Value}{base:Heap}{XC:Str->Addr}
theorem MM{f:Addr}{fd:FuncData}(F:Fun K "is_pair" "is_pair" (top 20) f fd)(B:Blt mg K)(B2:Blt2 mg):
  FnOk P w K mg base CX0 1 f fd ["thing"] (spJ K BA 1):=by
 refine BC (N:=["thing"]) F ⟨rfl,rfl,rfl,dK,rfl,dK,dK⟩ fun cdv A outer s H E hr=>?_;refine Al ?_;refine Ax ?_;refine CA ?_ ?_;refine J8 rfl rfl B rfl rfl ?_;walk_at "v0";refine CB ?_;refine Dc DF (Ca hr) (A8 _) ?_ ?_;refine AU DK BD B.len Boot.«len» dK dK rfl rfl rfl ?_;refine Aa rfl ?_ ?_;walk_at "v0";exact Af;exact Ah
theorem LL{f:Addr}{fd:FuncData}(F:Fun K "is_whole" "is_whole" (top 18) f fd)(B:Blt mg K)(B2:Blt2 mg):
  FnOk P w K mg base CX0 1 f fd ["thing"] (spJ K Cm 1):=by
 refine BC (N:=["thing"]) F ⟨rfl,rfl,rfl,dK,rfl,dK,dK⟩ fun cdv A outer s H E hr=>?_;refine Al ?_;refine Ax ?_;refine CA ?_ ?_;refine P0 rfl rfl B rfl rfl ?_;walk_at "v0";refine CB ?_;refine P7 ?_;refine PZ rfl rfl B rfl rfl ?_;walk_at "v0"
theorem Fv{f:Addr}{fd:FuncData}(F:Fun K "is_count_of_hands" "is_count_of_hands" (top 29) f fd)(B:Blt mg K)(B2:Blt2 mg)(Dk:Def P w K mg base CX0 1 "is_whole" ["thing"] (spJ K Cm 1))(D2:GInt mg "FEWEST_HANDS" 2)(EH:GInt mg "MOST_HANDS" 4):
  FnOk P w K mg base CX0 2 f fd ["thing"] (spJ K AS 1):=by
 refine BC (N:=["thing"]) F ⟨rfl,rfl,rfl,dK,rfl,dK,dK⟩ fun cdv A outer s H E hr=>?_;refine Al ?_;refine Ax ?_;refine CA ?_ ?_;refine As Dk Aq rfl rfl rfl rfl rfl hr (by decide) AN dK rfl rfl rfl ?_;refine Aa rfl ?_ ?_;walk_at "v0";exact Af;refine CB ?_;refine MB Io Io EL EL (by with_unfolding_all rfl) ?_ ?_ ?_;exact J6 D2 rfl dK;walk_at "v0";exact J6 EH rfl dK
theorem Gd{f:Addr}{fd:FuncData}(F:Fun K "is_number_below" "is_number_below" (top 19) f fd)(B:Blt mg K)(B2:Blt2 mg)(Dk:Def P w K mg base CX0 1 "is_whole" ["thing"] (spJ K Cm 1)):
  FnOk P w K mg base CX0 2 f fd ["thing","bound"] (spJ K Be 2):=by
 refine BC (N:=["thing","bound"]) F ⟨rfl,rfl,rfl,dK,rfl,dK,dK⟩ fun cdv A outer s H E hr=>?_;refine Al ?_;refine Ax ?_;refine CA ?_ ?_;refine As Dk Aq rfl rfl rfl rfl rfl hr (by decide) AN dK rfl rfl rfl ?_;refine Aa rfl ?_ ?_;walk_at "v0";exact Af;refine CB ?_;refine MB Io Ju EL FL (by with_unfolding_all rfl) ?_ ?_ ?_;exact Ah;walk_at "v0";walk_at "v1"
theorem Fu{f:Addr}{fd:FuncData}(F:Fun K "are_numbers_below" "are_numbers_below" (top 22) f fd)(B:Blt mg K)(B2:Blt2 mg)(C2:Def P w K mg base CX0 2 "is_number_below" ["thing","bound"] (spJ K Be 2)):
  FnOk P w K mg base CX0 3 f fd ["things","bound"] (spJ K BH 2):=by
 refine BC (N:=["things","bound"]) F ⟨rfl,rfl,rfl,dK,rfl,dK,dK⟩ fun cdv A outer s H E hr=>?_;have nd2:List.Nodup (["things","bound"]:List Str):=by decide +kernel
 refine Al ?_;refine Ax ?_;refine AU Gb (DX rfl) B.all Boot.«all» dK dK rfl rfl rfl ?_;refine Aa rfl ?_ ?_;refine Dr (by rfl) rfl nd2 (by rfl) (fun _=>rfl) ?_ ?_ ?_;refine Ds ?_;walk_at "v0";exact BY;intro _ _ _ _ _;refine As C2 Aq rfl rfl rfl rfl rfl hr (by decide) AN dK rfl rfl rfl ?_;refine Aa rfl ?_ ?_;walk_at "v0";refine Aa rfl ?_ ?_;walk_at "v2";exact Af;exact Af
theorem DS{f:Addr}{fd:FuncData}(F:Fun K "is_list_of_numbers_below" "is_list_of_numbers_below" (top 21) f fd)(B:Blt mg K)(B2:Blt2 mg)(Cu:Def P w K mg base CX0 3 "are_numbers_below" ["things","bound"] (spJ K BH 2)):
  FnOk P w K mg base CX0 4 f fd ["thing","bound"] (spJ K AF 2):=by
 refine BC (N:=["thing","bound"]) F ⟨rfl,rfl,rfl,dK,rfl,dK,dK⟩ fun cdv A outer s H E hr=>?_;refine Al ?_;refine Ax ?_;refine CA ?_ ?_;refine J7 rfl rfl B rfl rfl ?_;walk_at "v0";refine CB ?_;refine As Cu Aq rfl rfl rfl rfl rfl hr (by decide) AN dK rfl rfl rfl ?_;refine Aa rfl ?_ ?_;walk_at "v0";refine Aa rfl ?_ ?_;walk_at "v1";exact Af
theorem EA{f:Addr}{fd:FuncData}(F:Fun K "is_rising_list_below" "is_rising_list_below" (top 23) f fd)(B:Blt mg K)(B2:Blt2 mg)(Bx:Def P w K mg base CX0 4 "is_list_of_numbers_below" ["thing","bound"] (spJ K AF 2)):
  FnOk P w K mg base CX0 5 f fd ["thing","bound"] (spJ K AQ 2):=by
 refine BC (N:=["thing","bound"]) F ⟨rfl,rfl,rfl,dK,rfl,dK,dK⟩ fun cdv A outer s H E hr=>?_;have nd2:List.Nodup (["thing","bound"]:List Str):=by decide +kernel
 refine Ai ?_ ?_;refine BJ ?_ ?_ ?_;refine B8 ?_;refine BQ (fun _=>rfl) ?_;refine As Bx Aq rfl rfl rfl rfl rfl hr (by decide) AN dK rfl rfl rfl ?_;refine Aa rfl ?_ ?_;walk_at "v0";refine Aa rfl ?_ ?_;walk_at "v1";exact Af;refine Al ?_;refine Ax ?_;exact D5;exact A6;refine Al ?_;refine Ax ?_;refine AU Gb (DX rfl) B.all Boot.«all» dK dK rfl rfl rfl ?_;refine Aa rfl ?_ ?_;refine Dr (by rfl) rfl nd2 (by rfl) (fun _=>rfl) ?_ ?_ ?_;refine GA rfl B.range rfl ?_;refine Aw G7 G8 ?_ ?_;refine AU DK BD B.len Boot.«len» dK dK rfl rfl rfl ?_;refine Aa rfl ?_ ?_;walk_at "v0";exact Af;exact Ah;exact BY;intro _ _ _ _ _;refine Dc Ju FL (A8 _) ?_ ?_;refine AK AL Av (fun _ _=>rfl) ?_ ?_;walk_at "v1";walk_at "v0";refine AK AL Av (fun _ _=>rfl) ?_ ?_;walk_at "v1";refine Aw Bk A2 ?_ ?_;walk_at "v0";exact Ah;exact Af
theorem Ge{f:Addr}{fd:FuncData}(F:Fun K "is_small_letter" "is_small_letter" (top 32) f fd)(B:Blt mg K)(B2:Blt2 mg):
  FnOk P w K mg base CX0 1 f fd ["thing"] (spJ K AE 1):=by
 refine BC (N:=["thing"]) F ⟨rfl,rfl,rfl,dK,rfl,dK,dK⟩ fun cdv A outer s H E hr=>?_;refine Al ?_;refine Ax ?_;refine CA ?_ ?_;refine J9 rfl rfl B rfl rfl ?_;walk_at "v0";refine CA ?_ ?_;refine Dc DF (Ca hr) (A8 _) ?_ ?_;refine AU DK BD B.len Boot.«len» dK dK rfl rfl rfl ?_;refine Aa rfl ?_ ?_;walk_at "v0";exact Af;exact Ah;refine CB ?_;refine MB Io Io EL EL (by with_unfolding_all rfl) ?_ ?_ ?_;exact AD dK;walk_at "v0";exact AD dK
theorem LJ{f:Addr}{fd:FuncData}(F:Fun K "is_entry" "is_entry" (top 31) f fd)(B:Blt mg K)(B2:Blt2 mg)(BV:Def P w K mg base CX0 5 "is_rising_list_below" ["thing","bound"] (spJ K AQ 2))(DV:Def P w K mg base CX0 1 "is_pair" ["thing"] (spJ K BA 1))(Bm:Def P w K mg base CX0 1 "is_small_letter" ["thing"] (spJ K AE 1)):
  FnOk P w K mg base CX0 6 f fd ["hands","thing"] (spJ K A0 2):=by
 refine BC (N:=["hands","thing"]) F ⟨rfl,rfl,rfl,dK,rfl,dK,dK⟩ fun cdv A outer s H E hr=>?_;refine Ai ?_ ?_;refine BJ ?_ ?_ ?_;refine FI ?_;refine Ic ?_ ?_;refine B8 ?_;refine BQ (fun _=>rfl) ?_;refine As DV Aq rfl rfl rfl rfl rfl hr (by decide) AN dK rfl rfl rfl ?_;refine Aa rfl ?_ ?_;walk_at "v1";exact Af;refine G2 ?_;refine B8 ?_;refine BQ (fun _=>rfl) ?_;refine As Bm Aq rfl rfl rfl rfl rfl hr (by decide) AN dK rfl rfl rfl ?_;refine Aa rfl ?_ ?_;refine AK AL Av (fun _ _=>rfl) ?_ ?_;walk_at "v1";exact Ah;exact Af;refine Al ?_;refine Ax ?_;exact D5;exact A6;refine Al ?_;refine Ax ?_;refine CA ?_ ?_;refine As BV Aq rfl rfl rfl rfl rfl hr (by decide) AN dK rfl rfl rfl ?_;refine Aa rfl ?_ ?_;refine AK AL Av (fun _ _=>rfl) ?_ ?_;walk_at "v1";exact Ah;refine Aa rfl ?_ ?_;walk_at "v0";exact Af;refine CB ?_;refine Dc Ti Tj (A8 _) ?_ ?_;refine AU DK BD B.len Boot.«len» dK dK rfl rfl rfl ?_;refine Aa rfl ?_ ?_;refine AK AL Av (fun _ _=>rfl) ?_ ?_;walk_at "v1";exact Ah;exact Af;exact Ah
theorem Ik{f:Addr}{fd:FuncData}(F:Fun K "are_entries" "are_entries" (top 30) f fd)(B:Blt mg K)(B2:Blt2 mg)(F0:Def P w K mg base CX0 6 "is_entry" ["hands","thing"] (spJ K A0 2))(D3:GInt mg "MOST_LETTERS" 6):
  FnOk P w K mg base CX0 7 f fd ["hands","thing"] (spJ K Ck 2):=by
 refine BC (N:=["hands","thing"]) F ⟨rfl,rfl,rfl,dK,rfl,dK,dK⟩ fun cdv A outer s H E hr=>?_;have nd2:List.Nodup (["hands","thing"]:List Str):=by decide +kernel
 refine Ai ?_ ?_;refine BJ ?_ ?_ ?_;refine FI ?_;refine Ic ?_ ?_;refine B8 ?_;refine BQ (fun _=>rfl) ?_;refine J7 rfl rfl B rfl rfl ?_;walk_at "v1";refine G2 ?_;refine B8 ?_;refine Uw Io Io EL EL (by with_unfolding_all rfl) ?_ ?_ ?_;exact Ah;refine AU DK BD B.len Boot.«len» dK dK rfl rfl rfl ?_;refine Aa rfl ?_ ?_;walk_at "v1";exact Af;exact J6 D3 rfl dK;refine Al ?_;refine Ax ?_;exact D5;exact A6;refine Ai ?_ ?_;refine BJ ?_ ?_ ?_;refine B8 ?_;refine BQ (fun _=>rfl) ?_;refine AU Gb (DX rfl) B.all Boot.«all» dK dK rfl rfl rfl ?_;refine Aa rfl ?_ ?_;refine Dr (by rfl) rfl nd2 (by rfl) (fun _=>rfl) ?_ ?_ ?_;refine Ds ?_;walk_at "v1";exact BY;intro _ _ _ _ _;refine As F0 Aq rfl rfl rfl rfl rfl hr (by decide) AN dK rfl rfl rfl ?_;refine Aa rfl ?_ ?_;walk_at "v1";refine Aa rfl ?_ ?_;walk_at "v0";exact Af;exact Af;refine Al ?_;refine Ax ?_;exact D5;exact A6;refine Al ?_;refine Ax ?_;refine AU Gb (DX rfl) B.all Boot.«all» dK dK rfl rfl rfl ?_;refine Aa rfl ?_ ?_;refine Dr (by rfl) rfl nd2 (by rfl) (fun _=>rfl) ?_ ?_ ?_;refine GA rfl B.range rfl ?_;refine Aw G7 G8 ?_ ?_;refine AU DK BD B.len Boot.«len» dK dK rfl rfl rfl ?_;refine Aa rfl ?_ ?_;walk_at "v1";exact Af;exact Ah;exact BY;intro _ _ _ _ _;refine Dc Ju FL (A8 _) ?_ ?_;refine AK AL Av (fun _ _=>rfl) ?_ ?_;refine AK AL Av (fun _ _=>rfl) ?_ ?_;walk_at "v2";walk_at "v0";exact Ah;refine AK AL Av (fun _ _=>rfl) ?_ ?_;refine AK AL Av (fun _ _=>rfl) ?_ ?_;walk_at "v2";refine Aw Bk A2 ?_ ?_;walk_at "v0";exact Ah;exact Ah;exact Af
theorem LK{f:Addr}{fd:FuncData}(F:Fun K "is_house" "is_house" (top 28) f fd)(B:Blt mg K)(B2:Blt2 mg)(DV:Def P w K mg base CX0 1 "is_pair" ["thing"] (spJ K BA 1))(Cv:Def P w K mg base CX0 2 "is_count_of_hands" ["thing"] (spJ K AS 1))(Ej:Def P w K mg base CX0 7 "are_entries" ["hands","thing"] (spJ K Ck 2)):
  FnOk P w K mg base CX0 8 f fd ["thing"] (spJ K BS 1):=by
 refine BC (N:=["thing"]) F ⟨rfl,rfl,rfl,dK,rfl,dK,dK⟩ fun cdv A outer s H E hr=>?_;refine Ai ?_ ?_;refine BJ ?_ ?_ ?_;refine B8 ?_;refine BQ (fun _=>rfl) ?_;refine As DV Aq rfl rfl rfl rfl rfl hr (by decide) AN dK rfl rfl rfl ?_;refine Aa rfl ?_ ?_;walk_at "v0";exact Af;refine Al ?_;refine Ax ?_;exact D5;exact A6;refine Al ?_;refine Ax ?_;refine CA ?_ ?_;refine As Cv Aq rfl rfl rfl rfl rfl hr (by decide) AN dK rfl rfl rfl ?_;refine Aa rfl ?_ ?_;refine AK AL Av (fun _ _=>rfl) ?_ ?_;walk_at "v0";exact Ah;exact Af;refine CB ?_;refine As Ej Aq rfl rfl rfl rfl rfl hr (by decide) AN dK rfl rfl rfl ?_;refine Aa rfl ?_ ?_;refine AK AL Av (fun _ _=>rfl) ?_ ?_;walk_at "v0";exact Ah;refine Aa rfl ?_ ?_;refine AK AL Av (fun _ _=>rfl) ?_ ?_;walk_at "v0";exact Ah;exact Af
theorem LH{f:Addr}{fd:FuncData}(F:Fun K "_law_bag" "_law_bag" (top 46) f fd)(B:Blt mg K)(B2:Blt2 mg):
  FnOk P w K mg base CX0 1 f fd ["_law_cell_here"] (spJ K DE 1):=by
 refine BC (N:=["_law_cell_here"]) F ⟨rfl,rfl,rfl,dK,rfl,dK,dK⟩ fun cdv A outer s H E hr=>?_;refine Ai ?_ ?_;refine BJ ?_ ?_ ?_;refine B7 WA WC (A8 _) ?_ ?_;refine AU Qt K8 B.abs Boot.«abs» dK dK rfl rfl rfl ?_;refine Aa rfl ?_ ?_;walk_at "v0";exact Af;refine Aw MN MU ?_ ?_;exact Ah;exact Ah;refine Al ?_;refine Ax ?_;refine AZ ?_;refine Aa rfl ?_ ?_;refine Ac ?_;refine AU Qt K8 B.abs Boot.«abs» dK dK rfl rfl rfl ?_;refine Aa rfl ?_ ?_;walk_at "v0";exact Af;refine Aa rfl ?_ ?_;refine Ac ?_;exact Ah;exact Af;exact A6;refine Al ?_;refine Ax ?_;refine AZ ?_;refine Aa rfl ?_ ?_;refine Ac ?_;refine Aw Ip Iq ?_ ?_;walk_at "v0";exact Ah;refine Aa rfl ?_ ?_;refine Ac ?_;exact Ah;exact Af
theorem Km{f:Addr}{fd:FuncData}(F:Fun K "_law_take" "_law_take" (top 47) f fd)(B:Blt mg K)(B2:Blt2 mg):
  FnOk P w K mg base CX0 1 f fd ["_law_bag_here","_law_many"] (spJ K AH 2):=by
 refine BC (N:=["_law_bag_here","_law_many","_law_digit"]) F ⟨rfl,rfl,rfl,dK,rfl,dK,dK⟩ fun cdv A outer s H E hr=>?_;have nd3:List.Nodup (["_law_bag_here","_law_many","_law_digit"]:List Str):=by decide +kernel
 refine Ai ?_ ?_;refine BJ ?_ ?_ ?_;refine B7 DF (Ca hr) (A8 _) ?_ ?_;refine AK AL Av (fun _ _=>rfl) ?_ ?_;walk_at "v0";exact Ah;exact Ah;refine Ai ?_ ?_;refine AX 2 nd3 rfl (by walk_at "loc") rfl rfl ?_;refine Aw Ip Iq ?_ ?_;refine AK AL Av (fun _ _=>rfl) ?_ ?_;walk_at "v0";exact Ah;walk_at "v1";refine Ai ?_ ?_;refine MD 0 rfl (by walk_at "vis") dK dK (fun _=>rfl) rfl rfl rfl ?_ ?_;exact Ah;refine Aw NG NK ?_ ?_;refine AK AL Av (fun _ _=>rfl) ?_ ?_;walk_at "v0";exact Ah;walk_at "v1";refine Al ?_;refine Ax ?_;walk_at "v2";exact A6;refine Ai ?_ ?_;refine MD 0 rfl (by walk_at "vis") dK dK (fun _=>rfl) rfl rfl rfl ?_ ?_;exact Ah;refine Aw Ip Iq ?_ ?_;refine Aw Bk A2 ?_ ?_;refine Aw Bk A2 ?_ ?_;refine Aw Kn Kr ?_ ?_;refine AK AL Av (fun _ _=>rfl) ?_ ?_;walk_at "v0";exact Ah;exact Ah;refine Aw Kn Kr ?_ ?_;refine Aw Kn Kr ?_ ?_;exact Ah;refine AK AL Av (fun _ _=>rfl) ?_ ?_;walk_at "v0";exact Ah;refine AK AL Av (fun _ _=>rfl) ?_ ?_;walk_at "v0";exact Ah;exact Ah;exact Ah;refine Ai ?_ ?_;refine MD 0 rfl (by walk_at "vis") dK dK (fun _=>rfl) rfl rfl rfl ?_ ?_;exact Ah;refine Aw Bk A2 ?_ ?_;refine AK AL Av (fun _ _=>rfl) ?_ ?_;walk_at "v0";exact Ah;exact Ah;refine Al ?_;refine Ax ?_;refine Aw Ip Iq ?_ ?_;refine Aw NG NK ?_ ?_;refine Aw Ip Iq ?_ ?_;refine Aw Kn Kr ?_ ?_;refine AK AL Av (fun _ _=>rfl) ?_ ?_;walk_at "v0";exact Ah;exact Ah;exact Ah;exact Ah;walk_at "v1"
theorem IY{f:Addr}{fd:FuncData}(F:Fun K "_law_house" "_law_house" (top 48) f fd)(B:Blt mg K)(B2:Blt2 mg)(AR:Def P w K mg base CX0 1 "_law_take" ["_law_bag_here","_law_many"] (spJ K AH 2)):
  FnOk P w K mg base CX0 2 f fd ["_law_bag_here"] (spJ K B4 1):=by
 refine BC (N:=["_law_bag_here","_law_hands","_law_many","_law_few","_law_letters","_law_at","_law_k","_law_bits"]) F ⟨rfl,rfl,rfl,dK,rfl,dK,dK⟩ fun cdv A outer s H E hr=>?_;have nd8:List.Nodup (["_law_bag_here","_law_hands","_law_many","_law_few","_law_letters","_law_at","_law_k","_law_bits"]:List Str):=by decide +kernel
 refine Ai ?_ ?_;refine AX 1 nd8 rfl (by walk_at "loc") rfl rfl ?_;refine Aw Bk A2 ?_ ?_;exact Ah;refine As AR Aq rfl rfl rfl rfl rfl hr (by decide) AN dK rfl rfl rfl ?_;refine Aa rfl ?_ ?_;walk_at "v0";refine Aa rfl ?_ ?_;exact Ah;exact Af;refine Ai ?_ ?_;refine AX 2 nd8 rfl (by walk_at "loc") rfl rfl ?_;refine Aw Bk A2 ?_ ?_;exact Ah;refine As AR Aq rfl rfl rfl rfl rfl hr (by decide) AN dK rfl rfl rfl ?_;refine Aa rfl ?_ ?_;walk_at "v0";refine Aa rfl ?_ ?_;exact Ah;exact Af;refine Ai ?_ ?_;refine AX 3 nd8 rfl (by walk_at "loc") rfl rfl ?_;refine As AR Aq rfl rfl rfl rfl rfl hr (by decide) AN dK rfl rfl rfl ?_;refine Aa rfl ?_ ?_;walk_at "v0";refine Aa rfl ?_ ?_;exact Ah;exact Af;refine Ai ?_ ?_;refine AX 4 nd8 rfl (by walk_at "loc") rfl rfl ?_;refine AZ ?_;exact Af;refine Ai ?_ ?_;refine AX 5 nd8 rfl (by walk_at "loc") rfl rfl ?_;exact Ah;refine Ai ?_ ?_;refine Kb PassesOwn.never rfl ?_ ?_ ?_ (fun _=>rfl);refine GA rfl B.range rfl ?_;walk_at "v2";exact MY 6 nd8 rfl (by walk_at "loc") rfl;refine Ai ?_ ?_;refine AX 5 nd8 rfl (by walk_at "loc") rfl rfl ?_;refine Aw Bk A2 ?_ ?_;walk_at "v5";refine As AR Aq rfl rfl rfl rfl rfl hr (by decide) AN dK rfl rfl rfl ?_;refine Aa rfl ?_ ?_;walk_at "v0";refine Aa rfl ?_ ?_;refine Aw G7 G8 ?_ ?_;refine Aw Bk A2 ?_ ?_;refine Aw G7 G8 ?_ ?_;exact Ah;walk_at "v2";walk_at "v6";walk_at "v5";exact Af;refine Ai ?_ ?_;refine AX 7 nd8 rfl (by walk_at "loc") rfl rfl ?_;refine Aw Bk A2 ?_ ?_;exact Ah;refine As AR Aq rfl rfl rfl rfl rfl hr (by decide) AN dK rfl rfl rfl ?_
 refine Aa rfl ?_ ?_;walk_at "v0";refine Aa rfl ?_ ?_;refine Aw G7 G8 ?_ ?_;refine Aw MO MV ?_ ?_;exact Ah;walk_at "v1";exact Ah;exact Af;refine Ai ?_ ?_;refine BJ ?_ ?_ ?_;refine B7 DF (Ca hr) (A8 _) ?_ ?_;walk_at "v3";exact Ah;refine Al ?_;refine AX 7 nd8 rfl (by walk_at "loc") rfl rfl ?_;refine Aw US WG ?_ ?_;refine Aw MO MV ?_ ?_;exact Ah;refine As AR Aq rfl rfl rfl rfl rfl hr (by decide) AN dK rfl rfl rfl ?_;refine Aa rfl ?_ ?_;walk_at "v0";refine Aa rfl ?_ ?_;walk_at "v1";exact Af;refine Aw MO MV ?_ ?_;exact Ah;refine As AR Aq rfl rfl rfl rfl rfl hr (by decide) AN dK rfl rfl rfl ?_;refine Aa rfl ?_ ?_;walk_at "v0";refine Aa rfl ?_ ?_;walk_at "v1";exact Af;exact A6;refine Ai ?_ ?_;refine Qc 4 rfl (by walk_at "vis") dK dK rfl rfl rfl rfl ?_;refine Bb ?_;refine Aa rfl ?_ ?_;refine Ac ?_;refine AK AL Av (fun _ _=>rfl) ?_ ?_;exact AD dK;walk_at "v5";refine Aa rfl ?_ ?_;refine Ac ?_;refine Dr (by rfl) rfl nd8 (by rfl) (fun _=>rfl) ?_ ?_ ?_;refine GA rfl B.range rfl ?_;walk_at "v1";refine NB fun _ _ _ _ _=>?_;refine B7 DF (Ca hr) (A8 _) ?_ ?_;refine Aw R9 U2 ?_ ?_;refine Aw UZ U5 ?_ ?_;walk_at "v8";walk_at "v0";exact Ah;exact Ah;intro _ _ _ _ _;walk_at "v0";exact Af;refine Al ?_;refine AX 5 nd8 rfl (by walk_at "loc") rfl rfl ?_;refine Aw Bk A2 ?_ ?_;walk_at "v5";exact Ah;refine Al ?_;refine Ax ?_;refine Bb ?_;refine Aa rfl ?_ ?_;refine Ac ?_;walk_at "v1";refine Aa rfl ?_ ?_;refine Ac ?_;walk_at "v4";exact Af
theorem F9{f:Addr}{fd:FuncData}(F:Fun K "_law_house_copy" "_law_house_copy" (top 52) f fd)(B:Blt mg K)(B2:Blt2 mg):
  FnOk P w K mg base CX0 1 f fd ["_law_house_here"] (spJ K Bd 1):=by
 refine BC (N:=["_law_house_here"]) F ⟨rfl,rfl,rfl,dK,rfl,dK,dK⟩ fun cdv A outer s H E hr=>?_;have nd1:List.Nodup (["_law_house_here"]:List Str):=by decide +kernel
 refine Al ?_;refine Ax ?_;refine Bb ?_;refine Aa rfl ?_ ?_;refine Ac ?_;refine AK AL Av (fun _ _=>rfl) ?_ ?_;walk_at "v0";exact Ah;refine Aa rfl ?_ ?_;refine Ac ?_;refine P5 (by rfl) rfl nd1 dK (by rfl) (by rfl) (fun _=>rfl) ?_ ?_ ?_;refine Ds ?_;refine AK AL Av (fun _ _=>rfl) ?_ ?_;walk_at "v0";exact Ah;exact BY;intro _ _ _ _ _;refine Bb ?_;refine Aa rfl ?_ ?_;refine Ac ?_;walk_at "v0";refine Aa rfl ?_ ?_;refine Ac ?_;refine C9 Sb JO B.list Boot.«list» dK dK rfl rfl rfl ?_;refine Aa rfl ?_ ?_;walk_at "v1";exact Af;exact Af;exact Af
theorem Ga{f:Addr}{fd:FuncData}(F:Fun K "_law_house_text" "_law_house_text" (top 56) f fd)(B:Blt mg K)(B2:Blt2 mg):
  FnOk P w K mg base CX0 1 f fd ["_law_house_here"] (spJ K Bz 1):=by
 refine BC (N:=["_law_house_here","_law_rows","_law_letter","_law_owned"]) F ⟨rfl,rfl,rfl,dK,rfl,dK,dK⟩ fun cdv A outer s H E hr=>?_;have nd4:List.Nodup (["_law_house_here","_law_rows","_law_letter","_law_owned"]:List Str):=by decide +kernel
 refine Ai ?_ ?_;refine AX 1 nd4 rfl (by walk_at "loc") rfl rfl ?_;refine AZ ?_;refine Aa rfl ?_ ?_;refine Ac ?_;refine Aw Bk A2 ?_ ?_;exact AD dK;refine C9 Kq GQ B.str Boot.«str» dK dK rfl rfl rfl ?_;refine Aa rfl ?_ ?_;refine AK AL Av (fun _ _=>rfl) ?_ ?_;walk_at "v0";exact Ah;exact Af;exact Af;refine Ai ?_ ?_;refine Kb PassesOwn.never rfl ?_ ?_ ?_ (fun _=>rfl);refine Ds ?_;refine AK AL Av (fun _ _=>rfl) ?_ ?_;walk_at "v0";exact Ah;refine Kv rfl ?_ rfl rfl;refine EB 2 nd4 rfl (by walk_at "loc") rfl ?_ rfl;refine EB 3 nd4 rfl (by walk_at "loc") rfl ?_ rfl;exact Kw;refine Al ?_;refine Qc 1 rfl (by walk_at "vis") dK dK rfl rfl rfl rfl ?_;refine Gz rfl rfl B rfl ?_ ?_;exact AD dK;refine Aw Bk A2 ?_ ?_;refine AZ ?_;refine Aa rfl ?_ ?_;refine Ac ?_;walk_at "v2";exact Af;refine Dr (by rfl) rfl nd4 (by rfl) (fun _=>rfl) ?_ ?_ ?_;refine Ds ?_;walk_at "v3";exact BY;intro _ _ _ _ _;refine C9 Kq GQ B.str Boot.«str» dK dK rfl rfl rfl ?_;refine Aa rfl ?_ ?_;walk_at "v0";exact Af;refine Al ?_;refine Ax ?_;refine Gz rfl rfl B rfl ?_ ?_;exact AD dK;walk_at "v1"
theorem Hz{f:Addr}{fd:FuncData}(F:Fun K "need_written" "need_written" (top 41) f fd)(B:Blt mg K)(B2:Blt2 mg):
  FnOk P w K mg base CX0 1 f fd ["is_so"] (spJ K Bq 1):=by
 refine BC (N:=["is_so"]) F ⟨rfl,rfl,rfl,dK,rfl,dK,dK⟩ fun cdv A outer s H E hr=>?_;refine Al ?_;refine BJ ?_ ?_ ?_;refine B8 ?_;refine BQ (fun _=>rfl) ?_;walk_at "v0";refine Al ?_;exact Lv;exact A6
theorem G6{f:Addr}{fd:FuncData}(F:Fun K "rows_of_words" "rows_of_words" (top 40) f fd)(B:Blt mg K)(B2:Blt2 mg)(By:Def P w K mg base CX0 1 "need_written" ["is_so"] (spJ K Bq 1)):
  FnOk P w K mg base CX0 2 f fd ["text"] (spJ K Cq 1):=by
 refine BC (N:=["text"]) F ⟨rfl,rfl,rfl,dK,rfl,dK,dK⟩ fun cdv A outer s H E hr=>?_;have nd1:List.Nodup (["text"]:List Str):=by decide +kernel
 refine Ai ?_ ?_;refine Ib rfl ?_;refine As By Aq rfl rfl rfl rfl rfl hr (by decide) AN dK rfl rfl rfl ?_;refine Aa rfl ?_ ?_;refine J9 rfl rfl B rfl rfl ?_;walk_at "v0";exact Af;refine Al ?_;refine Ax ?_;refine Dr (by rfl) rfl nd1 (by rfl) (fun _=>rfl) ?_ ?_ ?_;refine Ds ?_;refine Lr rfl rfl rfl ?_ ?_;walk_at "v0";exact AD dK;exact BY;intro _ _ _ _ _;refine Lr rfl rfl rfl ?_ ?_;walk_at "v0";exact AD dK
theorem Jb{f:Addr}{fd:FuncData}(F:Fun K "need_house" "need_house" (top 33) f fd)(B:Blt mg K)(B2:Blt2 mg)(Di:Def P w K mg base CX0 8 "is_house" ["thing"] (spJ K BS 1)):
  FnOk P w K mg base CX0 9 f fd ["house"] (spJ K BL 1):=by
 refine BC (N:=["house"]) F ⟨rfl,rfl,rfl,dK,rfl,dK,dK⟩ fun cdv A outer s H E hr=>?_;refine Al ?_;refine BJ ?_ ?_ ?_;refine B8 ?_;refine BQ (fun _=>rfl) ?_;refine As Di Aq rfl rfl rfl rfl rfl hr (by decide) AN dK rfl rfl rfl ?_;refine Aa rfl ?_ ?_;walk_at "v0";exact Af;refine Al ?_;exact Lv;exact A6
theorem GF{f:Addr}{fd:FuncData}(F:Fun K "is_number_word" "is_number_word" (top 38) f fd)(B:Blt mg K)(B2:Blt2 mg)(GX:GStr mg "FIGURES" (Str.ofString "0123456789")):
  FnOk P w K mg base CX0 1 f fd ["word"] (spJ K Bo 1):=by
 refine BC (N:=["word"]) F ⟨rfl,rfl,rfl,dK,rfl,dK,dK⟩ fun cdv A outer s H E hr=>?_;have nd1:List.Nodup (["word"]:List Str):=by decide +kernel
 refine Ai ?_ ?_;refine BJ ?_ ?_ ?_;refine FI ?_;refine Ic ?_ ?_;refine B7 DF (Ca hr) (A8 _) ?_ ?_;walk_at "v0";exact AD dK;refine G2 ?_;refine B8 ?_;refine BQ (fun _=>rfl) ?_;refine AU Gb (DX rfl) B.all Boot.«all» dK dK rfl rfl rfl ?_;refine Aa rfl ?_ ?_;refine Dr (by rfl) rfl nd1 (by rfl) (fun _=>rfl) ?_ ?_ ?_;refine P8 ?_;walk_at "v0";exact BY;intro _ _ _ _ _;refine Dc (WB false) U4 (by with_unfolding_all rfl) ?_ ?_;walk_at "v0";exact RT GX rfl dK;exact Af;refine Al ?_;refine Ax ?_;exact D5;exact A6;refine Al ?_;refine Ax ?_;refine Wt ?_ ?_;refine Dc DF (Ca hr) (A8 _) ?_ ?_;walk_at "v0";exact AD dK;refine CB ?_;refine Dc NI (MQ hr) (A8 _) ?_ ?_;refine AK AL Av (fun _ _=>rfl) ?_ ?_;walk_at "v0";exact Ah;exact AD dK
theorem E2{f:Addr}{fd:FuncData}(F:Fun K "are_numbers_behind" "are_numbers_behind" (top 42) f fd)(B:Blt mg K)(B2:Blt2 mg)(Dj:Def P w K mg base CX0 1 "is_number_word" ["word"] (spJ K Bo 1)):
  FnOk P w K mg base CX0 2 f fd ["first","words"] (spJ K Bc 2):=by
 refine BC (N:=["first","words"]) F ⟨rfl,rfl,rfl,dK,rfl,dK,dK⟩ fun cdv A outer s H E hr=>?_;have nd2:List.Nodup (["first","words"]:List Str):=by decide +kernel
 refine Al ?_;refine Ax ?_;refine CA ?_ ?_;refine Dc DF (Ca hr) (A8 _) ?_ ?_;refine AK AL Av (fun _ _=>rfl) ?_ ?_;walk_at "v1";exact Ah;walk_at "v0";refine CB ?_;refine AU Gb (DX rfl) B.all Boot.«all» dK dK rfl rfl rfl ?_;refine Aa rfl ?_ ?_;refine Dr (by rfl) rfl nd2 (by rfl) (fun _=>rfl) ?_ ?_ ?_;refine Ds ?_;refine Fo ?_ ?_;walk_at "v1";exact Ah;exact BY;intro _ _ _ _ _;refine As Dj Aq rfl rfl rfl rfl rfl hr (by decide) AN dK rfl rfl rfl ?_;refine Aa rfl ?_ ?_;walk_at "v0";exact Af;exact Af
theorem GG{f:Addr}{fd:FuncData}(F:Fun K "numbers_behind" "numbers_behind" (top 43) f fd)(B:Blt mg K)(B2:Blt2 mg):
  FnOk P w K mg base CX0 1 f fd ["words"] (spJ K Cc 1):=by
 refine BC (N:=["words"]) F ⟨rfl,rfl,rfl,dK,rfl,dK,dK⟩ fun cdv A outer s H E hr=>?_;have nd1:List.Nodup (["words"]:List Str):=by decide +kernel
 refine Al ?_;refine Ax ?_;refine Dr (by rfl) rfl nd1 (by rfl) (fun _=>rfl) ?_ ?_ ?_;refine Ds ?_;refine Fo ?_ ?_;walk_at "v0";exact Ah;exact BY;intro _ _ _ _ _;refine C9 NH Jn B.int Boot.«int» dK dK rfl rfl rfl ?_;refine Aa rfl ?_ ?_;walk_at "v0";exact Af
theorem Jc{f:Addr}{fd:FuncData}(F:Fun K "read_house" "read_house" (top 39) f fd)(B:Blt mg K)(B2:Blt2 mg)(DI:Def P w K mg base CX0 2 "rows_of_words" ["text"] (spJ K Cq 1))(By:Def P w K mg base CX0 1 "need_written" ["is_so"] (spJ K Bq 1))(Cp:Def P w K mg base CX0 9 "need_house" ["house"] (spJ K BL 1))(BF:Def P w K mg base CX0 2 "are_numbers_behind" ["first","words"] (spJ K Bc 2))(Bm:Def P w K mg base CX0 1 "is_small_letter" ["thing"] (spJ K AE 1))(Dl:Def P w K mg base CX0 1 "numbers_behind" ["words"] (spJ K Cc 1)):
  FnOk P w K mg base CX0 10 f fd ["text"] (spJ K BM 1):=by
 refine BC (N:=["text","rows","words","house"]) F ⟨rfl,rfl,rfl,dK,rfl,dK,dK⟩ fun cdv A outer s H E hr=>?_;have nd4:List.Nodup (["text","rows","words","house"]:List Str):=by decide +kernel
 refine Ai ?_ ?_;refine AX 1 nd4 rfl (by walk_at "loc") rfl rfl ?_;refine As DI Aq rfl rfl rfl rfl rfl hr (by decide) AN dK rfl rfl rfl ?_;refine Aa rfl ?_ ?_;walk_at "v0";exact Af;refine Ai ?_ ?_;refine Ib rfl ?_;refine As By Aq rfl rfl rfl rfl rfl hr (by decide) AN dK rfl rfl rfl ?_;refine Aa rfl ?_ ?_;refine CA ?_ ?_;refine Dc DF (Ca hr) (A8 _) ?_ ?_;refine AU DK BD B.len Boot.«len» dK dK rfl rfl rfl ?_;refine Aa rfl ?_ ?_;refine AK AL Av (fun _ _=>rfl) ?_ ?_;walk_at "v1";exact Ah;exact Af;exact Ah;refine CB ?_;refine As BF Aq rfl rfl rfl rfl rfl hr (by decide) AN dK rfl rfl rfl ?_;refine Aa rfl ?_ ?_;exact AD dK;refine Aa rfl ?_ ?_;refine AK AL Av (fun _ _=>rfl) ?_ ?_;walk_at "v1";exact Ah;exact Af;exact Af;refine Ai ?_ ?_;refine Kb PassesOwn.never rfl ?_ ?_ ?_ (fun _=>rfl);refine Ds ?_;refine Fo ?_ ?_;walk_at "v1";exact Ah;exact MY 2 nd4 rfl (by walk_at "loc") rfl;refine Al ?_;refine Ib rfl ?_;refine As By Aq rfl rfl rfl rfl rfl hr (by decide) AN dK rfl rfl rfl ?_;refine Aa rfl ?_ ?_;refine CA ?_ ?_;refine As Bm Aq rfl rfl rfl rfl rfl hr (by decide) AN dK rfl rfl rfl ?_;refine Aa rfl ?_ ?_;refine AK AL Av (fun _ _=>rfl) ?_ ?_;walk_at "v2";exact Ah;exact Af;refine CB ?_;refine As BF Aq rfl rfl rfl rfl rfl hr (by decide) AN dK rfl rfl rfl ?_;refine Aa rfl ?_ ?_;refine AK AL Av (fun _ _=>rfl) ?_ ?_;walk_at "v2";exact Ah;refine Aa rfl ?_ ?_;walk_at "v2";exact Af;exact Af;refine Ai ?_ ?_;refine AX 3 nd4 rfl (by walk_at "loc") rfl rfl ?_;refine Ka ?_;refine Aa rfl ?_ ?_;refine C9 NH Jn B.int Boot.«int» dK dK rfl rfl rfl ?_
 refine Aa rfl ?_ ?_;refine AK AL Av (fun _ _=>rfl) ?_ ?_;refine AK AL Av (fun _ _=>rfl) ?_ ?_;walk_at "v1";exact Ah;exact Ah;exact Af;refine Aa rfl ?_ ?_;refine RU ["text","rows","?","house"] rfl rfl rfl dK rfl (fun _=>rfl) ?_ ?_ ?_;refine Ds ?_;refine Fo ?_ ?_;walk_at "v1";exact Ah;exact BY;intro _ _ _ _ _;refine Ka ?_;refine Aa rfl ?_ ?_;refine AK AL Av (fun _ _=>rfl) ?_ ?_;walk_at "v0";exact Ah;refine Aa rfl ?_ ?_;refine As Dl Aq rfl rfl rfl rfl rfl hr (by decide) AN dK rfl rfl rfl ?_;refine Aa rfl ?_ ?_;walk_at "v0";exact Af;exact Af;exact Af;refine Ai ?_ ?_;refine Ib rfl ?_;refine H0 Cp Aq rfl rfl rfl rfl rfl hr (by decide) AN dK rfl rfl rfl ?_;refine Aa rfl ?_ ?_;walk_at "v3";exact Af;refine Al ?_;refine Ax ?_;walk_at "v3"
theorem G5{f:Addr}{fd:FuncData}(F:Fun K "_law_no_house" "_law_no_house" (top 55) f fd)(B:Blt mg K)(B2:Blt2 mg)(AR:Def P w K mg base CX0 1 "_law_take" ["_law_bag_here","_law_many"] (spJ K AH 2)):
  FnOk P w K mg base CX0 2 f fd ["_law_bag_here","_law_house_here"] (spJ K Bv 2):=by
 refine BC (N:=["_law_bag_here","_law_house_here","_law_hands","_law_letters","_law_odd","_law_kind","_law_at","_law_letter","_law_owned","_law_which","_law_entry","_law_bad"]) F ⟨rfl,rfl,rfl,dK,rfl,dK,dK⟩ fun cdv A outer s H E hr=>?_;have nd12:List.Nodup (["_law_bag_here","_law_house_here","_law_hands","_law_letters","_law_odd","_law_kind","_law_at","_law_letter","_law_owned","_law_which","_law_entry","_law_bad"]:List Str):=by decide +kernel
 refine(fun h1 h2=>Ai h1 h2:_->_->_) ?_ ?_;refine(fun h1 h2=>Qe h1 rfl rfl rfl h2:_->_->_) ?_ ?_;refine(fun h1=>Kv rfl h1 rfl rfl:_->_) ?_;refine(fun h1=>EB 2 nd12 rfl (by walk_at "loc") rfl h1 rfl:_->_) ?_;refine(fun h1=>EB 3 nd12 rfl (by walk_at "loc") rfl h1 rfl:_->_) ?_;exact Kw;walk_at "v1";refine(fun h1 h2=>Ai h1 h2:_->_->_) ?_ ?_;refine(fun h1=>AX 4 nd12 rfl (by walk_at "loc") rfl rfl h1:_->_) ?_;refine(fun h1 h2=>AK AL Av (fun _ _=>rfl) h1 h2:_->_->_) ?_ ?_;refine(fun h1=>AZ h1:_->_) ?_;refine(fun h1 h2=>Aa rfl h1 h2:_->_->_) ?_ ?_;refine(fun h1=>Ac h1:_->_) ?_;exact F7;refine(fun h1 h2=>Aa rfl h1 h2:_->_->_) ?_ ?_;refine(fun h1=>Ac h1:_->_) ?_;exact D5;refine(fun h1 h2=>Aa rfl h1 h2:_->_->_) ?_ ?_;refine(fun h1=>Ac h1:_->_) ?_;exact Ah;refine(fun h1 h2=>Aa rfl h1 h2:_->_->_) ?_ ?_;refine(fun h1=>Ac h1:_->_) ?_;exact AD dK;refine(fun h1 h2=>Aa rfl h1 h2:_->_->_) ?_ ?_;refine(fun h1=>Ac h1:_->_) ?_;refine(fun h1=>AZ h1:_->_) ?_;exact Af;refine(fun h1 h2=>Aa rfl h1 h2:_->_->_) ?_ ?_;refine(fun h1=>Ac h1:_->_) ?_;refine(fun h1=>Bb h1:_->_) ?_;exact Af;refine(fun h1 h2=>Aa rfl h1 h2:_->_->_) ?_ ?_;refine(fun h1=>Ac h1:_->_) ?_;refine(fun h1 h2=>Aw MN MU h1 h2:_->_->_) ?_ ?_;exact Ah;exact Ah;refine(fun h1 h2=>Aa rfl h1 h2:_->_->_) ?_ ?_;refine(fun h1=>Ac h1:_->_) ?_;refine(fun h1=>Nz Ko KY h1:_->_) ?_;exact Ah;refine(fun h1 h2=>Aa rfl h1 h2:_->_->_) ?_ ?_;refine(fun h1=>Ac h1:_->_) ?_;exact AD dK;refine(fun h1 h2=>Aa rfl h1 h2:_->_->_) ?_ ?_;refine(fun h1=>Ac h1:_->_) ?_;refine(fun h1=>AZ h1:_->_) ?_
 refine(fun h1 h2=>Aa rfl h1 h2:_->_->_) ?_ ?_;refine(fun h1=>Ac h1:_->_) ?_;exact Ah;exact Af;refine(fun h1 h2=>Aa rfl h1 h2:_->_->_) ?_ ?_;refine(fun h1=>Ac h1:_->_) ?_;refine(fun h1=>Bb h1:_->_) ?_;refine(fun h1 h2=>Aa rfl h1 h2:_->_->_) ?_ ?_;refine(fun h1=>Ac h1:_->_) ?_;exact Ah;exact Af;exact Af;refine As AR Aq rfl rfl rfl rfl rfl hr (by decide) AN dK rfl rfl rfl ?_;refine(fun h1 h2=>Aa rfl h1 h2:_->_->_) ?_ ?_;walk_at "v0";refine(fun h1 h2=>Aa rfl h1 h2:_->_->_) ?_ ?_;exact Ah;exact Af;refine(fun h1 h2=>Ai h1 h2:_->_->_) ?_ ?_;refine(fun h1=>AX 5 nd12 rfl (by walk_at "loc") rfl rfl h1:_->_) ?_;refine As AR Aq rfl rfl rfl rfl rfl hr (by decide) AN dK rfl rfl rfl ?_;refine(fun h1 h2=>Aa rfl h1 h2:_->_->_) ?_ ?_;walk_at "v0";refine(fun h1 h2=>Aa rfl h1 h2:_->_->_) ?_ ?_;exact Ah;exact Af;refine(fun h1 h2=>Ai h1 h2:_->_->_) ?_ ?_;refine(fun h1=>AX 6 nd12 rfl (by walk_at "loc") rfl rfl h1:_->_) ?_;refine As AR Aq rfl rfl rfl rfl rfl hr (by decide) AN dK rfl rfl rfl ?_;refine(fun h1 h2=>Aa rfl h1 h2:_->_->_) ?_ ?_;walk_at "v0";refine(fun h1 h2=>Aa rfl h1 h2:_->_->_) ?_ ?_;refine AU DK BD B.len Boot.«len» dK dK rfl rfl rfl ?_;refine(fun h1 h2=>Aa rfl h1 h2:_->_->_) ?_ ?_;walk_at "v3";exact Af;exact Af;refine(fun h1 h2=>Ai h1 h2:_->_->_) ?_ ?_;refine(fun h1 h2=>Qe h1 rfl rfl rfl h2:_->_->_) ?_ ?_;refine(fun h1=>Kv rfl h1 rfl rfl:_->_) ?_;refine(fun h1=>EB 7 nd12 rfl (by walk_at "loc") rfl h1 rfl:_->_) ?_;refine(fun h1=>EB 8 nd12 rfl (by walk_at "loc") rfl h1 rfl:_->_) ?_;exact Kw;refine(fun h1 h2=>AK AL Av (fun _ _=>rfl) h1 h2:_->_->_) ?_ ?_
 walk_at "v3";walk_at "v6";refine(fun h1 h2=>Ai h1 h2:_->_->_) ?_ ?_;refine(fun h1=>AX 9 nd12 rfl (by walk_at "loc") rfl rfl h1:_->_) ?_;refine As AR Aq rfl rfl rfl rfl rfl hr (by decide) AN dK rfl rfl rfl ?_;refine(fun h1 h2=>Aa rfl h1 h2:_->_->_) ?_ ?_;walk_at "v0";refine(fun h1 h2=>Aa rfl h1 h2:_->_->_) ?_ ?_;exact Ah;exact Af;refine(fun h1 h2=>Ai h1 h2:_->_->_) ?_ ?_;refine(fun h1 h2 h3=>BJ h1 h2 h3:_->_->_->_) ?_ ?_ ?_;refine(fun h1 h2=>B7 Ju FL (A8 _) h1 h2:_->_->_) ?_ ?_;walk_at "v5";exact Ah;refine(fun h1=>Al h1:_->_) ?_;refine(fun h1=>Ax h1:_->_) ?_;refine(fun h1 h2=>AK AL Av (fun _ _=>rfl) h1 h2:_->_->_) ?_ ?_;refine(fun h1=>AZ h1:_->_) ?_;refine(fun h1 h2=>Aa rfl h1 h2:_->_->_) ?_ ?_;refine(fun h1=>Ac h1:_->_) ?_;walk_at "v4";refine(fun h1 h2=>Aa rfl h1 h2:_->_->_) ?_ ?_;refine(fun h1=>Ac h1:_->_) ?_;refine(fun h1=>AZ h1:_->_) ?_;refine(fun h1 h2=>Aa rfl h1 h2:_->_->_) ?_ ?_;refine(fun h1=>Ac h1:_->_) ?_;walk_at "v2";refine(fun h1 h2=>Aa rfl h1 h2:_->_->_) ?_ ?_;refine(fun h1=>Ac h1:_->_) ?_;walk_at "v3";exact Af;refine(fun h1 h2=>Aa rfl h1 h2:_->_->_) ?_ ?_;refine(fun h1=>Ac h1:_->_) ?_;refine(fun h1=>Bb h1:_->_) ?_;refine(fun h1 h2=>Aa rfl h1 h2:_->_->_) ?_ ?_;refine(fun h1=>Ac h1:_->_) ?_;walk_at "v2";refine(fun h1 h2=>Aa rfl h1 h2:_->_->_) ?_ ?_;refine(fun h1=>Ac h1:_->_) ?_;walk_at "v3";refine(fun h1 h2=>Aa rfl h1 h2:_->_->_) ?_ ?_;refine(fun h1=>Ac h1:_->_) ?_;walk_at "v4";exact Af;exact Af;walk_at "v5";exact A6;refine(fun h1 h2=>Ai h1 h2:_->_->_) ?_ ?_;refine(fun h1 h2 h3=>BJ h1 h2 h3:_->_->_->_) ?_ ?_ ?_
 refine(fun h1 h2=>B7 DF (Ca hr) (A8 _) h1 h2:_->_->_) ?_ ?_;walk_at "v5";exact Ah;refine(fun h1=>Al h1:_->_) ?_;refine(fun h1=>Ax h1:_->_) ?_;refine(fun h1=>Bb h1:_->_) ?_;refine(fun h1 h2=>Aa rfl h1 h2:_->_->_) ?_ ?_;refine(fun h1=>Ac h1:_->_) ?_;refine(fun h1 h2=>AK AL Av (fun _ _=>rfl) h1 h2:_->_->_) ?_ ?_;refine(fun h1=>AZ h1:_->_) ?_;refine(fun h1 h2=>Aa rfl h1 h2:_->_->_) ?_ ?_;refine(fun h1=>Ac h1:_->_) ?_;exact Ah;refine(fun h1 h2=>Aa rfl h1 h2:_->_->_) ?_ ?_;refine(fun h1=>Ac h1:_->_) ?_;exact Ah;refine(fun h1 h2=>Aa rfl h1 h2:_->_->_) ?_ ?_;refine(fun h1=>Ac h1:_->_) ?_;exact Ah;refine(fun h1 h2=>Aa rfl h1 h2:_->_->_) ?_ ?_;refine(fun h1=>Ac h1:_->_) ?_;refine(fun h1=>Nz Ko KY h1:_->_) ?_;exact Ah;refine(fun h1 h2=>Aa rfl h1 h2:_->_->_) ?_ ?_;refine(fun h1=>Ac h1:_->_) ?_;exact D5;refine(fun h1 h2=>Aa rfl h1 h2:_->_->_) ?_ ?_;refine(fun h1=>Ac h1:_->_) ?_;exact AD dK;refine(fun h1 h2=>Aa rfl h1 h2:_->_->_) ?_ ?_;refine(fun h1=>Ac h1:_->_) ?_;exact F7;refine(fun h1 h2=>Aa rfl h1 h2:_->_->_) ?_ ?_;refine(fun h1=>Ac h1:_->_) ?_;refine(fun h1 h2=>Aw MN MU h1 h2:_->_->_) ?_ ?_;exact Ah;exact Ah;exact Af;walk_at "v9";refine(fun h1 h2=>Aa rfl h1 h2:_->_->_) ?_ ?_;refine(fun h1=>Ac h1:_->_) ?_;walk_at "v3";exact Af;exact A6;refine(fun h1 h2=>Ai h1 h2:_->_->_) ?_ ?_;refine(fun h1 h2 h3=>BJ h1 h2 h3:_->_->_->_) ?_ ?_ ?_;refine(fun h1 h2=>B7 Ju FL (A8 _) h1 h2:_->_->_) ?_ ?_;walk_at "v5";exact Ah;refine(fun h1=>Al h1:_->_) ?_;refine(fun h1=>Ax h1:_->_) ?_;refine(fun h1 h2=>AK AL Av (fun _ _=>rfl) h1 h2:_->_->_) ?_ ?_
 refine(fun h1=>AZ h1:_->_) ?_;refine(fun h1 h2=>Aa rfl h1 h2:_->_->_) ?_ ?_;refine(fun h1=>Ac h1:_->_) ?_;refine(fun h1=>Bb h1:_->_) ?_;refine(fun h1 h2=>Aa rfl h1 h2:_->_->_) ?_ ?_;refine(fun h1=>Ac h1:_->_) ?_;walk_at "v2";refine(fun h1 h2=>Aa rfl h1 h2:_->_->_) ?_ ?_;refine(fun h1=>Ac h1:_->_) ?_;refine C9 NJ HJ B.tuple Boot.«tuple» dK dK rfl rfl rfl ?_;refine(fun h1 h2=>Aa rfl h1 h2:_->_->_) ?_ ?_;walk_at "v3";exact Af;exact Af;refine(fun h1 h2=>Aa rfl h1 h2:_->_->_) ?_ ?_;refine(fun h1=>Ac h1:_->_) ?_;refine(fun h1=>Bb h1:_->_) ?_;refine(fun h1 h2=>Aa rfl h1 h2:_->_->_) ?_ ?_;refine(fun h1=>Ac h1:_->_) ?_;walk_at "v2";refine(fun h1 h2=>Aa rfl h1 h2:_->_->_) ?_ ?_;refine(fun h1=>Ac h1:_->_) ?_;refine(fun h1=>AZ h1:_->_) ?_;exact Af;exact Af;exact Af;refine(fun h1 h2=>Aw G7 G8 h1 h2:_->_->_) ?_ ?_;walk_at "v5";exact Ah;exact A6;refine(fun h1 h2=>Ai h1 h2:_->_->_) ?_ ?_;refine(fun h1 h2 h3=>BJ h1 h2 h3:_->_->_->_) ?_ ?_ ?_;refine(fun h1 h2=>B7 DF (Ca hr) (A8 _) h1 h2:_->_->_) ?_ ?_;walk_at "v5";exact Ah;refine(fun h1=>Al h1:_->_) ?_;refine(fun h1=>Ax h1:_->_) ?_;refine(fun h1=>Bb h1:_->_) ?_;refine(fun h1 h2=>Aa rfl h1 h2:_->_->_) ?_ ?_;refine(fun h1=>Ac h1:_->_) ?_;walk_at "v2";refine(fun h1 h2=>Aa rfl h1 h2:_->_->_) ?_ ?_;refine(fun h1=>Ac h1:_->_) ?_;refine(fun h1 h2=>Aw Bk A2 h1 h2:_->_->_) ?_ ?_;walk_at "v3";refine(fun h1=>AZ h1:_->_) ?_;refine(fun h1 h2=>Aa rfl h1 h2:_->_->_) ?_ ?_;refine(fun h1=>Ac h1:_->_) ?_;refine(fun h1 h2=>AK AL Av (fun _ _=>rfl) h1 h2:_->_->_) ?_ ?_;walk_at "v3"
 walk_at "v6";exact Af;exact Af;exact A6;refine(fun h1 h2=>Ai h1 h2:_->_->_) ?_ ?_;refine(fun h1 h2 h3=>BJ h1 h2 h3:_->_->_->_) ?_ ?_ ?_;refine(fun h1 h2=>B7 DF (Ca hr) (A8 _) h1 h2:_->_->_) ?_ ?_;walk_at "v5";exact Ah;refine(fun h1=>Al h1:_->_) ?_;refine(fun h1=>AX 10 nd12 rfl (by walk_at "loc") rfl rfl h1:_->_) ?_;refine(fun h1=>Bb h1:_->_) ?_;refine(fun h1 h2=>Aa rfl h1 h2:_->_->_) ?_ ?_;refine(fun h1=>Ac h1:_->_) ?_;refine(fun h1 h2=>AK AL Av (fun _ _=>rfl) h1 h2:_->_->_) ?_ ?_;refine(fun h1=>AZ h1:_->_) ?_;refine(fun h1 h2=>Aa rfl h1 h2:_->_->_) ?_ ?_;refine(fun h1=>Ac h1:_->_) ?_;exact AD dK;refine(fun h1 h2=>Aa rfl h1 h2:_->_->_) ?_ ?_;refine(fun h1=>Ac h1:_->_) ?_;exact AD dK;refine(fun h1 h2=>Aa rfl h1 h2:_->_->_) ?_ ?_;refine(fun h1=>Ac h1:_->_) ?_;exact AD dK;refine(fun h1 h2=>Aa rfl h1 h2:_->_->_) ?_ ?_;refine(fun h1=>Ac h1:_->_) ?_;exact AD dK;refine(fun h1 h2=>Aa rfl h1 h2:_->_->_) ?_ ?_;refine(fun h1=>Ac h1:_->_) ?_;exact AD dK;refine(fun h1 h2=>Aa rfl h1 h2:_->_->_) ?_ ?_;refine(fun h1=>Ac h1:_->_) ?_;exact F7;refine(fun h1 h2=>Aa rfl h1 h2:_->_->_) ?_ ?_;refine(fun h1=>Ac h1:_->_) ?_;exact Ah;refine(fun h1 h2=>Aa rfl h1 h2:_->_->_) ?_ ?_;refine(fun h1=>Ac h1:_->_) ?_;refine(fun h1=>Bb h1:_->_) ?_;refine(fun h1 h2=>Aa rfl h1 h2:_->_->_) ?_ ?_;refine(fun h1=>Ac h1:_->_) ?_;exact AD dK;exact Af;exact Af;walk_at "v9";refine(fun h1 h2=>Aa rfl h1 h2:_->_->_) ?_ ?_;refine(fun h1=>Ac h1:_->_) ?_;walk_at "v8";exact Af;refine(fun h1=>Al h1:_->_) ?_;refine(fun h1 h2 h3=>BJ h1 h2 h3:_->_->_->_) ?_ ?_ ?_
 refine(fun h1 h2=>B7 DF (Ca hr) (A8 _) h1 h2:_->_->_) ?_ ?_;walk_at "v5";exact Ah;refine(fun h1 h2=>Ai h1 h2:_->_->_) ?_ ?_;refine(fun h1=>AX 11 nd12 rfl (by walk_at "loc") rfl rfl h1:_->_) ?_;refine(fun h1 h2=>AK AL Av (fun _ _=>rfl) h1 h2:_->_->_) ?_ ?_;refine(fun h1=>AZ h1:_->_) ?_;refine(fun h1 h2=>Aa rfl h1 h2:_->_->_) ?_ ?_;refine(fun h1=>Ac h1:_->_) ?_;refine(fun h1=>AZ h1:_->_) ?_;exact Af;refine(fun h1 h2=>Aa rfl h1 h2:_->_->_) ?_ ?_;refine(fun h1=>Ac h1:_->_) ?_;refine(fun h1 h2=>Aw Bk A2 h1 h2:_->_->_) ?_ ?_;walk_at "v8";walk_at "v8";refine(fun h1 h2=>Aa rfl h1 h2:_->_->_) ?_ ?_;refine(fun h1=>Ac h1:_->_) ?_;refine(fun h1 h2=>Aw Bk A2 h1 h2:_->_->_) ?_ ?_;walk_at "v8";refine(fun h1=>AZ h1:_->_) ?_;refine(fun h1 h2=>Aa rfl h1 h2:_->_->_) ?_ ?_;refine(fun h1=>Ac h1:_->_) ?_;walk_at "v2";exact Af;refine(fun h1 h2=>Aa rfl h1 h2:_->_->_) ?_ ?_;refine(fun h1=>Ac h1:_->_) ?_;refine(fun h1 h2=>Aw Bk A2 h1 h2:_->_->_) ?_ ?_;refine(fun h1=>AZ h1:_->_) ?_;refine(fun h1 h2=>Aa rfl h1 h2:_->_->_) ?_ ?_;refine(fun h1=>Ac h1:_->_) ?_;refine(fun h1=>Nz Ko KY h1:_->_) ?_;exact Ah;exact Af;walk_at "v8";refine(fun h1 h2=>Aa rfl h1 h2:_->_->_) ?_ ?_;refine(fun h1=>Ac h1:_->_) ?_;refine C9 NJ HJ B.tuple Boot.«tuple» dK dK rfl rfl rfl ?_;refine(fun h1 h2=>Aa rfl h1 h2:_->_->_) ?_ ?_;walk_at "v8";exact Af;refine(fun h1 h2=>Aa rfl h1 h2:_->_->_) ?_ ?_;refine(fun h1=>Ac h1:_->_) ?_;refine(fun h1=>AZ h1:_->_) ?_;refine(fun h1 h2=>Aa rfl h1 h2:_->_->_) ?_ ?_;refine(fun h1=>Ac h1:_->_) ?_;exact D5;exact Af;refine(fun h1 h2=>Aa rfl h1 h2:_->_->_) ?_ ?_
 refine(fun h1=>Ac h1:_->_) ?_;exact F7;refine(fun h1 h2=>Aa rfl h1 h2:_->_->_) ?_ ?_;refine(fun h1=>Ac h1:_->_) ?_;exact AD dK;exact Af;walk_at "v9";refine(fun h1=>Al h1:_->_) ?_;refine(fun h1=>AX 10 nd12 rfl (by walk_at "loc") rfl rfl h1:_->_) ?_;refine(fun h1=>Bb h1:_->_) ?_;refine(fun h1 h2=>Aa rfl h1 h2:_->_->_) ?_ ?_;refine(fun h1=>Ac h1:_->_) ?_;walk_at "v7";refine(fun h1 h2=>Aa rfl h1 h2:_->_->_) ?_ ?_;refine(fun h1=>Ac h1:_->_) ?_;walk_at "v11";exact Af;refine(fun h1=>Al h1:_->_) ?_;refine(fun h1 h2 h3=>BJ h1 h2 h3:_->_->_->_) ?_ ?_ ?_;refine(fun h1 h2=>B7 DF (Ca hr) (A8 _) h1 h2:_->_->_) ?_ ?_;walk_at "v5";exact Ah;refine(fun h1=>Al h1:_->_) ?_;refine(fun h1=>AX 10 nd12 rfl (by walk_at "loc") rfl rfl h1:_->_) ?_;refine(fun h1 h2=>AK AL Av (fun _ _=>rfl) h1 h2:_->_->_) ?_ ?_;refine(fun h1=>AZ h1:_->_) ?_;refine(fun h1 h2=>Aa rfl h1 h2:_->_->_) ?_ ?_;refine(fun h1=>Ac h1:_->_) ?_;refine(fun h1=>AZ h1:_->_) ?_;refine(fun h1 h2=>Aa rfl h1 h2:_->_->_) ?_ ?_;refine(fun h1=>Ac h1:_->_) ?_;walk_at "v7";refine(fun h1 h2=>Aa rfl h1 h2:_->_->_) ?_ ?_;refine(fun h1=>Ac h1:_->_) ?_;walk_at "v8";exact Af;refine(fun h1 h2=>Aa rfl h1 h2:_->_->_) ?_ ?_;refine(fun h1=>Ac h1:_->_) ?_;refine(fun h1=>Bb h1:_->_) ?_;refine(fun h1 h2=>Aa rfl h1 h2:_->_->_) ?_ ?_;refine(fun h1=>Ac h1:_->_) ?_;walk_at "v7";exact Af;refine(fun h1 h2=>Aa rfl h1 h2:_->_->_) ?_ ?_;refine(fun h1=>Ac h1:_->_) ?_;refine(fun h1=>Bb h1:_->_) ?_;refine(fun h1 h2=>Aa rfl h1 h2:_->_->_) ?_ ?_;refine(fun h1=>Ac h1:_->_) ?_;walk_at "v7"
 refine(fun h1 h2=>Aa rfl h1 h2:_->_->_) ?_ ?_;refine(fun h1=>Ac h1:_->_) ?_;walk_at "v8";refine(fun h1 h2=>Aa rfl h1 h2:_->_->_) ?_ ?_;refine(fun h1=>Ac h1:_->_) ?_;walk_at "v4";exact Af;refine(fun h1 h2=>Aa rfl h1 h2:_->_->_) ?_ ?_;refine(fun h1=>Ac h1:_->_) ?_;walk_at "v7";refine(fun h1 h2=>Aa rfl h1 h2:_->_->_) ?_ ?_;refine(fun h1=>Ac h1:_->_) ?_;exact F7;refine(fun h1 h2=>Aa rfl h1 h2:_->_->_) ?_ ?_;refine(fun h1=>Ac h1:_->_) ?_;exact Ah;refine(fun h1 h2=>Aa rfl h1 h2:_->_->_) ?_ ?_;refine(fun h1=>Ac h1:_->_) ?_;refine(fun h1=>Bb h1:_->_) ?_;exact Af;refine(fun h1 h2=>Aa rfl h1 h2:_->_->_) ?_ ?_;refine(fun h1=>Ac h1:_->_) ?_;refine(fun h1=>Bb h1:_->_) ?_;refine(fun h1 h2=>Aa rfl h1 h2:_->_->_) ?_ ?_;refine(fun h1=>Ac h1:_->_) ?_;walk_at "v8";refine(fun h1 h2=>Aa rfl h1 h2:_->_->_) ?_ ?_;refine(fun h1=>Ac h1:_->_) ?_;walk_at "v7";exact Af;exact Af;walk_at "v9";refine(fun h1=>Al h1:_->_) ?_;refine(fun h1 h2 h3=>BJ h1 h2 h3:_->_->_->_) ?_ ?_ ?_;refine(fun h1 h2=>B7 DF (Ca hr) (A8 _) h1 h2:_->_->_) ?_ ?_;walk_at "v5";exact Ah;refine(fun h1=>Al h1:_->_) ?_;refine(fun h1=>Ax h1:_->_) ?_;refine(fun h1=>Bb h1:_->_) ?_;refine(fun h1 h2=>Aa rfl h1 h2:_->_->_) ?_ ?_;refine(fun h1=>Ac h1:_->_) ?_;walk_at "v2";refine(fun h1 h2=>Aa rfl h1 h2:_->_->_) ?_ ?_;refine(fun h1=>Ac h1:_->_) ?_;refine(fun h1 h2=>Aw Sd L2.Qx h1 h2:_->_->_) ?_ ?_;refine(fun h1 h2=>RV h1 h2:_->_->_) ?_ ?_;walk_at "v3";refine(fun h1=>Nz Ko KY h1:_->_) ?_;exact Ah;refine C9 Sa Oe B.int Boot.«int» dK dK rfl rfl rfl ?_;refine(fun h1 h2=>Aa rfl h1 h2:_->_->_) ?_ ?_
 refine(fun h1 h2=>Dc Ti Tj (A8 _) h1 h2:_->_->_) ?_ ?_;refine AU DK BD B.len Boot.«len» dK dK rfl rfl rfl ?_;refine(fun h1 h2=>Aa rfl h1 h2:_->_->_) ?_ ?_;walk_at "v3";exact Af;exact Ah;exact Af;exact Af;refine(fun h1=>Al h1:_->_) ?_;refine(fun h1=>Ax h1:_->_) ?_;refine(fun h1=>Bb h1:_->_) ?_;refine(fun h1 h2=>Aa rfl h1 h2:_->_->_) ?_ ?_;refine(fun h1=>Ac h1:_->_) ?_;walk_at "v2";refine(fun h1 h2=>Aa rfl h1 h2:_->_->_) ?_ ?_;refine(fun h1=>Ac h1:_->_) ?_;refine(fun h1 h2 h3=>Dr (by rfl) rfl nd12 (by rfl) (fun _=>rfl) h1 h2 h3:_->_->_->_) ?_ ?_ ?_;refine(fun h1=>P8 h1:_->_) ?_;exact AD dK;exact BY;intro _ _ _ _ _;refine(fun h1=>Bb h1:_->_) ?_;refine(fun h1 h2=>Aa rfl h1 h2:_->_->_) ?_ ?_;refine(fun h1=>Ac h1:_->_) ?_;walk_at "v0";refine(fun h1 h2=>Aa rfl h1 h2:_->_->_) ?_ ?_;refine(fun h1=>Ac h1:_->_) ?_;refine(fun h1=>AZ h1:_->_) ?_;refine(fun h1 h2=>Aa rfl h1 h2:_->_->_) ?_ ?_;refine(fun h1=>Ac h1:_->_) ?_;exact Ah;exact Af;exact Af;exact Af;refine(fun h1=>Al h1:_->_) ?_;refine(fun h1=>Ax h1:_->_) ?_;refine(fun h1=>Bb h1:_->_) ?_;refine(fun h1 h2=>Aa rfl h1 h2:_->_->_) ?_ ?_;refine(fun h1=>Ac h1:_->_) ?_;walk_at "v2";refine(fun h1 h2=>Aa rfl h1 h2:_->_->_) ?_ ?_;refine(fun h1=>Ac h1:_->_) ?_;refine(fun h1 h2=>Aw Bk A2 h1 h2:_->_->_) ?_ ?_;refine(fun h1 h2=>Aw Bk A2 h1 h2:_->_->_) ?_ ?_;refine(fun h1 h2=>P6 h1 h2:_->_->_) ?_ ?_;walk_at "v3";walk_at "v6";refine(fun h1=>AZ h1:_->_) ?_;refine(fun h1 h2=>Aa rfl h1 h2:_->_->_) ?_ ?_;refine(fun h1=>Ac h1:_->_) ?_;walk_at "v10";exact Af;refine(fun h1 h2=>Fo h1 h2:_->_->_) ?_ ?_
 walk_at "v3";refine(fun h1 h2=>Aw Bk A2 h1 h2:_->_->_) ?_ ?_;walk_at "v6";exact Ah;exact Af
theorem FQ{f:Addr}{fd:FuncData}(F:Fun K "_law_alike_house" "_law_alike_house" (top 57) f fd)(B:Blt mg K)(B2:Blt2 mg):
  FnOk P w K mg base CX0 1 f fd ["_law_found","_law_due"] (spJ K AY 2):=by
 refine BC (N:=["_law_found","_law_due"]) F ⟨rfl,rfl,rfl,dK,rfl,dK,dK⟩ fun cdv A outer s H E hr=>?_;have nd2:List.Nodup (["_law_found","_law_due"]:List Str):=by decide +kernel
 refine Ai ?_ ?_;refine BJ ?_ ?_ ?_;refine FI ?_;refine Ic ?_ ?_;refine B8 ?_;refine BQ (fun _=>rfl) ?_;refine J8 rfl rfl B rfl rfl ?_;walk_at "v0";refine Ic ?_ ?_;refine B7 NI (MQ hr) (A8 _) ?_ ?_;walk_at "v0";walk_at "v1";refine G2 ?_;refine B8 ?_;refine BQ (fun _=>rfl) ?_;refine J7 rfl rfl B rfl rfl ?_;refine AK AL Av (fun _ _=>rfl) ?_ ?_;walk_at "v0";exact Ah;refine Al ?_;refine Ax ?_;exact D5;exact A6;refine Al ?_;refine Ax ?_;refine AU Gb (DX rfl) B.all Boot.«all» dK dK rfl rfl rfl ?_;refine Aa rfl ?_ ?_;refine Dr (by rfl) rfl nd2 (by rfl) (fun _=>rfl) ?_ ?_ ?_;refine Ds ?_;refine AK AL Av (fun _ _=>rfl) ?_ ?_;walk_at "v0";exact Ah;exact BY;intro _ _ _ _ _;refine CA ?_ ?_;refine J8 rfl rfl B rfl rfl ?_;walk_at "v0";refine CB ?_;refine J7 rfl rfl B rfl rfl ?_;refine AK AL Av (fun _ _=>rfl) ?_ ?_;walk_at "v0";exact Ah;exact Af
theorem Kj{f:Addr}{fd:FuncData}(F:Fun K "_law_cell" "_law_cell" (top 45) f fd)(B:Blt mg K)(B2:Blt2 mg):
  FnOk P w K mg base CX0 1 f fd ["_law_script","_law_k"] (spJ K C7 2):=by
 refine BC (N:=["_law_script","_law_k"]) F ⟨rfl,rfl,rfl,dK,rfl,dK,dK⟩ fun cdv A outer s H E hr=>?_;refine Ai ?_ ?_;refine BJ ?_ ?_ ?_;refine B7 Ju FL (A8 _) ?_ ?_;walk_at "v1";refine AU DK BD B.len Boot.«len» dK dK rfl rfl rfl ?_;refine Aa rfl ?_ ?_;walk_at "v0";exact Af;refine Al ?_;refine Ax ?_;refine AK AL Av (fun _ _=>rfl) ?_ ?_;walk_at "v0";walk_at "v1";exact A6;refine Al ?_;refine Ax ?_;exact Ah
theorem Ja{f:Addr}{fd:FuncData}(F:Fun K "_law_whole" "_law_whole" (top 49) f fd)(B:Blt mg K)(B2:Blt2 mg):
  FnOk P w K mg base CX0 1 f fd ["_law_thing"] (spJ K Em 1):=by
 refine BC (N:=["_law_thing"]) F ⟨rfl,rfl,rfl,dK,rfl,dK,dK⟩ fun cdv A outer s H E hr=>?_;refine Al ?_;refine Ax ?_;refine CA ?_ ?_;refine P0 rfl rfl B rfl rfl ?_;walk_at "v0";refine CB ?_;refine P7 ?_;refine PZ rfl rfl B rfl rfl ?_;walk_at "v0"
theorem IZ{f:Addr}{fd:FuncData}:FnOk P w K mg base CX0 2 f fd ["_law_found","_law_due"] (spJ K El 2):=⟨fun vs H Q E y=>by
 obtain⟨_,_,_,h,_⟩:=y;exact h,fun A outer s H args us vs Q E _ _ _ _ y=>by
 obtain⟨_,_,_,_,_,a,as,e,_⟩:=y;unfold El fnM EU at e;split at e<;>simp at e⟩
theorem Kl{f:Addr}{fd:FuncData}(F:Fun K "_law_same" "_law_same" (top 50) f fd)(B:Blt mg K)(B2:Blt2 mg)(EE:Def P w K mg base CX0 1 "_law_whole" ["_law_thing"] (spJ K Em 1))(Gj:Def P w K mg base CX0 2 "_law_same" ["_law_found","_law_due"] (spJ K El 2)):
  FnOk P w K mg base CX0 3 f fd ["_law_found","_law_due"] (spJ K C8 2):=by
 refine BC (N:=["_law_found","_law_due"]) F ⟨rfl,rfl,rfl,dK,rfl,dK,dK⟩ fun cdv A outer s H E hr=>?_;refine Ai ?_ ?_;refine BJ ?_ ?_ ?_;refine BQ (fun _=>rfl) ?_;refine J8 rfl rfl B rfl rfl ?_;walk_at "v1";exact Ot;exact A6;refine Ai ?_ ?_;refine BJ ?_ ?_ ?_;refine BQ (fun _=>rfl) ?_;refine J9 rfl rfl B rfl rfl ?_;walk_at "v1";refine Al ?_;refine Ax ?_;refine CA ?_ ?_;refine J9 rfl rfl B rfl rfl ?_;walk_at "v0";refine CB ?_;refine Dc DF (Ca hr) (A8 _) ?_ ?_;walk_at "v0";walk_at "v1";exact A6;refine Ai ?_ ?_;refine BJ ?_ ?_ ?_;refine B7 Qu Qw (A8 _) ?_ ?_;walk_at "v1";exact F7;refine Al ?_;refine Ax ?_;refine Dc Qu Qw (A8 _) ?_ ?_;walk_at "v0";exact F7;exact A6;refine Al ?_;refine Ax ?_;refine CA ?_ ?_;refine As EE Aq rfl rfl rfl rfl rfl hr (by decide) AN dK rfl rfl rfl ?_;refine Aa rfl ?_ ?_;walk_at "v0";exact Af;refine CB ?_;refine Dc DF (Ca hr) (A8 _) ?_ ?_;walk_at "v0";walk_at "v1"
theorem HA{f:Addr}{fd:FuncData}(F:Fun K "with_numbers" "with_numbers" (top 37) f fd)(B:Blt mg K)(B2:Blt2 mg):
  FnOk P w K mg base CX0 1 f fd ["word","numbers"] (spJ K BE 2):=by
 refine BC (N:=["word","numbers"]) F ⟨rfl,rfl,rfl,dK,rfl,dK,dK⟩ fun cdv A outer s H E hr=>?_;have nd2:List.Nodup (["word","numbers"]:List Str):=by decide +kernel
 refine Al ?_;refine Ax ?_;refine Gz rfl rfl B rfl ?_ ?_;exact AD dK;refine Aw Bk A2 ?_ ?_;refine AZ ?_;refine Aa rfl ?_ ?_;refine Ac ?_;walk_at "v0";exact Af;refine Dr (by rfl) rfl nd2 (by rfl) (fun _=>rfl) ?_ ?_ ?_;refine Ds ?_;walk_at "v1";exact BY;intro _ _ _ _ _;refine C9 Kq GQ B.str Boot.«str» dK dK rfl rfl rfl ?_;refine Aa rfl ?_ ?_;walk_at "v0";exact Af
theorem Jd{f:Addr}{fd:FuncData}(F:Fun K "show_house" "show_house" (top 36) f fd)(B:Blt mg K)(B2:Blt2 mg)(Cp:Def P w K mg base CX0 9 "need_house" ["house"] (spJ K BL 1))(C3:Def P w K mg base CX0 1 "with_numbers" ["word","numbers"] (spJ K BE 2)):
  FnOk P w K mg base CX0 10 f fd ["house"] (spJ K CJ 1):=by
 refine BC (N:=["house","rows"]) F ⟨rfl,rfl,rfl,dK,rfl,dK,dK⟩ fun cdv A outer s H E hr=>?_;have nd2:List.Nodup (["house","rows"]:List Str):=by decide +kernel
 refine Ai ?_ ?_;refine Ib rfl ?_;refine As Cp Aq rfl rfl rfl rfl rfl hr (by decide) AN dK rfl rfl rfl ?_;refine Aa rfl ?_ ?_;walk_at "v0";exact Af;refine Ai ?_ ?_;refine AX 1 nd2 rfl (by walk_at "loc") rfl rfl ?_;refine AZ ?_;refine Aa rfl ?_ ?_;refine Ac ?_;refine As C3 Aq rfl rfl rfl rfl rfl hr (by decide) AN dK rfl rfl rfl ?_;refine Aa rfl ?_ ?_;exact AD dK;refine Aa rfl ?_ ?_;refine AZ ?_;refine Aa rfl ?_ ?_;refine Ac ?_;refine AK AL Av (fun _ _=>rfl) ?_ ?_;walk_at "v0";exact Ah;exact Af;exact Af;exact Af;refine Ai ?_ ?_;refine Uv 1 rfl (by walk_at "vis") dK dK rfl rfl rfl rfl ?_;refine P5 (by rfl) rfl nd2 dK (by rfl) (by rfl) (fun _=>rfl) ?_ ?_ ?_;refine Ds ?_;refine AK AL Av (fun _ _=>rfl) ?_ ?_;walk_at "v0";exact Ah;exact BY;intro _ _ _ _ _;refine As C3 Aq rfl rfl rfl rfl rfl hr (by decide) AN dK rfl rfl rfl ?_;refine Aa rfl ?_ ?_;walk_at "v0";refine Aa rfl ?_ ?_;walk_at "v1";exact Af;refine Al ?_;refine Ax ?_;refine Gz rfl rfl B rfl ?_ ?_;exact AD dK;walk_at "v1"
theorem Ii{f:Addr}{fd:FuncData}(F:Fun K "need_house" "need_house" (top 33) f fd)(B:Blt mg K)(B2:Blt2 mg)(Di:Def P w K mg base CX0 8 "is_house" ["thing"] (spJ K BS 1))(X_NoHouse:Exc K mg "NoHouse" (XC "NoHouse")):
  FnOk P w K mg base (Fly P w) 9 f fd ["house"] (spR K XC CK 1):=by
 refine PB (N:=["house"]) F ⟨rfl,rfl,rfl,dK,rfl,dK,dK⟩ fun cdv A outer s H E hr=>?_;refine Ia ?_;refine Wv ?_ ?_;refine B8 ?_;refine BQ (fun _=>rfl) ?_;refine As Di Aq rfl rfl rfl rfl rfl hr (by decide) AN dK rfl rfl rfl ?_;refine Aa rfl ?_ ?_;walk_at "v0";exact Af;refine Ia ?_;exact Qb X_NoHouse rfl hr rfl dK rfl rfl (AD dK)
theorem Ij{f:Addr}{fd:FuncData}(F:Fun K "show_house" "show_house" (top 36) f fd)(B:Blt mg K)(B2:Blt2 mg)(DR_need_house:Def P w K mg base (Fly P w) 9 "need_house" ["house"] (spR K XC CK 1)):
  FnOk P w K mg base (Fly P w) 10 f fd ["house"] (spR K XC B5 1):=by
 refine PB (N:=["house","rows"]) F ⟨rfl,rfl,rfl,dK,rfl,dK,dK⟩ fun cdv A outer s H E hr=>?_;refine Ia ?_;refine RW DR_need_house Nv hr (by decide) rfl dK rfl rfl rfl ?_;refine Aa rfl ?_ ?_;walk_at "v0";exact Af
theorem Se{f C:Addr}{fd:FuncData}{wd:Str}{j:Nat}(F:Fun K "_law_word" "_law_word" (top 51) f fd)(B:Blt mg K)(W:XW K mg C wd)(hj:∀i,i<15->(K2.getD i "" == wd)=(i==j)):
  FnOkM P w K mg base CX0 1 f fd ["_law_e"] (spJ K (Gu C j) 1):=by
 refine Ue (N:=["_law_e","_law_named","_law_words","_law_some"]) F ⟨rfl,rfl,rfl,dK,rfl,dK,dK⟩ fun cdv A outer s H E hr hmk=>?_;have nd4:List.Nodup (["_law_e","_law_named","_law_words","_law_some"]:List Str):=by decide +kernel
 refine Ai ?_ ?_;refine AX 1 nd4 rfl (by walk_at "loc") rfl rfl ?_;refine AZ ?_;refine Aa rfl ?_ ?_;refine Ac ?_;refine CO _ W dK (hj 0 (by decide)) dK rfl rfl B rfl rfl ?_;walk_at "v0";refine Aa rfl ?_ ?_;refine Ac ?_;refine CO _ W dK (hj 1 (by decide)) dK rfl rfl B rfl rfl ?_;walk_at "v0";refine Aa rfl ?_ ?_;refine Ac ?_;refine CO _ W dK (hj 2 (by decide)) dK rfl rfl B rfl rfl ?_;walk_at "v0";refine Aa rfl ?_ ?_;refine Ac ?_;refine CO _ W dK (hj 3 (by decide)) dK rfl rfl B rfl rfl ?_;walk_at "v0";exact Af;refine Ai ?_ ?_;refine AX 1 nd4 rfl (by walk_at "loc") rfl rfl ?_;refine Aw Bk A2 ?_ ?_;walk_at "v1";refine AZ ?_;refine Aa rfl ?_ ?_;refine Ac ?_;refine CO _ W dK (hj 4 (by decide)) dK rfl rfl B rfl rfl ?_;walk_at "v0";refine Aa rfl ?_ ?_;refine Ac ?_;refine CO _ W dK (hj 5 (by decide)) dK rfl rfl B rfl rfl ?_;walk_at "v0";refine Aa rfl ?_ ?_;refine Ac ?_;refine CO _ W dK (hj 6 (by decide)) dK rfl rfl B rfl rfl ?_;walk_at "v0";refine Aa rfl ?_ ?_;refine Ac ?_;refine CO _ W dK (hj 7 (by decide)) dK rfl rfl B rfl rfl ?_;walk_at "v0";exact Af;refine Ai ?_ ?_;refine AX 1 nd4 rfl (by walk_at "loc") rfl rfl ?_;refine Aw Bk A2 ?_ ?_;walk_at "v1";refine AZ ?_;refine Aa rfl ?_ ?_;refine Ac ?_;refine CO _ W dK (hj 8 (by decide)) dK rfl rfl B rfl rfl ?_;walk_at "v0";refine Aa rfl ?_ ?_;refine Ac ?_;refine CO _ W dK (hj 9 (by decide)) dK rfl rfl B rfl rfl ?_;walk_at "v0";refine Aa rfl ?_ ?_;refine Ac ?_;refine CO _ W dK (hj 10 (by decide)) dK rfl rfl B rfl rfl ?_;walk_at "v0";refine Aa rfl ?_ ?_
 refine Ac ?_;refine CO _ W dK (hj 11 (by decide)) dK rfl rfl B rfl rfl ?_;walk_at "v0";exact Af;refine Ai ?_ ?_;refine AX 1 nd4 rfl (by walk_at "loc") rfl rfl ?_;refine Aw Bk A2 ?_ ?_;walk_at "v1";refine AZ ?_;refine Aa rfl ?_ ?_;refine Ac ?_;refine CO _ W dK (hj 12 (by decide)) dK rfl rfl B rfl rfl ?_;walk_at "v0";refine Aa rfl ?_ ?_;refine Ac ?_;refine CO _ W dK (hj 13 (by decide)) dK rfl rfl B rfl rfl ?_;walk_at "v0";refine Aa rfl ?_ ?_;refine Ac ?_;refine CO _ W dK (hj 14 (by decide)) dK rfl rfl B rfl rfl ?_;walk_at "v0";exact Af;refine Ai ?_ ?_;refine AX 2 nd4 rfl (by walk_at "loc") rfl rfl ?_;refine AZ ?_;refine Aa rfl ?_ ?_;refine Ac ?_;exact AD dK;refine Aa rfl ?_ ?_;refine Ac ?_;exact AD dK;refine Aa rfl ?_ ?_;refine Ac ?_;exact AD dK;refine Aa rfl ?_ ?_;refine Ac ?_;exact AD dK;refine Aa rfl ?_ ?_;refine Ac ?_;exact AD dK;refine Aa rfl ?_ ?_;refine Ac ?_;exact AD dK;refine Aa rfl ?_ ?_;refine Ac ?_;exact AD dK;refine Aa rfl ?_ ?_;refine Ac ?_;exact AD dK;refine Aa rfl ?_ ?_;refine Ac ?_;exact AD dK;refine Aa rfl ?_ ?_;refine Ac ?_;exact AD dK;exact Af;refine Ai ?_ ?_;refine AX 2 nd4 rfl (by walk_at "loc") rfl rfl ?_;refine Aw Bk A2 ?_ ?_;walk_at "v2";refine AZ ?_;refine Aa rfl ?_ ?_;refine Ac ?_;exact AD dK;refine Aa rfl ?_ ?_;refine Ac ?_;exact AD dK;refine Aa rfl ?_ ?_;refine Ac ?_;exact AD dK;refine Aa rfl ?_ ?_;refine Ac ?_;exact AD dK;refine Aa rfl ?_ ?_;refine Ac ?_;exact AD dK;exact Af;refine Ai ?_ ?_;refine Oq 3 nd4 rfl rfl (by rfl) hmk (by rfl) (fun _=>rfl) rfl ?_ ?_ ?_
 refine P9 rfl B.range rfl ?_;exact Ah;refine NB fun _ _ _ _ _=>?_;refine BQ (fun _=>rfl) ?_;refine AK AL Av (fun _ _=>rfl) ?_ ?_;walk_at "v2";walk_at "v0";intro _ _ _ _ _;refine AK AL Av (fun _ _=>rfl) ?_ ?_;walk_at "v3";walk_at "v0";refine Ai ?_ ?_;refine BJ ?_ ?_ ?_;refine FI ?_;refine Ic ?_ ?_;refine B7 NI (Sj hr) (A8 _) ?_ ?_;refine AU DK BD B.len Boot.«len» dK dK rfl rfl rfl ?_;refine Aa rfl ?_ ?_;walk_at "v3";exact Af;exact Ah;refine G2 ?_;refine B8 ?_;refine BQ (fun _=>rfl) ?_;refine Uu W rfl rfl B rfl rfl ?_;walk_at "v0";refine Al ?_;refine Ax ?_;exact AD dK;exact A6;refine Al ?_;refine Ax ?_;refine AK AL Av (fun _ _=>rfl) ?_ ?_;walk_at "v3";exact Ah
theorem Pb{f C HE:Addr}{fd:FuncData}{wd:Str}{j:Nat}(F:Fun K "_law_answer" "_law_answer" (top 53) f fd)(hm:mg "_law_answer" = some (.ref f))(hHE:mg "HandError" = some (.ref HE))(hab:Above base C HE)(W:DefM P w K mg base CX0 1 "_law_word" ["_law_e"] (spJ K (Gu C j) 1))(hΦ:∀a o,o.cls=.ref C->Gu C j [(.lent,.opq a o)]=some (.fz (.str wd),[.opq a o])):
  Ans P w K mg base 13 11 C wd:=
 ⟨f,hm,F.kp,fun A outer s H fv hr e0 clo=>M4 F ⟨rfl,rfl,rfl,dK,rfl,dK,dK⟩ (F.binds fun _ _ _ _ _ _ us hl=>match us,hl with | [_],_=>rfl) rfl rfl rfl rfl rfl hHE hab W Aq hΦ (by decide) (by decide) hr e0 clo⟩
theorem Q0{f C:Addr}{fd:FuncData}{wd:Str}(F:Fun K "_law_refuses" "_law_refuses" (top 54) f fd)(hw:wd.length<=sizeLine)(hm:mg "_law_refuses" = some (.ref f))(An:Ans P w K mg base 13 11 C wd):
  Rfs P w K mg base 14 11 C wd:=
 ⟨f,hm,F.kp,fun A outer s H fv t hr e0 clo=>LV F ⟨rfl,rfl,rfl,dK,rfl,dK,dK⟩ (F.binds fun _ _ _ _ _ _ us hl=>match us,hl with | [_,_],_=>rfl) rfl rfl rfl rfl An hw (by decide) hr e0 clo⟩
theorem UW{f c b:Addr}{fd:FuncData}(F:Fun K "law" "law" (top 58) f fd)(hn:PySem.W.nsIn K mainGlobals "law" = some (some (.ref f)))(ht:PySem.W.tabIn K "law" = some (c,b))(hh:PySem.W.codeHdIn K c b=true)(B:Blt mg K)(B2:Blt2 mg)(FZ:Def P w K mg base CX0 1 "_law_bag" ["_law_cell_here"] (spJ K DE 1))(ED:Def P w K mg base CX0 2 "_law_house" ["_law_bag_here"] (spJ K B4 1))(C0:Def P w K mg base CX0 1 "_law_house_copy" ["_law_house_here"] (spJ K Bd 1))(C1:Def P w K mg base CX0 1 "_law_house_text" ["_law_house_here"] (spJ K Bz 1))(DQ:Def P w K mg base CX0 10 "read_house" ["text"] (spJ K BM 1))(DH:Def P w K mg base CX0 2 "_law_no_house" ["_law_bag_here","_law_house_here"] (spJ K Bv 2))(BU:Def P w K mg base CX0 1 "_law_alike_house" ["_law_found","_law_due"] (spJ K AY 2))(E4:Def P w K mg base CX0 1 "_law_cell" ["_law_script","_law_k"] (spJ K C7 2))(E5:Def P w K mg base CX0 3 "_law_same" ["_law_found","_law_due"] (spJ K C8 2))(EF:Def P w K mg base CX0 10 "show_house" ["house"] (spJ K CJ 1))(DR_show_house:Def P w K mg base (Fly P w) 10 "show_house" ["house"] (spR K XC B5 1))(R_NoHouse:Rfs P w K mg base 14 11 (XC "NoHouse") "NoHouse"):
  FnOk P w K mg base CX0 15 f fd ["_law_script"] (spJ K GW 1):=by
 refine Ud (N:=["_law_script","_law_k","_law_bag_here","_law_house_here","_law_handed","_law_text","_law_found","_law_bad"]) F hn ht ⟨rfl,rfl,rfl,dK,rfl,dK,dK⟩ fun A outer s H E hr=>?_;have nd8:List.Nodup (["_law_script","_law_k","_law_bag_here","_law_house_here","_law_handed","_law_text","_law_found","_law_bad"]:List Str):=by decide +kernel
 refine Ai ?_ ?_;refine Kb PassesOwn.never rfl ?_ ?_ ?_ (fun _=>rfl);refine GA rfl B.range rfl ?_;refine AU UX (Of rfl) B.max Boot.«max» dK dK rfl rfl rfl ?_;refine Aa rfl ?_ ?_;exact Ah;refine Aa rfl ?_ ?_;refine AU UY (Og rfl) B.min Boot.«min» dK dK rfl rfl rfl ?_;refine Aa rfl ?_ ?_;refine AU DK BD B.len Boot.«len» dK dK rfl rfl rfl ?_;refine Aa rfl ?_ ?_;walk_at "v0";exact Af;refine Aa rfl ?_ ?_;exact Ah;exact Af;exact Af;exact MY 1 nd8 rfl (by walk_at "loc") rfl;refine Ai ?_ ?_;refine AX 2 nd8 rfl (by walk_at "loc") rfl rfl ?_;refine As FZ Aq rfl rfl rfl rfl rfl hr (by decide) AN dK rfl rfl rfl ?_;refine Aa rfl ?_ ?_;refine Aw Bk A2 ?_ ?_;refine As E4 Aq rfl rfl rfl rfl rfl hr (by decide) AN dK rfl rfl rfl ?_;refine Aa rfl ?_ ?_;walk_at "v0";refine Aa rfl ?_ ?_;walk_at "v1";exact Af;walk_at "v1";exact Af;refine Ai ?_ ?_;refine AX 3 nd8 rfl (by walk_at "loc") rfl rfl ?_;refine As ED Aq rfl rfl rfl rfl rfl hr (by decide) AN dK rfl rfl rfl ?_;refine Aa rfl ?_ ?_;walk_at "v2";exact Af;refine Ai ?_ ?_;refine AX 4 nd8 rfl (by walk_at "loc") rfl rfl ?_;refine As C0 Aq rfl rfl rfl rfl rfl hr (by decide) AN dK rfl rfl rfl ?_;refine Aa rfl ?_ ?_;walk_at "v3";exact Af;refine Ai ?_ ?_;refine AX 5 nd8 rfl (by walk_at "loc") rfl rfl ?_;refine As C1 Aq rfl rfl rfl rfl rfl hr (by decide) AN dK rfl rfl rfl ?_;refine Aa rfl ?_ ?_;walk_at "v3";exact Af;refine Ai ?_ ?_;refine BJ ?_ ?_ ?_;refine FI ?_;refine Ic ?_ ?_;refine B8 ?_;refine BQ (fun _=>rfl) ?_;refine As E5 Aq rfl rfl rfl rfl rfl hr (by decide) AN dK rfl rfl rfl ?_
 refine Aa rfl ?_ ?_;refine As EF Aq rfl rfl rfl rfl rfl hr (by decide) AN dK rfl rfl rfl ?_;refine Aa rfl ?_ ?_;walk_at "v4";exact Af;refine Aa rfl ?_ ?_;walk_at "v5";exact Af;refine G2 ?_;refine B7 NI (MQ hr) (A8 _) ?_ ?_;walk_at "v4";walk_at "v3";refine Al ?_;refine Ax ?_;exact D5;exact A6;refine Ai ?_ ?_;refine AX 6 nd8 rfl (by walk_at "loc") rfl rfl ?_;refine As DQ Aq rfl rfl rfl rfl rfl hr (by decide) AN dK rfl rfl rfl ?_;refine Aa rfl ?_ ?_;walk_at "v5";exact Af;refine Ai ?_ ?_;refine BJ ?_ ?_ ?_;refine B8 ?_;refine BQ (fun _=>rfl) ?_;refine H0 BU Aq rfl rfl rfl rfl rfl hr (by decide) AN dK rfl rfl rfl ?_;refine Aa rfl ?_ ?_;walk_at "v6";refine Aa rfl ?_ ?_;walk_at "v3";exact Af;refine Al ?_;refine Ax ?_;exact D5;exact A6;refine Ai ?_ ?_;exact Qd 6 [1,0,1] (NA 1 (NA 0 (NA 1 (Qa 6 rfl (by walk_at "vis") dK dK)))) rfl rfl rfl;refine Ai ?_ ?_;exact Qd 6 [1] (NA 1 (Qa 6 rfl (by walk_at "vis") dK dK)) rfl rfl rfl;refine Ai ?_ ?_;refine BJ ?_ ?_ ?_;refine B8 ?_;refine BQ (fun _=>rfl) ?_;refine H0 BU Aq rfl rfl rfl rfl rfl hr (by decide) AN dK rfl rfl rfl ?_;refine Aa rfl ?_ ?_;refine As DQ Aq rfl rfl rfl rfl rfl hr (by decide) AN dK rfl rfl rfl ?_;refine Aa rfl ?_ ?_;walk_at "v5";exact Af;refine Aa rfl ?_ ?_;walk_at "v3";exact Af;refine Al ?_;refine Ax ?_;exact D5;exact A6;refine Ai ?_ ?_;refine AX 7 nd8 rfl (by walk_at "loc") rfl rfl ?_;refine As DH Aq rfl rfl rfl rfl rfl hr (by decide) AN dK rfl rfl rfl ?_;refine Aa rfl ?_ ?_;walk_at "v2";refine Aa rfl ?_ ?_;walk_at "v3";exact Af
 refine Al ?_;refine BJ ?_ ?_ ?_;refine B8 ?_;refine BQ (fun _=>rfl) ?_;exact Oo rfl rfl rfl rfl rfl R_NoHouse (Def.mono DR_show_house (by decide)) Nv hr (by decide) ht hh rfl rfl rfl rfl rfl (fun _ _ _ _=>rfl) rfl rfl rfl dK rfl dK (fun _=>rfl) ⟨⟨rfl,rfl,rfl,dK,dK⟩,trivial⟩;refine Al ?_;refine Ax ?_;exact D5;exact A6;refine Al ?_;refine Ax ?_;exact D5
end
end Gk61
end
section
namespace Gk61
open PySem L2 J St
local macro_rules | `(tactic| walk_at "ev")=>do
 let l <- ("on1 on2 on3 IT Hy Bj CD fzU DR Fz AA ifS AG opM m1L m2L Ab Aj Ad Ag peeks peek er ers DW J.andM J.notM Rw orT B3 Gn Ae share move moves keep CZ mkT lstM vals fzs Bp Gr A9 K0 CC EN Hw retS Bf EU free LQ IS Li Ee Ar Cw E6 refs back M9 GH CY isInt isBool D4 isTup isStr Bg He F5 Kg LC Lj OL KJ Nb K5 RB MJ O6 DJ ixA Bj CD fzU DR Fz Option.some_or Option.none_or Option.bind_none AI Co atI ixN eqA neA ltA leA gtA geA Lo De nameOf lock unlock shB HC EG Xi Gh Wu Uk Xs Xt slF own Hm Jq Lf HP Hn Et Lp Nw PM inA DD".splitOn " ").mapM fun s=>`(Lean.Parser.Tactic.simpLemma| $(Lean.mkIdent s.toName):ident)
 let l:=l.toArray
 `(tactic| simp [-List.map_map,$l,*, *])
structure Hs where
 n:Int
 ls:List (Nat×List Int)
noncomputable def chD(c:Nat):D:=.str ⟨#[c]⟩
noncomputable def ld(p:Nat×List Int):D:=.tup [chD p.1,.lst (iL p.2)]
noncomputable def Hs.d(h:Hs):D:=.tup [.int h.n,.lst (h.ls.map ld)]
structure Hs.Ok (h:Hs):Prop where
 n1:2<=h.n
 n2:h.n<=4
 l1:1<=h.ls.length
 l2:h.ls.length<=6
 ch:∀p∈h.ls,97<=p.1/\p.1<=122
 ri:(h.ls.map (·.1)).Pairwise (· < ·)
 hs:∀p∈h.ls,p.2≠[]/\p.2.Pairwise (· < ·)/\∀x∈p.2,0<=x/\x<h.n
@[simp] theorem M7(st:Own)(d:D):Cm [(st,.fz d)]=some (.fz (.bl (isInt d&&!isBool d)),[.fz d]):=by
 simp only[Cm,fnM,Gp];cases d<;>walk_at "ev"
@[simp] theorem NZ(s1 s2:Own)(i b:Int):Be [(s1,.fz (.int i)),(s2,.fz (.int b))]=some (.fz (.bl (decide (0<=i)&&decide (i<b))),[.fz (.int i),.fz (.int b)]):=by
 simp only[Be,fnM,DO];by_cases h0:0<=i<;>walk_at "ev" <;> simp[h0]
@[simp] theorem Hb(st:Own)(x y:D):BA [(st,.fz (.tup [x,y]))]=some (.fz (.bl true),[.fz (.tup [x,y])]):=by
 simp only[BA,fnM,Eb];walk_at "ev"
theorem Mh{α:Type}(xs:List α)(f:α -> Bool):(xs.map f).all id=xs.all f:=by simp[List.all_map]
theorem Jf(s1 s2:Own)(xs:List Int)(b:Int)(hl:xs.length<=LIM):BH [(s1,.fz (.lst (iL xs))),(s2,.fz (.int b))]=some (.fz (.bl (xs.all fun i=>decide (0<=i)&&decide (i<b))),[.fz (.lst (iL xs)),.fz (.int b)]):=by
 have hc:=Eu (it:=De (Ad 0)) (e:=Ar Be (Ab (Ad 0) (Ab (Ad 2) Aj))) (Z:=[some (s1,.fz (.lst (iL xs))),some (s2,.fz (.int b))]) (Z1:=[some (s1,.fz (.lst (iL xs))),some (s2,.fz (.int b))]) (ds:=iL xs) (n:=none) (f:=fun d=>.bl (decide (0<=nD d)&&decide (nD d<b))) (by walk_at "ev") (by simpa using hl) (fun d hd=>by
  obtain⟨i,_,rfl⟩:=UJ.mp hd;refine⟨.val (.fz (.bl (decide (0<=i)&&decide (i<b)))),?_,?_⟩<;>walk_at "ev" <;> rfl)
 rw[UH (fun i=>D.bl (decide (0<=i)&&decide (i<b)))] at hc;refine Br (Z:=[some (s1,.fz (.lst (iL xs))),some (s2,.fz (.int b))]) rfl ?_;show B6 [some (s1,.fz (.lst (iL xs))),some (s2,.fz (.int b))]=_;unfold B6;refine BZ ?_;simp only[on1,on2,on3,IT,Hy,Bj,CD,fzU,DR,Fz,opM,Ab,Aj,hc,Option.bind_some,Option.map_some,peeks,peek,EG,Co,Bp,Et,Mh]
@[simp] theorem ER(s1 s2:Own)(xs:List Int)(b:Int)(hl:xs.length<=LIM):AF [(s1,.fz (.lst (iL xs))),(s2,.fz (.int b))]=some (.fz (.bl (xs.all fun i=>decide (0<=i)&&decide (i<b))),[.fz (.lst (iL xs)),.fz (.int b)]):=by
 have e1:=Jf .own .own xs b hl;simp only[AF,fnM,A5];clear hl;walk_at "ev"
theorem Pc{xs:List Int}{k:Nat}(h:k<xs.length):atI (iL xs) (k:Int)=some (.int xs[k]):=by
 simp[atI,ixN,h,iL]
theorem Cb{α:Type}{xs:List α}{k:Nat}{i:Int}(hi:i=k)(h:k<xs.length):atI xs i=some xs[k]:=by
 subst hi;simp[atI,ixN,h]
theorem Q1{xs:List Int}(h:xs.Pairwise (· < ·)){k:Nat}(hk:k+1<xs.length):xs[k]'(by lia)<xs[k+1]:=List.pairwise_iff_getElem.mp h k (k+1) (by lia) hk (by lia)
theorem Xh{ds:List D}(h:∀d∈ds,d=.bl true):∃bs:List Bool,Dn ds=some bs/\bs.all id=true:=by
 induction ds with
 | nil=>exact⟨[],rfl,rfl⟩
 | cons d ds ih =>
  obtain⟨bs,h1,h2⟩:=ih fun x hx=>h x (List.mem_cons_of_mem _ hx);have:=h d List.mem_cons_self;subst this;exact⟨true::bs,by simp[Dn,h1],by simpa using h2⟩
theorem all_true{it:MI}{e:ME}{Z Z1:Ro}{ds:List D}{n:Option Nat}(hi:it Z=some (ds,n,Z1))(hl:ds.length<=LIM)(he:∀d∈ds,e (J.own d::lock Z1 n)=some (.val (.fz (.bl true)),J.own d::lock Z1 n)):
  opM EG (Ab (Bn it 0 Dw e) Aj) Z=some (.val (.fz (.bl true)),Z1):=by
 have hc:=Eu (f:=fun _=>.bl true) hi hl fun d hd=>⟨_,he d hd,by simp[share,er]⟩;obtain⟨bs,h1,h2⟩:=Xh (ds:=ds.map fun _=>D.bl true) (by simp);simp only[on1,on2,on3,IT,Hy,Bj,CD,fzU,DR,Fz,opM,Ab,Aj,hc,Option.bind_some,Option.map_some,peeks,peek,EG,Co,Bp,h1,h2]
theorem LY(s1 s2:Own)(xs:List Int)(b:Int)(hl:xs.length<=1000)(hr:xs.Pairwise (· < ·))(hb:∀x∈xs,0<=x/\x<b):AQ [(s1,.fz (.lst (iL xs))),(s2,.fz (.int b))]=some (.fz (.bl true),[.fz (.lst (iL xs)),.fz (.int b)]):=by
 have hL:xs.length<=LIM:=Nat.le_trans hl (by decide);simp only[AQ,fnM,AO];have h1:(xs.all fun i=>decide (0<=i)&&decide (i<b))=true:=by simpa[List.all_eq_true] using hb
 have hc:=all_true (it:=CV (opM He (m2L (opM DJ (Ab (Ad 0) Aj)) (Ag (.int 1))))) (e:=opM ltA (m2L (opM ixA (m2L (Ad 1) (Ad 0))) (opM ixA (m2L (Ad 1) (opM Bg (m2L (Ad 0) (Ag (.int 1)))))))) (Z:=[some (s1,.fz (.lst (iL xs))),some (s2,.fz (.int b))]) (ds:=E3 0 ((xs.length:Int)-1).toNat) (n:=none) (Z1:=[some (s1,.fz (.lst (iL xs))),some (s2,.fz (.int b))])
  (by
   have : -(2 ^ 62)<=(xs.length:Int)-1/\(xs.length:Int)-1<2 ^ 62:=by lia
   simp only[CV]; walk_at "ev"; lia) (by rw[Hh]; lia) (fun d hd=>by
   obtain⟨j,hj⟩:=List.mem_iff_getElem?.mp hd;obtain⟨rfl,hj⟩:=Gi hj;have hk:j+1<xs.length:=by lia
   have e1:=Cb (xs:=iL xs) (i:=0+(j:Int)) (k:=j) (by lia) (by simpa using(by lia:j<xs.length));have e2:=Cb (xs:=iL xs) (i:=0+(j:Int)+1) (k:=j+1) (by lia) (by simpa using hk);have e3:=Q1 hr hk;simp only[iL,List.getElem_map] at e1 e2;simp only[on1,on2,on3,IT,Hy,Bj,CD,fzU,DR,Fz,Ow,opM,m2L,Ab,Aj,Ad,Ag,J.own,peeks,peek,ixA,Bj,CD,fzU,DR,Fz,Option.some_or,Option.none_or,Option.bind_none,AI,Bg,ltA,List.getElem?_cons_zero,List.getElem?_cons_succ,Option.bind_some,Option.map_some,iL,e1,e2,e3,decide_true])
 simp only[AA,ifS,B3,AG,retS,Ar,Ab,Aj,Ad,List.map_cons,List.map_nil,List.getElem?_cons_zero,List.getElem?_cons_succ,Option.bind_some,Option.map_some,Cw,E6,refs,List.nodup_nil,if_true,ER _ _ xs b hL,h1,back,peek,DW,Bool.not_true,Bool.false_eq_true,if_false,Bf,List.append_nil,List.length_cons,List.length_nil,Nat.sub_self,List.replicate_zero];simp[hc,move,GH]
theorem call_of{Φ:Fn}{ms:MA}{Z Z1 Z2:Ro}{rs:List R}{as:List (Own×A)}{a:A}{os:List A}(h1:ms Z=some (rs,Z1))(h2:Cw Z1 rs=some as)(hn:decide (refs rs).Nodup=true)(h3 : Φ as=some (a,os))(hb:back rs os Z1=Z2):Ar Φ ms Z=some (.val a,Z2):=by
 subst hb;simp only[Ar,h1,h2,h3,Option.bind_some,Option.map_some,if_pos (of_decide_eq_true hn)]
theorem Bs{f:List A->Option A}{ms:MA}{Z Z1:Ro}{rs:List R}{as:List A}{c:A}(h1:ms Z=some (rs,Z1))(h2:peeks Z1 rs=some as)(h3:f as=some c):opM f ms Z=some (.val c,Z1):=by
 simp only[opM,h1,h2,h3,Option.bind_some,Option.map_some]
theorem ixL{T:List D}{i:Int}{d:D}(h:atI T i=some d):ixA [.lst (T.map A.fz),.fz (.int i)]=some (.fz d):=by
 simp only[on1,on2,on3,IT,Hy,ixA,Bj,fzU,DR,AI,CD,Fz,Bp,h,Option.bind_some,Option.map_some,Option.some_or,Option.none_or,Option.bind_none]
theorem ixF{T:List D}{i:Int}{d:D}(h:atI T i=some d):ixA [.fz (.lst T),.fz (.int i)]=some (.fz d):=by
 simp only[on1,on2,on3,IT,Hy,ixA,Bj,fzU,DR,AI,CD,Fz,h,Option.bind_some,Option.map_some,Option.some_or,Option.none_or,Option.bind_none]
theorem ixS{z:Str}{i:Int}{c:Nat}(h:atI z.cps.toList i=some c):ixA [.fz (.str z),.fz (.int i)]=some (.fz (chD c)):=by
 simp only[on1,on2,on3,IT,Hy,ixA,Bj,fzU,DR,AI,CD,Fz,h,chD,Option.bind_some,Option.map_some,Option.some_or,Option.none_or,Option.bind_none,Option.map_none]
theorem VG{i j:Int}(h:decide (0<=j/\j<=1000000/\i.natAbs<2 ^ 64)=true):KJ [.fz (.int i),.fz (.int j)]=some (.fz (.int (i*2 ^ j.toNat))):=by
 simp only[on1,on2,on3,IT,Hy,KJ,F5,Bj,fzU,DR,Option.bind_some,h,if_true]
theorem VH{i j:Int}(h:decide (0<=j)=true):Nb [.fz (.int i),.fz (.int j)]=some (.fz (.int (i / 2 ^ j.toNat))):=by
 simp only[on1,on2,on3,IT,Hy,Nb,F5,Bj,fzU,DR,Option.bind_some,h,if_true]
theorem Ct{m1 m2:ME}{Z Z1 Z2:Ro}{r1 r2:R}(h1:m1 Z=some (r1,Z1))(h2:m2 Z1=some (r2,Z2)):m2L m1 m2 Z=some ([r1,r2],Z2):=by
 simp only[m2L,Ab,Aj,h1,h2,Option.bind_some,Option.map_some]
theorem LU{m:ME}{Z Z1:Ro}{n:Int}(h:m Z=some (.val (.fz (.int n)),Z1))(h0 : -1000<=n)(h1:n<=1000000):CV m Z=some (E3 0 n.toNat,none,Z1):=by
 have e0:(-(2 ^ 62)<=n/\n<2 ^ 62)=True:=by simp; lia
 simp only[CV,h,Option.bind_some,e0,if_true]
noncomputable abbrev oI(i:Int):Slot:=some (.own,.fz (.int i))
local macro_rules | `(tactic| walk_at "eo")=>do
 let l <- ("AA ifS UI UK Jt RL AG opM m1L m2L Ab Aj Ad Ag peeks peek er ers DW J.andM J.notM orT B3 Gn Ae share move moves keep CZ mkT lstM vals fzs Bp Gr A9 K0 CC EN Hw retS Bf EU free LQ IS Li Ee Ar Cw E6 refs back M9 GH CY isInt isBool D4 isTup isStr Bg He F5 Kg LC Lj OL KJ Nb K5 RB MJ O6 DJ ixA Bj CD fzU DR Fz Option.some_or Option.none_or Option.bind_none AI Co eqA neA ltA leA gtA geA Lo De nameOf lock unlock KZ shB HC EG Gh slF J.own Hm Jq Lf HP Hn Et Lp Nw PM Cr inA DD CV L7 Xl on1 on2 on3 IT Hy En RM TR List.getElem?_cons_zero List.getElem?_cons_succ List.getElem?_nil Option.bind_some Option.bind_none Option.map_some Option.map_none List.map_cons List.map_nil List.cons_append List.nil_append List.append_nil List.length_cons List.length_nil List.length_map List.replicate_zero List.replicate_succ List.nodup_nil List.set_cons_zero List.set_cons_succ List.take_succ_cons List.take_zero if_true if_false Bool.not_true Bool.not_false Bool.false_eq_true reduceIte reduceCtorEq Nat.reduceSub Nat.reduceAdd Nat.sub_self Bool.true_and Bool.and_true Bool.false_and Bool.and_false Bool.true_or Bool.or_true Bool.false_or Bool.or_false decide_true decide_false beq_self_eq_true and_self and_true true_and Nat.zero_add List.nodup_cons List.not_mem_nil not_false_eq_true".splitOn " ").mapM fun s=>`(Lean.Parser.Tactic.simpLemma| $(Lean.mkIdent s.toName):ident)
 let l:=l.toArray
 `(tactic| simp only [$l,*, *])
theorem Wi:(Str.ofString "a").cps.toList=[97]:=by decide +kernel
theorem Wj:(Str.ofString "z").cps.toList=[122]:=by decide +kernel
theorem Ke(a b:Nat):([a] < [b])↔a<b:=by
 rw[List.cons_lt_cons_iff];constructor
 .rintro (h|⟨_,h⟩)
  .exact h
  .exact absurd h (List.not_lt_nil _)
 .intro h; exact .inl h
theorem at0{α:Type}(a:α)(xs:List α):atI (a::xs) 0=some a:=by simp[atI,ixN]
theorem at1{α:Type}(a b:α)(xs:List α):atI (a::b::xs) 1=some b:=by
 have:(1:Int)<((xs.length:Int)+1+1):=by lia
 simp[atI,ixN,this]
theorem KH(st:Own)(c:Nat)(h:97<=c/\c<=122):AE [(st,.fz (chD c))]=some (.fz (.bl true),[.fz (chD c)]):=by
 have e1:decide ([c] < [97])=false:=by rw[decide_eq_false_iff_not,Ke]; lia
 have e2:decide ([122] < [c])=false:=by rw[decide_eq_false_iff_not,Ke]; lia
 have e3:((Str.length ⟨#[c]⟩:Nat):Int)=1:=rfl;have e4:=Wi;have e5:=Wj;simp only[AE,fnM,DP,chD];walk_at "eo"
theorem NY(s1 s2:Own)(n:Int)(p:Nat×List Int)(h:97<=p.1/\p.1<=122)(hl:p.2.length<=1000)(h0:p.2≠[])(hr:p.2.Pairwise (· < ·))(hb:∀x∈p.2,0<=x/\x<n):A0 [(s1,.fz (.int n)),(s2,.fz (ld p))]=some (.fz (.bl true),[.fz (.int n),.fz (ld p)]):=by
 have hp:decide ((0:Int)<(p.2.length:Int))=true:=by
  have:=List.length_pos_iff.mpr h0;simpa using this
 have e1:=at0 (chD p.1) [.lst (iL p.2)];have e2:=at1 (chD p.1) (.lst (iL p.2)) [];have e3:=KH .own p.1 h;have e4:=LY .own .own p.2 n hl hr hb;have e5:=Hb .own (chD p.1) (.lst (iL p.2));clear hb hr h0 h hl;simp only[A0,fnM,Bh,ld];walk_at "eo"
theorem NX(st:Own)(n:Int)(h1:2<=n)(h2:n<=4):AS [(st,.fz (.int n))]=some (.fz (.bl true),[.fz (.int n)]):=by
 have e1:=M7 .own (.int n);simp only[AS,fnM,Df];walk_at "eo"
theorem Q2{n lo:Int}:∀{xs:List Int},xs.Pairwise (· < ·)->(∀x∈xs,lo<=x/\x<n)->(xs.length:Int)<=max 0 (n-lo):=by
 intro xs;induction xs generalizing lo with
 | nil=>intro _ _; simp; lia
 | cons x xs ih =>
  intro hp hb;have:=ih (lo:=x+1) (List.pairwise_cons.mp hp).2 fun y hy=>⟨by have:=(List.pairwise_cons.mp hp).1 y hy; lia,(hb y (List.mem_cons_of_mem _ hy)).2⟩;have:=hb x List.mem_cons_self;simp only[List.length_cons];lia
theorem Hs.Ok.hl{h:Hs}(ok:h.Ok):∀p∈h.ls,p.2.length<=4:=fun p hp=>by
 obtain⟨_,r,b⟩:=ok.hs p hp;have n2:=ok.n2;have:=Q2 r b;lia
theorem OS(s1 s2:Own)(h:Hs)(ok:h.Ok):Ck [(s1,.fz (.int h.n)),(s2,.fz (.lst (h.ls.map ld)))]=some (.fz (.bl true),[.fz (.int h.n),.fz (.lst (h.ls.map ld))]):=by
 have l1:=ok.l1;have l2:=ok.l2;have hlim:1000<=LIM:=by decide
 have hc1:=all_true (it:=De (Ad 1)) (e:=Ar A0 (Ab (Ad 1) (Ab (Ad 0) Aj))) (Z:=[some (s1,.fz (.int h.n)),some (s2,.fz (.lst (h.ls.map ld)))]) (ds:=h.ls.map ld) (n:=none) (Z1:=[some (s1,.fz (.int h.n)),some (s2,.fz (.lst (h.ls.map ld)))])
  (by walk_at "eo") (by simp; lia) (fun d hd=>by
   obtain⟨p,hp,rfl⟩:=List.mem_map.mp hd;obtain⟨h0,hr,hb⟩:=ok.hs p hp;have e1:=NY .own .own h.n p (ok.ch p hp) (by have:=ok.hl p hp; lia) h0 hr hb;clear hb hr h0 hd hp;walk_at "eo")
 have hc2:=all_true (it:=CV (opM He (m2L (opM DJ (Ab (Ad 1) Aj)) (Ag (.int 1))))) (e:=opM ltA (m2L (opM ixA (m2L (opM ixA (m2L (Ad 2) (Ad 0))) (Ag (.int 0)))) (opM ixA (m2L (opM ixA (m2L (Ad 2) (opM Bg (m2L (Ad 0) (Ag (.int 1)))))) (Ag (.int 0)))))) (Z:=[some (s1,.fz (.int h.n)),some (s2,.fz (.lst (h.ls.map ld)))]) (ds:=E3 0 ((h.ls.length:Int)-1).toNat) (n:=none) (Z1:=[some (s1,.fz (.int h.n)),some (s2,.fz (.lst (h.ls.map ld)))])
  (by
   have e0:(-(2 ^ 62)<=(h.ls.length:Int)-1/\(h.ls.length:Int)-1<2 ^ 62)=True:=by simp; lia
   clear hc1;walk_at "eo") (by rw[Hh]; lia) (fun d hd=>by
   obtain⟨j,hj⟩:=List.mem_iff_getElem?.mp hd;obtain⟨rfl,hj⟩:=Gi hj;have hk:j+1<h.ls.length:=by lia
   have e1:=Cb (xs:=h.ls.map ld) (i:=0+(j:Int)) (k:=j) (by lia) (by simpa using(by lia:j<h.ls.length));have e2:=Cb (xs:=h.ls.map ld) (i:=0+(j:Int)+1) (k:=j+1) (by lia) (by simpa using hk);have e3:(h.ls[j]'(by lia)).1<(h.ls[j+1]).1:=by
    have:=List.pairwise_iff_getElem.mp ok.ri j (j+1) (by simp; lia) (by simpa using hk) (by lia);simpa using this
   simp only[List.getElem_map,ld,chD] at e1 e2;have e4:decide ([(h.ls[j]'(by lia)).1] < [(h.ls[j+1]).1])=true:=by rw[decide_eq_true_iff]; exact(Ke _ _).mpr e3
   have e5:=at0 (D.str ⟨#[(h.ls[j]'(by lia)).1]⟩) [.lst (iL (h.ls[j]'(by lia)).2)];have e6:=at0 (D.str ⟨#[(h.ls[j+1]).1]⟩) [.lst (iL (h.ls[j+1]).2)];clear hc1 hd e3 hj l1 l2 hlim;walk_at "eo")
 have e5:decide ((1:Int)<=(h.ls.length:Int))=true:=by simp; lia
 have e6:decide ((h.ls.length:Int)<=6)=true:=by simp; lia
 clear l1 l2 hlim;refine Br (Z:=[some (s1,.fz (.int h.n)),some (s2,.fz (.lst (h.ls.map ld)))]) rfl ?_;show AM [some (s1,.fz (.int h.n)),some (s2,.fz (.lst (h.ls.map ld)))]=_;unfold AM;rw[A4 (Z1:=[some (s1,.fz (.int h.n)),some (s2,.fz (.lst (h.ls.map ld)))]) (by clear hc1 hc2; walk_at "eo"),A4 (J3 (not_of (CS hc1)))];exact BZ hc2
theorem M6(st:Own)(h:Hs)(ok:h.Ok):BS [(st,.fz h.d)]=some (.fz (.bl true),[.fz h.d]):=by
 have e1:=OS .own .own h ok;have e2:=NX .own h.n ok.n1 ok.n2;have e3:=Hb .own (.int h.n) (.lst (h.ls.map ld));have e4:=at0 (D.int h.n) [.lst (h.ls.map ld)];have e5:=at1 (D.int h.n) (.lst (h.ls.map ld)) [];simp only[BS,fnM,BG,Hs.d];walk_at "eo"
theorem GK(st:Own)(h:Hs)(ok:h.Ok):BL [(st,.fz h.d)]=some (.fz .non,[.fz h.d]):=by
 have e1:=M6 .own h ok;simp only[BL,fnM,Fb];walk_at "eo"
noncomputable def Hs.text(h:Hs):Str:=⟨(h.ls.map (·.1)).toArray⟩
noncomputable def Hs.hands(h:Hs)(c:Nat):List Int:=((h.ls.find? fun p=>p.1==c).map (·.2)).getD []
noncomputable def hL(xs:List Int):A:=.lst ((iL xs).map A.fz)
noncomputable def Hs.at(h:Hs)(z:Str)(i:Nat):List Int:=h.hands (z.cps.toList.getD i 0)
noncomputable def Bag(n:Nat)(as:List A):Prop:=∃x y:Int,as=[.fz (.int x),.fz (.int y)]/\0<=y/\y<=n
theorem Bag.mono{n m:Nat}{as:List A}(h:Bag n as)(hm:n<=m):Bag m as:=by
 obtain⟨x,y,e,h1,h2⟩:=h;exact⟨x,y,e,h1,by lia⟩
theorem WV(st:Own)(x:Int):∃as a1,Bag 1 as/\DE [(st,.fz (.int x))]=some (.lst as,[a1]):=by
 have p1:decide ((0:Int)<=18/\(18:Int)<=1000000/\Int.natAbs 10<2 ^ 64)=true:=by decide
 have l2:((2:Nat)<=LIM)=True:=by simp[LIM,sizeLine]
 have p2:decide ((0:Int)<2147483647)=true:=by decide
 by_cases h:(10:Int) ^ (18:Int).toNat<=(if x<0 then -x else x)
 .refine⟨_,_,⟨(if x<0 then -x else x),0,rfl,by lia,by lia⟩,Br (Z:=[some (st,.fz (.int x))]) rfl ?_⟩
  show C4 [some (st,.fz (.int x))]=_;unfold C4;have h':=decide_eq_true h;clear h;walk_at "eo"
 .refine⟨_,_,⟨x % 2147483647,1,rfl,by lia,by lia⟩,Br (Z:=[some (st,.fz (.int x))]) rfl ?_⟩
  show C4 [some (st,.fz (.int x))]=_;unfold C4;have h':=decide_eq_false h;clear h;walk_at "eo"
theorem D6{n:Nat}{as:List A}(hb:Bag n as)(hn:n<=1000000)(m:Int)(hm:0<m)(hm2:m<1099511627776):∃(d:Int) (as':List A),0<=d/\d<m/\Bag (n+1) as'/\AH [(.lent,.lst as),(.own,.fz (.int m))]=some (.fz (.int d),[.lst as',.fz (.int m)]):=by
 obtain⟨x,y,rfl,h1,h2⟩:=hb;have m1:decide (0<m)=true:=decide_eq_true hm;have m2:decide (0<m/\m<1099511627776)=true:=decide_eq_true ⟨hm,hm2⟩;have i0:ixN 2 0=some 0:=by rfl
 have i1:ixN 2 1=some 1:=by rfl
 by_cases hy:y=0
 .subst hy
  refine⟨x % m,[.fz (.int (x / m)),.fz (.int 0)],Int.emod_nonneg _ (by lia),Int.emod_lt_of_pos _ hm,⟨_,_,rfl,by lia,by lia⟩,Br (Z:=[some (.lent,.lst [.fz (.int (x / m)),.fz (.int 0)]),some (.own,.fz (.int m)),some (.own,.fz (.int (x % m)))]) rfl ?_⟩;show CH [some (.lent,.lst [.fz (.int x),.fz (.int 0)]),some (.own,.fz (.int m)),none]=_;unfold CH;have a0:=at0 (D.int x) [D.int 0];have a1:=at1 (D.int x) (D.int 0) [];clear hm hm2 h1 h2 hn;walk_at "eo"
 .let x':=(x*48271+7919*y*y+17) % 2147483647
  have e1:eqD (.int y) (.int 0)=false:=by simp[Hm,Jq,Lf,HP,Hn,hy]
  have c1:(-(2 ^ 64)<x/\x<2 ^ 64 \/ -(2 ^ 64)<(48271:Int)/\(48271:Int)<2 ^ 64)=True:=by simp
  have c2:(-(2 ^ 64)<(7919:Int)/\(7919:Int)<2 ^ 64 \/ -(2 ^ 64)<y/\y<2 ^ 64)=True:=by simp
  have c3:(-(2 ^ 64)<7919*y/\7919*y<2 ^ 64 \/ -(2 ^ 64)<y/\y<2 ^ 64)=True:=by simp; lia
  have c4:(-(2 ^ 64)<x'/\x'<2 ^ 64 \/ -(2 ^ 64)<(69621:Int)/\(69621:Int)<2 ^ 64)=True:=by simp
  have d1:decide ((0:Int)<2147483647)=true:=by decide
  have d2:decide ((0:Int)<2147483629)=true:=by decide
  have d3:decide ((0:Int)<5/\(5:Int)<1099511627776)=true:=by decide
  have hx:(x*48271+7919*y*y+17) % 2147483647=x':=rfl;refine⟨x'*69621 % 2147483629 / 5 % m,[.fz (.int x'),.fz (.int (y+1))],Int.emod_nonneg _ (by lia),Int.emod_lt_of_pos _ hm,⟨_,_,rfl,by lia,by lia⟩,Br (Z:=[some (.lent,.lst [.fz (.int x'),.fz (.int (y+1))]),some (.own,.fz (.int m)),none]) rfl ?_⟩;show CH [some (.lent,.lst [.fz (.int x),.fz (.int y)]),some (.own,.fz (.int m)),none]=_;unfold CH;have a0:=at0 (D.int x) [D.int y];have a1:=at1 (D.int x) (D.int y) [];have a2:=at1 (D.int x') (D.int y) [];have a3:=at0 (D.int x') [D.int (y+1)];rw[A4 (Z1:=[some (.lent,.lst [.fz (.int x),.fz (.int y)]),some (.own,.fz (.int m)),none]) (by
   simp only[Hm,Jq,Lf,HP,Hn] at e1;clear hm hm2 h1 h2 hn c1 c2 c3 c4 hx hy;walk_at "eo"),A4 (Z1:=[some (.lent,.lst [.fz (.int x'),.fz (.int y)]),some (.own,.fz (.int m)),none]) (by
   clear hm hm2 h1 h2 hn c4 hy e1;walk_at "eo"),A4 (Z1:=[some (.lent,.lst [.fz (.int x'),.fz (.int (y+1))]),some (.own,.fz (.int m)),none]) (by
   clear hm hm2 h1 h2 hn c4 hy e1 c1 c2 c3 hx;walk_at "eo")]
  refine BZ ?_;clear hm hm2 h1 h2 hn hy e1 c1 c2 c3 hx;walk_at "eo"
noncomputable def Hj(b:Int)(i:Nat):Bool:=eqD (.int (Builtin.bitAnd (b / 2 ^ i) 1)) (.int 1)
noncomputable def FW(n:Nat)(b:Int):List Int:=((List.range n).filter (Hj b)).map fun(i:Nat)=>(i:Int)
theorem Od(n:Nat)(b:Int):(FW n b).Pairwise (· < ·):=by
 unfold FW;rw[List.pairwise_map];have:((List.range n).filter (Hj b)).Pairwise (· < ·):=List.Pairwise.filter _ List.pairwise_lt_range;exact this.imp fun h=>by lia
theorem Rz{n:Nat}{b:Int}:∀x∈FW n b,0<=x/\x<n:=by
 intro x hx;simp only[FW,List.mem_map,List.mem_filter,List.mem_range] at hx;obtain⟨i,⟨hi,_⟩,rfl⟩:=hx;lia
theorem K6:∀n∈[2,3,4],∀b∈List.range 16,1<=b->b<2 ^ n->FW n (b:Int)≠[]:=by decide +kernel
theorem U6:∀n∈[2,3,4],∀a∈List.range n,∀b∈List.range n,1<=Builtin.bitOr (1*2 ^ a) (1*2 ^ b)/\Builtin.bitOr (1*2 ^ a) (1*2 ^ b)<2 ^ n:=by decide +kernel
theorem RA{n:Nat}{b:Int}(hn:n=2\/n=3\/n=4)(h1:1<=b)(h2:b<2 ^ n):FW n b≠[]:=by
 obtain⟨k,rfl⟩:∃k:Nat,b=k:=⟨b.toNat,by lia⟩;have h16:(2:Int) ^ n<=16:=by rcases hn with rfl|rfl|rfl<;>decide
 refine K6 n (by rcases hn with rfl|rfl|rfl<;>simp) k (by simp; lia) (by lia) ?_;have:((k:Nat):Int)<((2 ^ n:Nat):Int):=by simpa using h2
 lia
local macro_rules | `(tactic| walk_at "wp1")=>`(tactic| first
 | (with_reducible refine CF ?_)|(with_reducible refine AJ ?_)|(with_reducible refine Ft ?_)|(with_reducible refine EW ?_)|(with_reducible refine DN ?_)|(with_reducible refine EX ?_)|(with_reducible refine FE ?_)|(with_reducible refine Ei ?_)|(with_reducible refine FF ?_)|(with_reducible refine FD ?_)|(with_reducible refine FC ?_)|(with_reducible refine Ed ?_)|(with_reducible refine DC ?_)
 | (with_reducible refine Ew ?_)|(with_reducible refine Ec ?_)|(with_reducible refine DB ?_)|(with_reducible refine Cj ?_)|(with_reducible refine Fc ?_)|(with_reducible refine Ho ?_)|(with_reducible refine Fg ?_)|(with_reducible refine Fd ?_)|(with_reducible refine Ff ?_)|(with_reducible refine Fh ?_)
 | (with_reducible refine GO ?_)|(with_reducible refine JK ?_)|(with_reducible refine BB ?_)|(with_reducible refine Dm ?_)
 | (with_reducible refine EY ?_)|(with_reducible refine D8 ?_)|(with_reducible refine D7 ?_)|(with_reducible refine Hu ?_)|(with_reducible refine FG ?_)
 | (with_reducible refine Dx ?_)|(with_reducible refine Ef ?_)|(with_reducible refine EI ?_)|(with_reducible refine Eh ?_)
 | ((with_reducible apply CI); · rfl)
 | ((with_reducible refine Exists.intro _ (And.intro (CU ?_) ?_)); · rfl)
 | ((with_reducible apply ex1); · rfl)|((with_reducible apply ex2); · rfl)|((with_reducible apply ex3); · rfl)|((with_reducible apply ex0); · rfl)|((with_reducible refine And.intro ?_ ?_); · rfl)|((with_reducible refine Hr ?_ ?_); · rfl)|((with_reducible refine Hq ?_ ?_); · rfl))
local macro_rules | `(tactic| walk_at "wp")=>`(tactic| repeat walk_at "wp1")
theorem Bw(Z:Ro)(ds:List D):share Z (.val (.lst (ds.map A.fz)))=some (.lst ds,Z):=by
 simp[share,er,Gr]
theorem Rv:∀k∈List.range 26,atI (Str.ofString "abcdefghijklmnopqrstuvwxyz").cps.toList (k:Int)=some (97+k):=by decide +kernel
theorem Ry(n:Nat)(b:Int):(E3 0 n).filterMap (fun d=>match d with | .int i=>if Hj b i.toNat then some (.int i) else none|_=>none)=iL (FW n b):=by
 have eu:E3 0 n=(List.range n).map fun(j:Nat)=>D.int (j:Int):=by
  unfold E3;exact List.map_congr_left fun j _=>by simp
 rw[eu,List.filterMap_map,iL,FW,List.map_map,<- List.filterMap_eq_map,<- List.filterMap_eq_filter,List.filterMap_filterMap];refine congrArg (fun g=>List.filterMap g _) (funext fun j=>?_);show(if Hj b (Int.toNat (j:Int))=true then some (D.int (j:Int)) else none)=(Option.guard (Hj b) j).bind _;rw[Int.toNat_natCast];unfold Option.guard;by_cases hp:Hj b j=true
 .rw[if_pos hp,if_pos hp]; rfl
 .rw[if_neg hp,if_neg hp]; rfl
structure HI (n:Int) (M j:Nat) (ls:List (Nat×List Int)) (a:Int):Prop where
 len:ls.length=j
 a0:0<=a
 a1:a<=26-M+j
 ch:∀p∈ls,97<=p.1/\(p.1:Int)<97+a
 ri:(ls.map (·.1)).Pairwise (· < ·)
 hs:∀p∈ls,p.2≠[]/\p.2.Pairwise (· < ·)/\∀x∈p.2,0<=x/\x<n
theorem HI.step{n:Int}{M j:Nat}{ls:List (Nat×List Int)}{a d:Int}{hl:List Int}(h:HI n M j ls a)(d0:0<=d)(d1:d<27-M+(0+(j:Int))-a)(hl0:hl≠[])(hl1:hl.Pairwise (· < ·))(hl2:∀x∈hl,0<=x/\x<n):HI n M (j+1) (ls++[(97+(a+d).toNat,hl)]) (a+d+1):=by
 have a0:=h.a0;refine⟨by simp[h.len],by lia,by lia,?_,?_,?_⟩
 .intro p hp
  rcases List.mem_append.mp hp with hp|hp
  .have:=h.ch p hp; lia
  .simp only[List.mem_singleton] at hp; subst hp; simp only; lia
 .rw[List.map_append,List.pairwise_append]
  refine⟨h.ri,by simp,?_⟩;intro x hx y hy;obtain⟨p,hp,rfl⟩:=List.mem_map.mp hx;simp only[List.map_cons,List.map_nil,List.mem_singleton] at hy;subst hy;have:=(h.ch p hp).2;lia
 .intro p hp
  rcases List.mem_append.mp hp with hp|hp
  .exact h.hs p hp
  .simp only[List.mem_singleton] at hp; subst hp; exact⟨hl0,hl1,hl2⟩
noncomputable abbrev oF(d:D):Slot:=some (.own,.fz d)
noncomputable abbrev eK(as:List A)(n M S:Int)(ls:List (Nat×List Int))(a:Int)(x6 x7:Slot):Ro:=[some (.lent,.lst as),oF (.int n),oF (.int M),oF (.int S),some (.own,.lst ((ls.map ld).map A.fz)),oF (.int a),x6,x7]
theorem HY{R:List A->Option A}(sr:∀b j:Int,0<=j->R [.fz (.int b),.fz (.int j)]=some (.fz (.int (b / 2 ^ j.toNat)))){n M S a c1 b:Int}{Mn j N':Nat}{as':List A}{ls:List (Nat×List Int)}(hn:n=2\/n=3\/n=4)(hi:HI n Mn j ls a)(hcx:atI (Str.ofString "abcdefghijklmnopqrstuvwxyz").cps.toList (a+c1)=some (97+(a+c1).toNat))(d0:0<=c1)(d1:c1<27-Mn+(0+(j:Int))-a)(hj:j<=100)(hb:Bag N' as')(b1:1<=b)(b2:b<2 ^ n.toNat){T:Fl->Prop}(hT:∀Z,(∃as' ls' a' x6 x7,Fr x6/\Fr x7/\Bag N' as'/\HI n Mn (j+1) ls' a'/\Z=eK as' n M S ls' a' x6 x7)->T (.next Z)):
  SV (IS 4 (CZ (Ab (Ae (opM ixA (m2L (Ag (.str (Str.ofString "abcdefghijklmnopqrstuvwxyz"))) (Ad 5)))) (Ab (Ae (Bn (CV (Ad 1)) 0 (AG (opM eqA (m2L (opM K5 (m2L (opM R (m2L (Ad 8) (Ad 0))) (Ag (.int 1)))) (Ag (.int 1))))) (Ad 0))) Aj)))) (eK as' n M S ls (a+c1) (oF (.int (0+(j:Int)))) (oF (.int b))) (nxt (fun Z1=>SV (A9 5 (opM Bg (m2L (Ad 5) (Ag (.int 1))))) Z1 T) T):=by
 have hL:1000<=LIM:=by decide
 have hlen:=hi.len;have hbits:=RA (n:=n.toNat) (b:=b) (by lia) b1 b2;refine Q9 ⟨_,rfl⟩ ?_;walk_at "wp";refine⟨_,ixS hcx,?_⟩;walk_at "wp";refine HR (fun d=>match d with | .int i=>if Hj b i.toNat then some (.int i) else none|_=>none) (iL (FW n.toNat b)) (Mz ?_);walk_at "wp";refine⟨⟨by lia,by lia⟩,by rw[Hh]; lia,Ry _ _,fun d hd=>?_,?_⟩
 .obtain⟨i,hi⟩:=List.mem_iff_getElem?.mp hd
  obtain⟨rfl,hi⟩:=Gi hi;refine⟨[.int (0+(i:Int))],rfl,?_⟩;walk_at "wp";refine⟨_,sr _ _ (by lia),?_⟩;walk_at "wp";refine Tc (fun e=>?_) fun e=>?_
  .walk_at "wp"
   exact if_pos e
  .exact if_neg (by rw[show Hj b (0+(i:Int)).toNat=false from e]; decide)
 walk_at "wp";refine⟨_,_,Bw _ _,?_⟩;walk_at "wp";refine⟨?_,AJ ?_⟩
 .rw[List.length_map,List.length_map]; lia
 walk_at "wp";refine hT _ ⟨as',ls++[(97+(a+c1).toNat,FW n.toNat b)],a+c1+1,oF (.int (0+(j:Int))),oF (.int b),rfl,rfl,hb,hi.step d0 d1 hbits (Od _ _) (fun x hx=>by have:=Rz x hx; lia),?_⟩;unfold eK;rw[List.map_append,List.map_append];rfl
theorem SH{N:Nat}{as:List A}(hb:Bag N as)(hN:N<=1000):∃h:Hs,∃as',h.Ok/\Bag (N+30) as'/\B4 [(.lent,.lst as)]=some (.fz h.d,[.lst as']):=by
 suffices hh:FV B4 [(.lent,.lst as)] fun a os=>∃h:Hs,∃as',h.Ok/\Bag (N+30) as'/\a=.fz h.d/\os=[.lst as'] by
  obtain⟨a,os,e,h,as',h1,h2,rfl,rfl⟩:=hh;exact⟨h,as',h1,h2,e⟩
 have hL:1000<=LIM:=by decide
 obtain⟨d1,as1,g1,g2,b1,t1⟩:=D6 hb (by lia) 3 (by lia) (by lia);obtain⟨d2,as2,g3,g4,b2,t2⟩:=D6 b1 (by lia) 6 (by lia) (by lia);obtain⟨d3,as3,g5,g6,b3,t3⟩:=D6 b2 (by lia) 2 (by lia) (by lia);have hn:2+d1=2\/2+d1=3\/2+d1=4:=by lia
 refine D1 rfl rfl ?_;show SV DY [some (.lent,.lst as),none,none,none,none,none,none,none] _;unfold DY;generalize hS:KJ=S;have sl:∀j:Int,0<=j->j<=4->S [.fz (.int 1),.fz (.int j)]=some (.fz (.int (1*2 ^ j.toNat))):=fun j j0 j1=>hS ▸ VG (by simp; lia);clear hS;generalize hR:Nb=R;have sr:∀b j:Int,0<=j->R [.fz (.int b),.fz (.int j)]=some (.fz (.int (b / 2 ^ j.toNat))):=fun b j j0=>hR ▸ VH (decide_eq_true j0);clear hR;walk_at "wp";refine CT t1 ?_;walk_at "wp";refine CT t2 ?_;walk_at "wp";refine CT t3 ?_;clear t1 t2 t3;walk_at "wp";show SV _ (eK as3 (2+d1) (1+d2) d3 [] 0 none none) _;refine KN (Mz ?_);walk_at "wp";refine⟨⟨by lia,by lia⟩,fun j Z=>∃as' ls' a' x6 x7,Fr x6/\Fr x7/\Bag (N+3+4*j) as'/\HI (2+d1) (1+d2).toNat j ls' a'/\Z=eK as' (2+d1) (1+d2) d3 ls' a' x6 x7,⟨as3,[],0,none,none,rfl,rfl,b3,⟨rfl,by lia,by lia,by simp,by simp,by simp⟩,rfl⟩,fun j d Z hd hI=>?_,fun Z hI=>?_⟩
 .obtain⟨as,ls,a,x6,x7,h6,h7,hb,hi,rfl⟩:=hI
  obtain⟨rfl,hj⟩:=Gi hd;have a0:=hi.a0;have a1:=hi.a1;have hlen:=hi.len;have hp:(1:Int)*2 ^ (2+d1).toNat-1<=15/\0<(1:Int)*2 ^ (2+d1).toNat-1:=by rcases hn with e|e|e<;>rw[e]<;>decide
  obtain⟨c1,bs1,k1,k2,q1,u1⟩:=D6 hb (by lia) (27-(1+d2)+(0+(j:Int))-a) (by lia) (by lia);obtain⟨c2,bs2,k3,k4,q2,u2⟩:=D6 q1 (by lia) ((1:Int)*2 ^ (2+d1).toNat-1) (by lia) (by lia);obtain⟨c3,bs3,k5,k6,q3,u3⟩:=D6 q2 (by lia) (2+d1) (by lia) (by lia);obtain⟨c4,bs4,k7,k8,q4,u4⟩:=D6 q3 (by lia) (2+d1) (by lia) (by lia);have ho:=U6 (2+d1).toNat (by rcases hn with e|e|e<;>rw[e]<;>simp) c3.toNat (by simp; lia) c4.toNat (by simp; lia);have hcx:atI (Str.ofString "abcdefghijklmnopqrstuvwxyz").cps.toList (a+c1)=some (97+(a+c1).toNat):=by
   have ha:=Rv (a+c1).toNat (by simp; lia)
   rwa [show(((a+c1).toNat:Nat):Int)=a+c1 by lia] at ha
  clear hd;refine⟨_,Ml h6,?_⟩;show SV _ (eK as (2+d1) (1+d2) d3 ls a (oF (.int (0+(j:Int)))) x7) _;walk_at "wp";refine CT u1 ?_;walk_at "wp";refine⟨_,sl _ (by lia) (by lia),?_⟩;walk_at "wp";refine CT u2 ?_;walk_at "wp";refine⟨h7,AJ ?_⟩;show SV _ (eK bs2 (2+d1) (1+d2) d3 ls (a+c1) (oF (.int (0+(j:Int)))) (oF (.int (1+c2)))) _;walk_at "wp";refine Tc (fun e=>?_) fun e=>?_
  .walk_at "wp"
   refine CT u3 ?_;walk_at "wp";refine⟨_,sl _ (by lia) (by lia),?_⟩;walk_at "wp";refine CT u4 ?_;walk_at "wp";refine⟨_,sl _ (by lia) (by lia),?_⟩;walk_at "wp";exact HY (N':=N+3+4*(j+1)) sr hn hi hcx k1 (by lia) (by lia) (q4.mono (by lia)) ho.1 ho.2 fun _ h=>h
  .walk_at "wp"
   exact HY (N':=N+3+4*(j+1)) sr hn hi hcx k1 (by lia) (by lia) (q2.mono (by lia)) (by lia) (Int.lt_of_lt_of_le (Int.add_lt_add_left k4 1) (by rw[Int.one_mul]; lia)) fun _ h=>h
 obtain⟨as',ls',a',x6,x7,h6,h7,hb',hi,rfl⟩:=hI;have hln:(E3 0 (1+d2).toNat).length=(1+d2).toNat:=Hh ..;rw[hln] at hb' hi;have ha1:=hi.a1;have hlen:=hi.len;walk_at "wp";refine⟨_,_,OV rfl,?_⟩;walk_at "wp";exact⟨⟨2+d1,ls'⟩,as',⟨by simp only; lia,by simp only; lia,by simp only; lia,by simp only; lia,fun p hp=>by have:=hi.ch p hp; lia,hi.ri,hi.hs⟩,hb'.mono (by lia),rfl,rfl⟩
local macro_rules | `(tactic| walk_at "wp1")=>`(tactic| first
 | (with_reducible refine CF ?_)|(with_reducible refine AJ ?_)|(with_reducible refine Ft ?_)|(with_reducible refine EW ?_)|(with_reducible refine DN ?_)|(with_reducible refine EX ?_)|(with_reducible refine FE ?_)|(with_reducible refine Ei ?_)|(with_reducible refine FF ?_)|(with_reducible refine FD ?_)|(with_reducible refine FC ?_)|(with_reducible refine Ed ?_)|(with_reducible refine DC ?_)
 | (with_reducible refine Ew ?_)|(with_reducible refine Ec ?_)|(with_reducible refine DB ?_)|(with_reducible refine Cj ?_)|(with_reducible refine Fc ?_)|(with_reducible refine Ho ?_)|(with_reducible refine Fg ?_)|(with_reducible refine Fd ?_)|(with_reducible refine Ff ?_)|(with_reducible refine Fh ?_)
 | (with_reducible refine GO ?_)|(with_reducible refine JK ?_)|(with_reducible refine BB ?_)|(with_reducible refine Dm ?_)
 | (with_reducible refine EY ?_)|(with_reducible refine D8 ?_)|(with_reducible refine D7 ?_)|(with_reducible refine Hu ?_)|(with_reducible refine FG ?_)
 | (with_reducible refine Dx ?_)|(with_reducible refine Ef ?_)|(with_reducible refine EI ?_)|(with_reducible refine Eh ?_)
 | ((with_reducible apply CI); · rfl)
 | ((with_reducible refine Exists.intro _ (And.intro (CU ?_) ?_)); · rfl)
 | ((with_reducible apply ex1); · rfl)|((with_reducible apply ex2); · rfl)|((with_reducible apply ex3); · rfl)|((with_reducible apply ex0); · rfl)|((with_reducible refine And.intro ?_ ?_); · rfl)|((with_reducible refine Hr ?_ ?_); · rfl)|((with_reducible refine Hq ?_ ?_); · rfl))
local macro_rules | `(tactic| walk_at "wp")=>`(tactic| repeat walk_at "wp1")
theorem S6{n j:Nat}{d:D}(h:(E3 0 n)[j]? = some d):d=.int j/\j<n:=by
 obtain⟨h1,h2⟩:=Gi h;rw[Int.zero_add] at h1;exact⟨h1,h2⟩
theorem nil_of(Z:Ro):Aj Z=some ([],Z):=rfl
theorem Tw:∀(n:Nat) (xs:List Int),HC n (iL xs)=true
 | n,[]=>rfl
 | n,x::xs=>by
  have ih:=Tw n xs;simp only[iL,List.map_cons,HC,shB,Bool.true_and] at ih |-;exact ih
theorem Tx:∀(n:Nat) (ls:List (Nat×List Int)),HC (n+2) (ls.map ld)=true
 | n,[]=>rfl
 | n,p::ls=>by
  have ih:=Tx n ls;have e:=Tw n p.2;simp only[List.map_cons,HC,ld,shB,chD,e,Bool.true_and,Bool.and_true];exact ih
theorem LZ(h:Hs):shB 16 h.d=true:=by
 have:=Tx 12 h.ls;simp only[Hs.d,shB,HC,this,Bool.true_and,Bool.and_true]
theorem VB(ns:List Int)(k:Nat):∃c a2,C7 [(.ro,.scr ns),(.own,.fz (.int k))]=some (.fz (.int c),[.scr ns,a2]):=by
 by_cases h:k<ns.length
 .obtain⟨c,e2⟩:∃c,atI (ns.map D.int) (k:Int)=some (.int c):=⟨ns[k],by
   have e2:=Cb (xs:=ns.map D.int) (i:=(k:Int)) (k:=k) rfl (by simpa using h);simpa using e2⟩
  refine⟨c,_,Br (Z:=[some (.ro,.scr ns),some (.own,.fz (.int k))]) rfl ?_⟩;show CG [some (.ro,.scr ns),some (.own,.fz (.int k))]=_;unfold CG;have e1:decide ((k:Int)<(ns.length:Int))=true:=by simpa using h
  clear h;walk_at "eo"
 .refine⟨0,_,Br (Z:=[some (.ro,.scr ns),some (.own,.fz (.int k))]) rfl ?_⟩
  show CG [some (.ro,.scr ns),some (.own,.fz (.int k))]=_;unfold CG;have e1:decide ((k:Int)<(ns.length:Int))=false:=by simpa using h
  clear h;walk_at "eo"
noncomputable def tx(cs:List Nat):Str:=⟨cs.toArray⟩
local macro_rules | `(tactic| walk_at "wp1")=>`(tactic| first
 | (with_reducible refine CF ?_)|(with_reducible refine AJ ?_)|(with_reducible refine Ft ?_)|(with_reducible refine EW ?_)|(with_reducible refine DN ?_)|(with_reducible refine EX ?_)|(with_reducible refine FE ?_)|(with_reducible refine Ei ?_)|(with_reducible refine FF ?_)|(with_reducible refine FD ?_)|(with_reducible refine FC ?_)|(with_reducible refine Ed ?_)|(with_reducible refine DC ?_)
 | (with_reducible refine Ew ?_)|(with_reducible refine Ec ?_)|(with_reducible refine DB ?_)|(with_reducible refine Cj ?_)|(with_reducible refine Fc ?_)|(with_reducible refine Ho ?_)|(with_reducible refine Fg ?_)|(with_reducible refine Fd ?_)|(with_reducible refine Ff ?_)|(with_reducible refine Fh ?_)
 | (with_reducible refine GO ?_)|(with_reducible refine JK ?_)|(with_reducible refine BB ?_)|(with_reducible refine Dm ?_)
 | (with_reducible refine EY ?_)|(with_reducible refine D8 ?_)|(with_reducible refine D7 ?_)|(with_reducible refine Hu ?_)|(with_reducible refine FG ?_)
 | (with_reducible refine Dx ?_)|(with_reducible refine Ef ?_)|(with_reducible refine EI ?_)|(with_reducible refine Eh ?_)
 | ((with_reducible apply CI); · rfl)
 | ((with_reducible refine Exists.intro _ (And.intro (CU ?_) ?_)); · rfl)
 | ((with_reducible apply ex1); · rfl)|((with_reducible apply ex2); · rfl)|((with_reducible apply ex3); · rfl)|((with_reducible apply ex0); · rfl)|((with_reducible refine And.intro ?_ ?_); · rfl)|((with_reducible refine Hr ?_ ?_); · rfl)|((with_reducible refine Hq ?_ ?_); · rfl))
local macro_rules | `(tactic| walk_at "wp")=>`(tactic| repeat walk_at "wp1")
theorem cons_of{m:ME}{ms:MA}{Z Z1 Z2:Ro}{r:R}{rs:List R}(h1:m Z=some (r,Z1))(h2:ms Z1=some (rs,Z2)):Ab m ms Z=some (r::rs,Z2):=by simp[Ab,h1,h2]
theorem QL{m:ME}{Z Z1 Z2:Ro}{r:R}{d:D}(h1:m Z=some (r,Z1))(h2:share Z1 r=some (d,Z2)):Ae m Z=some (.val (.fz d),Z2):=by simp[Ae,h1,h2]
theorem Qy{a b:MT}{Z Z1 Z2:Ro}(h1:a Z=some (false,Z1))(h2:b Z1=some (false,Z2)):orT a b Z=some (false,Z2):=by simp[orT,h1,h2]
theorem CP{ms:MA}{Z Z1:Ro}{rs:List R}{as:List A}(h1:ms Z=some (rs,Z1))(h2:vals rs=some as)(h3:decide (as.length<=LIM)=true):lstM ms Z=some (.val (.lst as),Z1):=by
 simp only[lstM,h1,h2,Option.bind_some,if_pos (of_decide_eq_true h3)]
theorem JG{xs ys:List D}(h:decide (xs.length+ys.length<=LIM)=true):Bg [.lst (xs.map A.fz),.lst (ys.map A.fz)]=some (.lst ((xs++ys).map A.fz)):=by
 have h:=of_decide_eq_true h;simp only[Bg,on2,Bj,DR,CD,Fz,fzU,Co,Bp,Option.bind_none,Option.none_or,Option.bind_some,if_pos h]
theorem Pa{a b:ME}{Z Z1:Ro}{r:Option (R×Ro)}(h1:a Z=some (.val (.fz (.bl true)),Z1))(h2:b Z1=r):J.andM a b Z=r:=by
 rw[<- h2];simp only[J.andM,CS h1,Option.bind_some,if_true]
theorem O9{a b:ME}{Z Z1:Ro}(h1:a Z=some (.val (.fz (.bl false)),Z1)):J.andM a b Z=some (.val (.fz (.bl false)),Z1):=by
 simp only[J.andM,CS h1,Option.bind_some,Bool.false_eq_true,if_false]
theorem Lq{L:List D}{w:Int}(h0:0<=w)(h1:w<(L.length:Int)):∃d∈L,ixA [.lst (L.map A.fz),.fz (.int w)]=some (.fz d):=by
 have hk:w.toNat<L.length:=by lia
 exact⟨L[w.toNat],List.getElem_mem hk,ixL (Cb (by lia) hk)⟩
noncomputable abbrev sL(l:List D):Slot:=some (.own,.lst (l.map A.fz))
noncomputable abbrev eW(a:Addr)(o:Obj)(x y z:Slot):Ro:=[some (.lent,.opq a o),x,y,z]
noncomputable abbrev v10:List D:=[.str (Str.ofString "NoHouse"),.str (Str.ofString "NoRow"),.str (Str.ofString "NoMachine"),.str (Str.ofString "NoRoom"),.str (Str.ofString "NoHand"),.str (Str.ofString "Unlike"),.str (Str.ofString "NoPast"),.str (Str.ofString "TooMany"),.str (Str.ofString "Torn"),.str (Str.ofString "NoTable")]
noncomputable abbrev v15:List D:=[.str (Str.ofString "NoHouse"),.str (Str.ofString "NoRow"),.str (Str.ofString "NoMachine"),.str (Str.ofString "NoRoom"),.str (Str.ofString "NoHand"),.str (Str.ofString "Unlike"),.str (Str.ofString "NoPast"),.str (Str.ofString "TooMany"),.str (Str.ofString "Torn"),.str (Str.ofString "NoTable"),.str (Str.ofString "NoSet"),.str (Str.ofString "Falls"),.str (Str.ofString "Whole"),.str (Str.ofString "NoText"),.str (Str.ofString "NoWord")]
noncomputable abbrev q0(j:Nat):List D:=[.bl (0==j),.bl (1==j),.bl (2==j),.bl (3==j)]
noncomputable abbrev p1(j:Nat):List D:=[.bl (4==j),.bl (5==j),.bl (6==j),.bl (7==j)]
noncomputable abbrev q1(j:Nat):List D:=q0 j++p1 j
noncomputable abbrev p2(j:Nat):List D:=[.bl (8==j),.bl (9==j),.bl (10==j),.bl (11==j)]
noncomputable abbrev q2(j:Nat):List D:=q1 j++p2 j
noncomputable abbrev p3(j:Nat):List D:=[.bl (12==j),.bl (13==j),.bl (14==j)]
noncomputable abbrev q3(j:Nat):List D:=q2 j++p3 j
theorem Um{C:Addr}{b:Bool}{a:Addr}{o:Obj}(h:o.cls=.ref C):Bl C b [.opq a o]=some (.fz (.bl b)):=by
 have e:(o.cls==.ref C)=true:=by rw[h]; exact beq_self_eq_true _
 simp only[Bl,on1,Ul,e,if_true]
theorem VE{C a:Addr}{o:Obj}{j:Nat}{wd:Str}(h:o.cls=.ref C)(h6:A9 3 (Bn (CV (Ag (.int 15))) 0 (AG (opM ixA (m2L (Ad 2) (Ad 0)))) (opM ixA (m2L (Ad 3) (Ad 0)))) (eW a o (sL (q3 j)) (sL v15) none)=some (.next (eW a o (sL (q3 j)) (sL v15) (sL [.str wd])))):Gu C j [(.lent,.opq a o)]=some (.fz (.str wd),[.opq a o]):=by
 have ix:∀(b:Bool) (x y z:Slot),opM (Bl C b) (m1L (Ad 0)) (eW a o x y z)=some (.val (.fz (.bl b)),eW a o x y z):=fun b x y z=>Bs rfl rfl (Um h);have ip:∀(b:Bool) (x y z:Slot),Ae (opM (Bl C b) (m1L (Ad 0))) (eW a o x y z)=some (.val (.fz (.bl b)),eW a o x y z):=fun b x y z=>QL (ix b x y z) rfl;have st0:A9 1 (lstM (Ab (Ae (opM (Bl C (0==j)) (m1L (Ad 0)))) (Ab (Ae (opM (Bl C (1==j)) (m1L (Ad 0)))) (Ab (Ae (opM (Bl C (2==j)) (m1L (Ad 0)))) (Ab (Ae (opM (Bl C (3==j)) (m1L (Ad 0)))) Aj))))) (eW a o none none none)=some (.next (eW a o (sL (q0 j)) none none)):=JH (CP (cons_of (ip _ _ _ _) (cons_of (ip _ _ _ _) (cons_of (ip _ _ _ _) (cons_of (ip _ _ _ _) (nil_of _))))) rfl rfl) rfl;have l1:(lstM (Ab (Ae (opM (Bl C (4==j)) (m1L (Ad 0)))) (Ab (Ae (opM (Bl C (5==j)) (m1L (Ad 0)))) (Ab (Ae (opM (Bl C (6==j)) (m1L (Ad 0)))) (Ab (Ae (opM (Bl C (7==j)) (m1L (Ad 0)))) Aj))))) (eW a o (sL (q0 j)) none none)=some (.val (.lst ((p1 j).map A.fz)),(eW a o (sL (q0 j)) none none)):=(CP (cons_of (ip _ _ _ _) (cons_of (ip _ _ _ _) (cons_of (ip _ _ _ _) (cons_of (ip _ _ _ _) (nil_of _))))) rfl rfl);have st1:A9 1 (opM Bg (m2L (Ad 1) (lstM (Ab (Ae (opM (Bl C (4==j)) (m1L (Ad 0)))) (Ab (Ae (opM (Bl C (5==j)) (m1L (Ad 0)))) (Ab (Ae (opM (Bl C (6==j)) (m1L (Ad 0)))) (Ab (Ae (opM (Bl C (7==j)) (m1L (Ad 0)))) Aj))))))) (eW a o (sL (q0 j)) none none)=some (.next (eW a o (sL (q1 j)) none none)):=JH (Bs (Ct (r1:=.ref 1) rfl l1) rfl (JG (xs:=q0 j) (ys:=p1 j) rfl)) rfl;have l2:(lstM (Ab (Ae (opM (Bl C (8==j)) (m1L (Ad 0)))) (Ab (Ae (opM (Bl C (9==j)) (m1L (Ad 0)))) (Ab (Ae (opM (Bl C (10==j)) (m1L (Ad 0)))) (Ab (Ae (opM (Bl C (11==j)) (m1L (Ad 0)))) Aj))))) (eW a o (sL (q1 j)) none none)=some (.val (.lst ((p2 j).map A.fz)),(eW a o (sL (q1 j)) none none)):=(CP (cons_of (ip _ _ _ _) (cons_of (ip _ _ _ _) (cons_of (ip _ _ _ _) (cons_of (ip _ _ _ _) (nil_of _))))) rfl rfl)
 have st2:A9 1 (opM Bg (m2L (Ad 1) (lstM (Ab (Ae (opM (Bl C (8==j)) (m1L (Ad 0)))) (Ab (Ae (opM (Bl C (9==j)) (m1L (Ad 0)))) (Ab (Ae (opM (Bl C (10==j)) (m1L (Ad 0)))) (Ab (Ae (opM (Bl C (11==j)) (m1L (Ad 0)))) Aj))))))) (eW a o (sL (q1 j)) none none)=some (.next (eW a o (sL (q2 j)) none none)):=JH (Bs (Ct (r1:=.ref 1) rfl l2) rfl (JG (xs:=q1 j) (ys:=p2 j) rfl)) rfl;have l3:(lstM (Ab (Ae (opM (Bl C (12==j)) (m1L (Ad 0)))) (Ab (Ae (opM (Bl C (13==j)) (m1L (Ad 0)))) (Ab (Ae (opM (Bl C (14==j)) (m1L (Ad 0)))) Aj)))) (eW a o (sL (q2 j)) none none)=some (.val (.lst ((p3 j).map A.fz)),(eW a o (sL (q2 j)) none none)):=(CP (cons_of (ip _ _ _ _) (cons_of (ip _ _ _ _) (cons_of (ip _ _ _ _) (nil_of _)))) rfl rfl);have st3:A9 1 (opM Bg (m2L (Ad 1) (lstM (Ab (Ae (opM (Bl C (12==j)) (m1L (Ad 0)))) (Ab (Ae (opM (Bl C (13==j)) (m1L (Ad 0)))) (Ab (Ae (opM (Bl C (14==j)) (m1L (Ad 0)))) Aj)))))) (eW a o (sL (q2 j)) none none)=some (.next (eW a o (sL (q3 j)) none none)):=JH (Bs (Ct (r1:=.ref 1) rfl l3) rfl (JG (xs:=q2 j) (ys:=p3 j) rfl)) rfl;have st4:A9 2 (lstM (Ab (Ae (Ag (.str (Str.ofString "NoHouse")))) (Ab (Ae (Ag (.str (Str.ofString "NoRow")))) (Ab (Ae (Ag (.str (Str.ofString "NoMachine")))) (Ab (Ae (Ag (.str (Str.ofString "NoRoom")))) (Ab (Ae (Ag (.str (Str.ofString "NoHand")))) (Ab (Ae (Ag (.str (Str.ofString "Unlike")))) (Ab (Ae (Ag (.str (Str.ofString "NoPast")))) (Ab (Ae (Ag (.str (Str.ofString "TooMany")))) (Ab (Ae (Ag (.str (Str.ofString "Torn")))) (Ab (Ae (Ag (.str (Str.ofString "NoTable")))) Aj))))))))))) (eW a o (sL (q3 j)) none none)=some (.next (eW a o (sL (q3 j)) (sL v10) none)):=rfl
 have st5:A9 2 (opM Bg (m2L (Ad 2) (lstM (Ab (Ae (Ag (.str (Str.ofString "NoSet")))) (Ab (Ae (Ag (.str (Str.ofString "Falls")))) (Ab (Ae (Ag (.str (Str.ofString "Whole")))) (Ab (Ae (Ag (.str (Str.ofString "NoText")))) (Ab (Ae (Ag (.str (Str.ofString "NoWord")))) Aj)))))))) (eW a o (sL (q3 j)) (sL v10) none)=some (.next (eW a o (sL (q3 j)) (sL v15) none)):=rfl;have c2:(orT (AG (opM neA (m2L (opM DJ (Ab (Ad 3) Aj)) (Ag (.int 1))))) (B3 (AG (opM (Bl C true) (m1L (Ad 0)))))) (eW a o (sL (q3 j)) (sL v15) (sL [.str wd]))=some (false,(eW a o (sL (q3 j)) (sL v15) (sL [.str wd]))):=Qy rfl (not_of (CS (ix true _ _ _)));refine Br (Z:=(eW a o (sL (q3 j)) (sL v15) (sL [.str wd]))) rfl ?_;show HM C j (eW a o none none none)=_;unfold HM;exact(A4 st0).trans ((A4 st1).trans ((A4 st2).trans ((A4 st3).trans ((A4 st4).trans ((A4 st5).trans ((A4 h6).trans ((A4 ((J3 c2).trans rfl)).trans (BZ rfl))))))))
noncomputable abbrev oLs(ds:List D):Slot:=some (.own,.lst (ds.map A.fz))
theorem Pd(as:List A):∀(os:List A) (Z:Ro),back (as.map R.val) os Z=Z:=by
 induction as with
 | nil=>intro os Z; cases os<;>rfl
 | cons a as ih =>
  intro os Z;cases os with
  | nil=>rfl
  | cons o os=>exact ih os Z
theorem UG(ds:List D):DJ [.fz (.lst ds)]=some (.fz (.int (ds.length:Int))):=by
 simp only[DJ,on1,CD,Fz,fzU,AI,Option.bind_none,Option.map_none,Option.none_or,Option.bind_some,Option.map_some]
theorem T4{f g:List A->Option A}{a b c:ME}{Z:Ro}{x y w:A}{k l:Bool}(h1:a Z=some (.val x,Z))(h2:b Z=some (.val y,Z))(h3:c Z=some (.val w,Z))(e1:f [x,y]=some (.fz (.bl k)))(e2:g [y,w]=some (.fz (.bl l))):AG (Gn f g a b c) Z=some (k&&l,Z):=by
 refine CS ?_;cases k<;>simp only[Gn,h1,h2,h3,peeks,peek,Option.bind_some,Option.map_some,e1,e2,DW,if_true,Bool.false_eq_true,if_false,Bool.true_and,Bool.false_and]
theorem Pg{Ψ:FnR}{ms:MA}{Z Z1:Ro}{rs:List R}{as:List (Own×A)}{o:Option Str}(h1:ms Z=some (rs,Z1))(h2:Cw Z1 rs=some as)(h3:DT as=true)(h4 : Ψ as=o):Hk Ψ ms Z=o:=by
 simp only[Hk,h1,h2,h3,h4,Option.bind_some,if_true]
theorem KD(s1:Own)(h:Hs)(ok:h.Ok):∃a1,Bd [(s1,.fz h.d)]=some (.fz h.d,[a1]):=by
 suffices hh:FV Bd [(s1,.fz h.d)] fun a os=>a=.fz h.d/\∃a1,os=[a1] by
  obtain⟨a,os,e,rfl,a1,rfl⟩:=hh;exact⟨a1,e⟩
 have hL:1000<=LIM:=by decide
 have l2:=ok.l2;refine D1 rfl rfl ?_;show SV Cy [some (s1,.fz h.d)] _;unfold Cy;walk_at "wp";refine HR (fun d=>some d) (h.ls.map ld) (HZ ?_);walk_at "wp";refine⟨by rw[List.length_map]; lia,by simp,fun d hd=>?_,?_⟩
 .obtain⟨p,hp,rfl⟩:=List.mem_map.mp hd
  have pl:=ok.hl p hp;refine⟨[chD p.1,.lst (iL p.2)],rfl,?_⟩;walk_at "wp";refine⟨.lst ((iL p.2).map A.fz),by simp only[Jt,on1,AI,Option.bind_some,if_pos (show(iL p.2).length<=LIM by rw[Cr]; lia)],?_⟩;walk_at "wp";refine⟨_,_,Bw _ _,?_⟩;walk_at "wp";rfl
 walk_at "wp";refine⟨_,_,Bw _ _,?_⟩;walk_at "wp";exact⟨_,rfl⟩
noncomputable abbrev O(d:D):Own×A:=(.own,.fz d)
theorem Jg{C a:Addr}{o:Obj}(h:o.cls=.ref C):Gu C 0 [(.lent,.opq a o)]=some (.fz (.str "NoHouse"),[.opq a o]):=VE h rfl
theorem WH{a b:MT}{Z Z1:Ro}(h1:a Z=some (true,Z1)):orT a b Z=some (true,Z1):=by simp[orT,h1]
theorem RP(a:D)(ds:List D):ixA [.fz (.tup (a::ds)),.fz (.int 0)]=some (.fz a):=by
 have e:=at0 a ds;simp only[ixA,on2,Bj,fzU,DR,AI,CD,Fz,e,Option.bind_some,Option.map_some,Option.none_or,Option.bind_none]
theorem Ur(a b:D)(ds:List D):ixA [.fz (.tup (a::b::ds)),.fz (.int 1)]=some (.fz b):=by
 have e:=at1 a b ds;simp only[ixA,on2,Bj,fzU,DR,AI,CD,Fz,e,Option.bind_some,Option.map_some,Option.none_or,Option.bind_none]
theorem Mi{m:ME}{Z:Ro}{ds:List D}{g:D->Bool}(h:m Z=some (.val (.lst ((ds.map fun d=>D.bl (g d)).map A.fz)),Z))(hx:∃d∈ds,g d=false):opM EG (Ab m Aj) Z=some (.val (.fz (.bl false)),Z):=by
 have eb:=Et ds g;have ea:(ds.map g).all id=false:=by
  obtain⟨d,hd,e⟩:=hx;rw[List.all_eq_false];exact⟨g d,List.mem_map.mpr ⟨d,hd,rfl⟩,by simp[e]⟩
 exact Bs (cons_of h (nil_of _)) rfl (by simp only[EG,on1,Co,Bp,eb,Option.bind_some,Option.map_some,ea])
noncomputable def isP:D->Bool
 | .tup ds=>decide (ds.length=2)
 | .non | .bl _ | .int _ | .str _ | .lst _=>false
theorem IF(st:Own)(d:D):BA [(st,.fz d)]=some (.fz (.bl (isP d)),[.fz d]):=by
 cases d with
 | tup ds =>
  have e:((ds.length:Int)==2)=decide (ds.length=2):=by
   show decide ((ds.length:Int)=2)=_;exact decide_eq_decide.mpr (by lia)
  refine Br (Z:=[some (st,.fz (.tup ds))]) rfl ?_;show Eb [some (st,.fz (.tup ds))]=_;unfold Eb;refine BZ (Pa (Bs (cons_of (r:=.val (.fz (.tup ds))) rfl (nil_of _)) rfl rfl) ?_);have l:opM DJ (Ab (Ad 0) Aj) [some (st,.fz (.tup ds))]=some (.val (.fz (.int (ds.length:Int))),[some (st,.fz (.tup ds))]):=Bs (cons_of (r:=.val (.fz (.tup ds))) rfl (nil_of _)) rfl rfl;exact Bs (Ct l (r2:=.val (.fz (.int 2))) rfl) rfl (by simp only[eqA,on2,J.er,Option.bind_some,shB,if_true,Hm,e,isP])
 | _=>cases st<;>rfl
noncomputable def NRi(n:Int)(b:D):Prop:=AQ [(.own,.fz b),(.own,.fz (.int n))]=some (.fz (.bl false),[.fz b,.fz (.int n)])
theorem Qs{n:Int}{b:D}{os:List A}(h:AF [(.own,.fz b),(.own,.fz (.int n))]=some (.fz (.bl false),os)):NRi n b:=by
 refine Br (Z:=[oF b,oI n]) rfl ?_;show AO [oF b,oI n]=_;unfold AO;exact ES ((Mw (not_of (CS (b:=false) (call_of (cons_of (r:=.val (.fz b)) rfl (cons_of (r:=.val (.fz (.int n))) rfl (nil_of _))) rfl rfl h (Pd [.fz b,.fz (.int n)] os _))))).trans (BZ rfl))
theorem MK{n:Int}{b:D}(h:D4 b=false):NRi n b:=by
 refine Qs (os:=[.fz b,.fz (.int n)]) (Br (Z:=[oF b,oI n]) rfl ?_);show A5 [oF b,oI n]=_;unfold A5;exact BZ (O9 (Bs (cons_of (r:=.val (.fz b)) rfl (nil_of _)) rfl (by simp only[CY,on1,J.er,Option.map_some,h])))
theorem Qr{n:Int}{xs:List Int}(hl:xs.length<=1000)(h:∃x∈xs,¬(0<=x/\x<n)):NRi n (.lst (iL xs)):=by
 have hlim:1000<=LIM:=by decide
 have e:=ER .own .own xs n (by lia);have ea:(xs.all fun i=>decide (0<=i)&&decide (i<n))=false:=by
  obtain⟨x,hx,e⟩:=h;rw[List.all_eq_false];refine⟨x,hx,fun z=>e ?_⟩;rw[Bool.and_eq_true,decide_eq_true_iff,decide_eq_true_iff] at z;exact z
 rw[ea] at e;exact Qs e
theorem Wz{n:Int}:NRi n (.lst [.bl true]):=by
 refine Qs (os:=[.fz (.lst [.bl true]),.fz (.int n)]) (Br (Z:=[oF (.lst [.bl true]),oI n]) rfl ?_);rfl
theorem R6{n:Int}{xs:List Int}(hl:xs.length<=1000){k:Nat}(hk:k+1<xs.length)(h:¬xs[k]'(by lia)<xs[k+1])(hb:∀x∈xs,0<=x/\x<n):NRi n (.lst (iL xs)):=by
 have hlim:1000<=LIM:=by decide
 have e:=ER .own .own xs n (by lia);have ea:(xs.all fun i=>decide (0<=i)&&decide (i<n))=true:=by
  rw[List.all_eq_true];intro x hx;have:=hb x hx;rw[Bool.and_eq_true,decide_eq_true_iff,decide_eq_true_iff]; exact this
 rw[ea] at e;have w1:=CS (b:=true) (call_of (cons_of (m:=Ad 0) (Z:=[oF (.lst (iL xs)),oI n]) (r:=.val (.fz (.lst (iL xs)))) rfl (cons_of (m:=Ad 1) (r:=.val (.fz (.int n))) rfl (nil_of _))) rfl rfl e rfl);have l1:opM DJ (Ab (Ad 0) Aj) [oF (.lst (iL xs)),oI n]=some (.val (.fz (.int (xs.length:Int))),[oF (.lst (iL xs)),oI n]):=Bs (cons_of (r:=.val (.fz (.lst (iL xs)))) rfl (nil_of _)) rfl (by rw[UG,Cr]);have l2:=Bs (f:=He) (Ct l1 (m2:=Ag (.int 1)) (r2:=.val (.fz (.int 1))) rfl) rfl rfl;have rg:=LU l2 (by lia) (by lia);have cm:=Eu (e:=(opM ltA (m2L (opM ixA (m2L (Ad 1) (Ad 0))) (opM ixA (m2L (Ad 1) (opM Bg (m2L (Ad 0) (Ag (.int 1))))))))) (f:=fun d=>.bl (decide ((xs.getD (nD d).toNat 0)<xs.getD ((nD d).toNat+1) 0))) rg (by rw[Hh]; lia) (fun d hd=>by
  obtain⟨i,hi⟩:=List.mem_iff_getElem?.mp hd;obtain⟨rfl,hi⟩:=Gi hi;have h1:i+1<xs.length:=by lia
  have z0:(0:Int)+(i:Int)=(i:Int):=by lia
  rw[z0];have a1:=Pc (xs:=xs) (k:=i) (by lia);have a2:=Pc (xs:=xs) (k:=i+1) h1;have c2:((i+1:Nat):Int)=(i:Int)+1:=by lia
  rw[c2] at a2;have x1:opM ixA (m2L (Ad 1) (Ad 0)) (J.own (.int (i:Int))::[oF (.lst (iL xs)),oI n])=some (.val (.fz (.int xs[i])),J.own (.int (i:Int))::[oF (.lst (iL xs)),oI n]):=Bs (Ct (r1:=.val (.fz (.lst (iL xs)))) rfl (r2:=.val (.fz (.int (i:Int)))) rfl) rfl (ixF a1);have x2:opM Bg (m2L (Ad 0) (Ag (.int 1))) (J.own (.int (i:Int))::[oF (.lst (iL xs)),oI n])=some (.val (.fz (.int ((i:Int)+1))),J.own (.int (i:Int))::[oF (.lst (iL xs)),oI n]):=Bs (Ct (r1:=.val (.fz (.int (i:Int)))) rfl (r2:=.val (.fz (.int 1))) rfl) rfl rfl;have x3:=Bs (f:=ixA) (Ct (m1:=Ad 1) (Z:=J.own (.int (i:Int))::[oF (.lst (iL xs)),oI n]) (r1:=.val (.fz (.lst (iL xs)))) rfl x2) rfl (ixF a2);refine⟨_,Bs (Ct x1 x3) rfl (c:=.fz (.bl (decide (xs[i]<xs[i+1])))) (by simp only[ltA,on2,Bj,fzU,DR,Option.bind_some,Option.map_some,Option.some_or]),?_⟩;simp only[share,J.er,Option.map_some,nD,Int.toNat_natCast,List.getD_eq_getElem?_getD,List.getElem?_eq_getElem h1,List.getElem?_eq_getElem (show i<xs.length by lia),Option.getD_some])
 have al:=Mi (g:=fun d=>decide ((xs.getD (nD d).toNat 0)<xs.getD ((nD d).toNat+1) 0)) cm ⟨.int (0+(k:Int)),List.mem_map.mpr ⟨k,List.mem_range.mpr (by lia),rfl⟩,by
  have z0:(nD (.int (0+(k:Int)))).toNat=k:=by show((0:Int)+(k:Int)).toNat=k; lia
  rw[z0];simp only[List.getD_eq_getElem?_getD,List.getElem?_eq_getElem hk,List.getElem?_eq_getElem (show k<xs.length by lia),Option.getD_some];exact decide_eq_false h⟩
 refine Br (Z:=[oF (.lst (iL xs)),oI n]) rfl ?_;show AO [oF (.lst (iL xs)),oI n]=_;unfold AO;exact(A4 ((J3 (not_of w1)).trans rfl)).trans (BZ al)
noncomputable def NE(n:Int)(d:D):Prop:=∃os,A0 [(.own,.fz (.int n)),(.own,.fz d)]=some (.fz (.bl false),os)
theorem Nj(n:Int)(d:D):AG (Ar BA (Ab (Ad 1) Aj)) [oI n,oF d]=some (isP d,[oI n,oF d]):=CS (call_of (cons_of (r:=.val (.fz d)) rfl (nil_of _)) rfl rfl (IF .own d) rfl)
theorem EJ{n:Int}{d:D}(h:isP d=false):NE n d:=by
 have p:=Nj n d;rw[h] at p;refine⟨_,Br (Z:=[oI n,oF d]) rfl ?_⟩;show Bh [oI n,oF d]=_;unfold Bh;exact ES ((Mw (WH (not_of p))).trans (BZ rfl))
noncomputable abbrev SM(a:D)(b:Bool):Prop:=AE [(.own,.fz a)]=some (.fz (.bl b),[.fz a])
theorem Oa{n:Int}{a b:D}{v:Bool}(h:SM a v):AG (Ar AE (Ab (opM ixA (m2L (Ad 1) (Ag (.int 0)))) Aj)) [oI n,oF (.tup [a,b])]=some (v,[oI n,oF (.tup [a,b])]):=by
 have x0:opM ixA (m2L (Ad 1) (Ag (.int 0))) [oI n,oF (.tup [a,b])]=some (.val (.fz a),[oI n,oF (.tup [a,b])]):=Bs (Ct (r1:=.val (.fz (.tup [a,b]))) rfl (r2:=.val (.fz (.int 0))) rfl) rfl (RP _ _);exact CS (call_of (cons_of x0 (nil_of _)) rfl rfl h rfl)
theorem LD{n:Int}{a b:D}(h:SM a false):NE n (.tup [a,b]):=by
 have p:=Nj n (.tup [a,b]);refine⟨_,Br (Z:=[oI n,oF (.tup [a,b])]) rfl ?_⟩;show Bh [oI n,oF (.tup [a,b])]=_;unfold Bh;refine ES ((Mw (Z1:=[oI n,oF (.tup [a,b])]) ?_).trans (BZ rfl));have q:=not_of p;have q2:=not_of (Oa (n:=n) (b:=b) h);simp only[orT,q,q2,Option.bind_some];rfl
theorem TL{n:Int}{a b:D}(h:SM a true):orT (B3 (AG (Ar BA (Ab (Ad 1) Aj)))) (B3 (AG (Ar AE (Ab (opM ixA (m2L (Ad 1) (Ag (.int 0)))) Aj)))) [oI n,oF (.tup [a,b])]=some (false,[oI n,oF (.tup [a,b])]):=Qy (not_of (Nj n (.tup [a,b]))) (not_of (Oa h))
theorem EK{n:Int}{a b:D}(h:SM a true)(hr:NRi n b):NE n (.tup [a,b]):=by
 have x1:opM ixA (m2L (Ad 1) (Ag (.int 1))) [oI n,oF (.tup [a,b])]=some (.val (.fz b),[oI n,oF (.tup [a,b])]):=Bs (Ct (r1:=.val (.fz (.tup [a,b]))) rfl (r2:=.val (.fz (.int 1))) rfl) rfl (Ur _ _ _);refine⟨_,Br (Z:=[oI n,oF (.tup [a,b])]) rfl ?_⟩;show Bh [oI n,oF (.tup [a,b])]=_;unfold Bh;refine(A4 ((J3 (TL h)).trans rfl)).trans (BZ (O9 ?_));exact call_of (cons_of x1 (cons_of (r:=.val (.fz (.int n))) rfl (nil_of _))) rfl rfl hr rfl
theorem Wy{n:Int}{a:D}(h:SM a true):NE n (.tup [a,.lst []]):=by
 have hr:=LY .own .own [] n (by simp) (by simp) (by simp);have x1:opM ixA (m2L (Ad 1) (Ag (.int 1))) [oI n,oF (.tup [a,.lst []])]=some (.val (.fz (.lst [])),[oI n,oF (.tup [a,.lst []])]):=Bs (Ct (r1:=.val (.fz (.tup [a,.lst []]))) rfl (r2:=.val (.fz (.int 1))) rfl) rfl (Ur _ _ _);refine⟨_,Br (Z:=[oI n,oF (.tup [a,.lst []])]) rfl ?_⟩;show Bh [oI n,oF (.tup [a,.lst []])]=_;unfold Bh;refine(A4 ((J3 (TL h)).trans rfl)).trans (BZ (Pa (Z1:=[oI n,oF (.tup [a,.lst []])]) ?_ ?_))
 .exact call_of (cons_of x1 (cons_of (r:=.val (.fz (.int n))) rfl (nil_of _))) rfl rfl hr rfl
 .exact Bs (Ct (Bs (cons_of x1 (nil_of _)) rfl (UG [])) (r2:=.val (.fz (.int 0))) rfl) rfl rfl
noncomputable def NT(n:Int)(e:D):Prop:=Ck [(.own,.fz (.int n)),(.own,.fz e)]=some (.fz (.bl false),[.fz (.int n),.fz e])
theorem UN{n:Int}{e:D}(h:D4 e=false):NT n e:=by
 have p:AG (opM (CY D4) (m1L (Ad 1))) [oI n,oF e]=some (false,[oI n,oF e]):=CS (Bs (cons_of (r:=.val (.fz e)) rfl (nil_of _)) rfl (by simp only[CY,on1,J.er,Option.map_some,h]));refine Br (Z:=[oI n,oF e]) rfl ?_;show AM [oI n,oF e]=_;unfold AM;exact ES ((Mw (WH (not_of p))).trans (BZ rfl))
theorem TK(n:Int)(ds:List D):AG (opM (CY D4) (m1L (Ad 1))) [oI n,oF (.lst ds)]=some (true,[oI n,oF (.lst ds)]):=CS (Bs (cons_of (r:=.val (.fz (.lst ds))) rfl (nil_of _)) rfl rfl)
theorem TJ(n:Int)(ds:List D):opM DJ (Ab (Ad 1) Aj) [oI n,oF (.lst ds)]=some (.val (.fz (.int (ds.length:Int))),[oI n,oF (.lst ds)]):=Bs (cons_of (r:=.val (.fz (.lst ds))) rfl (nil_of _)) rfl (UG ds)
theorem TH(n:Int)(ds:List D):AG (Gn leA leA (Ag (.int 1)) (opM DJ (Ab (Ad 1) Aj)) (Ag (.int 6))) [oI n,oF (.lst ds)]=some (decide ((1:Int)<=(ds.length:Int))&&decide ((ds.length:Int)<=6),[oI n,oF (.lst ds)]):=
 T4 (x:=.fz (.int 1)) rfl (TJ n ds) (w:=.fz (.int 6)) rfl (by simp only[leA,on2,Bj,fzU,DR,Option.bind_some,Option.map_some,Option.some_or]) (by simp only[leA,on2,Bj,fzU,DR,Option.bind_some,Option.map_some,Option.some_or])
theorem Ki{n:Int}{ds:List D}(h:ds.length=0\/6<ds.length):NT n (.lst ds):=by
 have c:=TH n ds;have e:(decide ((1:Int)<=(ds.length:Int))&&decide ((ds.length:Int)<=6))=false:=by
  rw[Bool.eq_false_iff];intro z;rw[Bool.and_eq_true,decide_eq_true_iff,decide_eq_true_iff] at z;lia
 rw[e] at c;refine Br (Z:=[oI n,oF (.lst ds)]) rfl ?_;show AM [oI n,oF (.lst ds)]=_;unfold AM;refine ES ((Mw (Z1:=[oI n,oF (.lst ds)]) ?_).trans (BZ rfl));simp only[orT,not_of (TK n ds),not_of c,Option.bind_some];rfl
theorem N8{n:Int}{ds:List D}(l1:1<=ds.length)(l2:ds.length<=6):orT (B3 (AG (opM (CY D4) (m1L (Ad 1))))) (B3 (AG (Gn leA leA (Ag (.int 1)) (opM DJ (Ab (Ad 1) Aj)) (Ag (.int 6))))) [oI n,oF (.lst ds)]=some (false,[oI n,oF (.lst ds)]):=by
 have c:=TH n ds;have e:(decide ((1:Int)<=(ds.length:Int))&&decide ((ds.length:Int)<=6))=true:=by
  rw[Bool.and_eq_true,decide_eq_true_iff,decide_eq_true_iff]; lia
 rw[e] at c;exact Qy (not_of (TK n ds)) (not_of c)
theorem Rq{n:Int}{ds:List D}{g:D->Bool}(l2:ds.length<=6)(he:∀d∈ds,∃os,A0 [(.own,.fz (.int n)),(.own,.fz d)]=some (.fz (.bl (g d)),os)):Bn (De (Ad 1)) 0 Dw (Ar A0 (Ab (Ad 1) (Ab (Ad 0) Aj))) [oI n,oF (.lst ds)]=some (.val (.lst ((ds.map fun d=>D.bl (g d)).map A.fz)),[oI n,oF (.lst ds)]):=by
 have hlim:1000<=LIM:=by decide
 have it:De (Ad 1) [oI n,oF (.lst ds)]=some (ds,none,[oI n,oF (.lst ds)]):=rfl;refine Eu (e:=(Ar A0 (Ab (Ad 1) (Ab (Ad 0) Aj)))) (f:=fun d=>.bl (g d)) it (by lia) fun d hd=>?_;obtain⟨os,e⟩:=he d hd;exact⟨.val (.fz (.bl (g d))),call_of (cons_of (r:=.val (.fz (.int n))) rfl (cons_of (r:=.val (.fz d)) rfl (nil_of _))) rfl rfl e (Pd [.fz (.int n),.fz d] os _),rfl⟩
theorem UM{n:Int}{ds:List D}{g:D->Bool}(l1:1<=ds.length)(l2:ds.length<=6)(he:∀d∈ds,∃os,A0 [(.own,.fz (.int n)),(.own,.fz d)]=some (.fz (.bl (g d)),os))(hx:∃d∈ds,g d=false):NT n (.lst ds):=by
 have al:=Mi (Rq l2 he) hx;refine Br (Z:=[oI n,oF (.lst ds)]) rfl ?_;show AM [oI n,oF (.lst ds)]=_;unfold AM;refine(A4 ((J3 (N8 l1 l2)).trans rfl)).trans ?_;exact ES ((Mw (not_of (CS al))).trans (BZ rfl))
theorem NF{n:Int}{ls:List (Nat×List Int)}(l2:ls.length<=6)(he:∀p∈ls,∃os,A0 [(.own,.fz (.int n)),(.own,.fz (ld p))]=some (.fz (.bl true),os)){k:Nat}(hk:k+1<ls.length)(h:¬(ls[k]'(by lia)).1<(ls[k+1]).1):NT n (.lst (ls.map ld)):=by
 have hlim:1000<=LIM:=by decide
 have cm:=Rq (n:=n) (ds:=ls.map ld) (g:=fun _=>true) (by simpa using l2) (fun d hd=>by
  obtain⟨p,hp,rfl⟩:=List.mem_map.mp hd;exact he p hp)
 have al:opM EG (Ab (Bn (De (Ad 1)) 0 Dw (Ar A0 (Ab (Ad 1) (Ab (Ad 0) Aj)))) Aj) [oI n,oF (.lst (ls.map ld))]=some (.val (.fz (.bl true)),[oI n,oF (.lst (ls.map ld))]):=by
  have eb:=Et (ls.map ld) fun _=>true;have ea:((ls.map ld).map fun _=>true).all id=true:=by simp
  exact Bs (cons_of cm (nil_of _)) rfl (by simp only[EG,on1,Co,Bp,eb,Option.bind_some,Option.map_some,ea])
 have l2':=Bs (f:=He) (Ct (TJ n (ls.map ld)) (m2:=Ag (.int 1)) (r2:=.val (.fz (.int 1))) rfl) rfl rfl;rw[List.length_map] at l2';have rg:=LU l2' (by lia) (by lia);have cm2:=Eu (e:=(opM ltA (m2L (opM ixA (m2L (opM ixA (m2L (Ad 2) (Ad 0))) (Ag (.int 0)))) (opM ixA (m2L (opM ixA (m2L (Ad 2) (opM Bg (m2L (Ad 0) (Ag (.int 1)))))) (Ag (.int 0))))))) (f:=fun d=>.bl (decide ([((ls.map (·.1)).getD (nD d).toNat 0)] < [(ls.map (·.1)).getD ((nD d).toNat+1) 0]))) rg (by rw[Hh]; lia) (fun d hd=>by
  obtain⟨i,hi⟩:=List.mem_iff_getElem?.mp hd;obtain⟨rfl,hi⟩:=Gi hi;have h1:i+1<ls.length:=by lia
  have h0:i<ls.length:=by lia
  have z0:(0:Int)+(i:Int)=(i:Int):=by lia
  rw[z0];have a1:=Cb (xs:=ls.map ld) (i:=(i:Int)) (k:=i) rfl (by simpa using h0);have a2:=Cb (xs:=ls.map ld) (i:=(i:Int)+1) (k:=i+1) (by lia) (by simpa using h1);rw[List.getElem_map] at a1 a2;have x1:opM ixA (m2L (Ad 2) (Ad 0)) (J.own (.int (i:Int))::[oI n,oF (.lst (ls.map ld))])=some (.val (.fz (ld ls[i])),J.own (.int (i:Int))::[oI n,oF (.lst (ls.map ld))]):=Bs (Ct (r1:=.val (.fz (.lst (ls.map ld)))) rfl (r2:=.val (.fz (.int (i:Int)))) rfl) rfl (ixF a1);have x2:opM Bg (m2L (Ad 0) (Ag (.int 1))) (J.own (.int (i:Int))::[oI n,oF (.lst (ls.map ld))])=some (.val (.fz (.int ((i:Int)+1))),J.own (.int (i:Int))::[oI n,oF (.lst (ls.map ld))]):=Bs (Ct (r1:=.val (.fz (.int (i:Int)))) rfl (r2:=.val (.fz (.int 1))) rfl) rfl rfl;have x3:=Bs (f:=ixA) (Ct (m1:=Ad 2) (Z:=J.own (.int (i:Int))::[oI n,oF (.lst (ls.map ld))]) (r1:=.val (.fz (.lst (ls.map ld)))) rfl x2) rfl (ixF a2);have y1:=Bs (f:=ixA) (Ct x1 (m2:=Ag (.int 0)) (r2:=.val (.fz (.int 0))) rfl) rfl (RP (chD (ls[i]).1) [.lst (iL (ls[i]).2)]);have y3:=Bs (f:=ixA) (Ct x3 (m2:=Ag (.int 0)) (r2:=.val (.fz (.int 0))) rfl) rfl (RP (chD (ls[i+1]).1) [.lst (iL (ls[i+1]).2)]);refine⟨_,Bs (Ct y1 y3) rfl (c:=.fz (.bl (decide ([(ls[i]).1] < [(ls[i+1]).1])))) (by simp only[ltA,on2,Bj,CD,Fz,fzU,DR,chD,Option.bind_some,Option.bind_none,Option.map_some,Option.none_or]),?_⟩;simp only[share,J.er,Option.map_some,nD,Int.toNat_natCast,List.getD_eq_getElem?_getD,List.getElem?_map,List.getElem?_eq_getElem h1,List.getElem?_eq_getElem h0,Option.getD_some])
 have al2:=Mi (g:=fun d=>decide ([((ls.map (·.1)).getD (nD d).toNat 0)] < [(ls.map (·.1)).getD ((nD d).toNat+1) 0])) cm2 ⟨.int (0+(k:Int)),List.mem_map.mpr ⟨k,List.mem_range.mpr (by lia),rfl⟩,by
  have z0:(nD (.int (0+(k:Int)))).toNat=k:=by show((0:Int)+(k:Int)).toNat=k; lia
  rw[z0];simp only[List.getD_eq_getElem?_getD,List.getElem?_map,List.getElem?_eq_getElem hk,List.getElem?_eq_getElem (show k<ls.length by lia),Option.map_some,Option.getD_some];exact decide_eq_false fun z=>h ((Ke _ _).mp z)⟩
 refine Br (Z:=[oI n,oF (.lst (ls.map ld))]) rfl ?_;show AM [oI n,oF (.lst (ls.map ld))]=_;unfold AM;refine(A4 ((J3 (N8 (by simp only[List.length_map]; lia) (by simpa using l2))).trans rfl)).trans ?_;exact(A4 ((J3 (not_of (CS al))).trans rfl)).trans (BZ al2)
noncomputable def NHs(d:D):Prop:=BS [(.own,.fz d)]=some (.fz (.bl false),[.fz d])
theorem Kh{d:D}(h:isP d=false):NHs d:=by
 have p:=IF .own d;rw[h] at p;refine Br (Z:=[oF d]) rfl ?_;show BG [oF d]=_;unfold BG;exact ES ((Mw (not_of (CS (b:=false) (call_of (cons_of (r:=.val (.fz d)) rfl (nil_of _)) rfl rfl p rfl)))).trans (BZ rfl))
theorem N9(x e:D):ifS (B3 (AG (Ar BA (Ab (Ad 0) Aj)))) (retS (Ag (.bl false))) Bf [oF (.tup [x,e])]=some (.next [oF (.tup [x,e])]):=(J3 (not_of (CS (b:=true) (call_of (cons_of (r:=.val (.fz (.tup [x,e]))) rfl (nil_of _)) rfl rfl (Hb .own x e) rfl)))).trans rfl
theorem V6(x e:D):opM ixA (m2L (Ad 0) (Ag (.int 0))) [oF (.tup [x,e])]=some (.val (.fz x),[oF (.tup [x,e])]):=Bs (Ct (r1:=.val (.fz (.tup [x,e]))) rfl (r2:=.val (.fz (.int 0))) rfl) rfl (RP _ _)
theorem Qp{x e:D}(h:AS [(.own,.fz x)]=some (.fz (.bl false),[.fz x])):NHs (.tup [x,e]):=by
 refine Br (Z:=[oF (.tup [x,e])]) rfl ?_;show BG [oF (.tup [x,e])]=_;unfold BG;exact(A4 (N9 x e)).trans (BZ (O9 (call_of (cons_of (V6 x e) (nil_of _)) rfl rfl h rfl)))
theorem Eg{n:Int}{e:D}(n1:2<=n)(n2:n<=4)(h:NT n e):NHs (.tup [.int n,e]):=by
 have c:=NX .own n n1 n2;have x1:opM ixA (m2L (Ad 0) (Ag (.int 1))) [oF (.tup [.int n,e])]=some (.val (.fz e),[oF (.tup [.int n,e])]):=Bs (Ct (r1:=.val (.fz (.tup [.int n,e]))) rfl (r2:=.val (.fz (.int 1))) rfl) rfl (Ur _ _ _);refine Br (Z:=[oF (.tup [.int n,e])]) rfl ?_;show BG [oF (.tup [.int n,e])]=_;unfold BG;refine(A4 (N9 _ e)).trans (BZ (Pa (call_of (cons_of (V6 _ e) (nil_of _)) rfl rfl c rfl) ?_));exact call_of (cons_of (V6 _ e) (cons_of x1 (nil_of _))) rfl rfl h rfl
noncomputable def UQ:List D:=[.non,.bl true,.int 0,.str (Str.ofString ""),.lst [],.tup [],.int (10 ^ 39),.int (-1),.str (Str.ofString "a"),.lst [.int 0],.tup [.int 0]]
theorem UR:∀o∈UQ,isP o=false:=by
 intro o ho;simp only[UQ,List.mem_cons,List.not_mem_nil,or_false] at ho;rcases ho with rfl|rfl|rfl|rfl|rfl|rfl|rfl|rfl|rfl|rfl|rfl<;>rfl
noncomputable abbrev eNh(as:List A)(h:Hs)(o:D)(k:Int)(a:Nat)(p:Nat×List Int)(w:Int)(x10 x11:Slot):Ro:=[some (.lent,.lst as),oF h.d,oI h.n,oF (.lst (h.ls.map ld)),oF o,oI k,oI (a:Int),oF (chD p.1),oF (.lst (iL p.2)),oI w,x10,x11]
theorem Gk{a b:A}{xs ys:List D}(ha:Co a=some xs)(hb:Co b=some ys)(hi:Bj a=none)(hs:CD a=none)(hl:xs.length+ys.length<=1000):Bg [a,b]=some (.lst ((xs++ys).map A.fz)):=by
 have hlim:1000<=LIM:=by decide
 have hc:xs.length+ys.length<=LIM:=by lia
 simp only[Bg,on2,hi,hs,ha,hb,Option.bind_none,Option.none_or,Option.bind_some,if_pos hc]
theorem N7{ds:List D}(hl:ds.length<=1000):OZ [.fz (.lst ds)]=some (.fz (.tup ds)):=by
 have hlim:1000<=LIM:=by decide
 have hc:ds.length<=LIM:=by lia
 simp only[OZ,on1,Co,Option.bind_some,if_pos hc]
theorem T5(ds:List D)(k:Nat):cutD ds none (some (k:Int))=ds.take k:=by
 unfold cutD;rw[HT.NV,HT.LW,List.drop_zero,Nat.sub_zero];by_cases q:k<=ds.length
 .rw[Nat.min_eq_left q]
 .rw[Nat.min_eq_right (by lia),List.take_of_length_le (by lia),List.take_of_length_le (by lia)]
theorem Mm(ds:List D)(k:Nat):cutD ds (some (k:Int)) none=ds.drop k:=by
 unfold cutD;rw[HT.NV,HT.LW];by_cases q:k<=ds.length
 .rw[Nat.min_eq_left q,List.take_of_length_le (by rw[List.length_drop]; lia)]
 .rw[Nat.min_eq_right (by lia),Nat.sub_self,List.take_zero,List.drop_of_length_le (by lia)]
section
variable{as:List A}{h:Hs}{o:D}{k:Int}{a:Nat}{p:Nat×List Int}{w:Int}
theorem Il(ok:h.Ok):∀q∈h.ls,∃os,A0 [(.own,.fz (.int h.n)),(.own,.fz (ld q))]=some (.fz (.bl true),os):=fun q hq=>by
 obtain⟨h0,hr,hb⟩:=ok.hs q hq;exact⟨_,NY .own .own h.n q (ok.ch q hq) (by have:=ok.hl q hq; lia) h0 hr hb⟩
theorem ML(ok:h.Ok)(ha:a<h.ls.length){e:D}(he:NE h.n e):NT h.n (.lst ((h.ls.map ld).take a++[e]++(h.ls.map ld).drop (a+1))):=by
 classical
 have l1:=ok.l1;have l2:=ok.l2;have ll:((h.ls.map ld).take a++[e]++(h.ls.map ld).drop (a+1)).length=h.ls.length:=by simp; lia
 refine UM (g:=fun d=>!decide (d=e)) (by rw[ll]; lia) (by rw[ll]; lia) (fun d hd=>?_) ⟨e,by simp,by simp⟩;by_cases q:d=e
 .subst q
  obtain⟨os,z⟩:=he;exact⟨os,by simpa using z⟩
 .have:d∈h.ls.map ld:=by
   simp only[List.append_assoc,List.mem_append,List.mem_singleton] at hd;rcases hd with z|z|z
   .exact List.mem_of_mem_take z
   .exact absurd z q
   .exact List.mem_of_mem_drop z
  obtain⟨r,hr,rfl⟩:=List.mem_map.mp this;obtain⟨os,z⟩:=Il ok r hr;exact⟨os,by simpa[q] using z⟩
theorem WX(ok:h.Ok){q:Nat×List Int}(hq:q∈h.ls):SM (chD q.1) true:=KH .own q.1 (ok.ch q hq)
noncomputable def smL:List D:=[.str (Str.ofString ""),.str (Str.ofString "A"),.str (Str.ofString "ab"),.str (Str.ofString "-"),.str (Str.ofString "1"),.non,.int 5,.tup [.str (Str.ofString "a")]]
theorem WY:∀x∈smL,SM x false:=by
 intro x hx;simp only[smL,List.mem_cons,List.not_mem_nil,or_false] at hx;rcases hx with rfl|rfl|rfl|rfl|rfl|rfl|rfl|rfl<;>rfl
noncomputable def ctL:List D:=[.int 1,.int 5,.int 0,.int (-1),.bl true,.str (Str.ofString "2"),.non,.int (10 ^ 39)]
theorem Wk:∀x∈ctL,AS [(.own,.fz x)]=some (.fz (.bl false),[.fz x]):=by
 intro x hx;simp only[ctL,List.mem_cons,List.not_mem_nil,or_false] at hx;rcases hx with rfl|rfl|rfl|rfl|rfl|rfl|rfl|rfl<;>rfl
noncomputable def TY(n:Int)(xs:List Int):List D:=[.lst [],.lst (iL (xs++xs)),.lst (iL (xs++[n])),.lst (iL (-1::xs)),.tup (iL xs),.lst [.bl true],.non,.str (Str.ofString "0")]
theorem TZ(ok:h.Ok)(hp:p∈h.ls):∀b∈TY h.n p.2,NE h.n (.tup [chD p.1,b]):=by
 obtain⟨h0,hr,hb⟩:=ok.hs p hp;have hl:=ok.hl p hp;have n1:=ok.n1;have sm:=WX ok hp;have pos:=List.length_pos_iff.mpr h0;intro b hb';simp only[TY,List.mem_cons,List.not_mem_nil,or_false] at hb';rcases hb' with rfl|rfl|rfl|rfl|rfl|rfl|rfl|rfl
 .exact Wy sm
 .refine EK sm (R6 (by simp; lia) (k:=p.2.length-1) (by simp; lia) ?_ (fun x hx=>hb x (by simpa using hx)))
  rw[List.getElem_append_left (by lia),List.getElem_append_right (by lia)];intro z;by_cases q:p.2.length=1
  .have e1:(p.2.length-1+1-p.2.length)=p.2.length-1:=by lia
   simp only[e1] at z;exact Int.lt_irrefl _ z
  .have:=List.pairwise_iff_getElem.mp hr (p.2.length-1+1-p.2.length) (p.2.length-1) (by lia) (by lia) (by lia)
   lia
 .exact EK sm (Qr (by simp; lia) ⟨h.n,by simp,by lia⟩)
 .exact EK sm (Qr (by simp; lia) ⟨-1,by simp,by lia⟩)
 .exact EK sm (MK rfl)
 .exact EK sm Wz
 .exact EK sm (MK rfl)
 .exact EK sm (MK rfl)
noncomputable def UP(o:D)(p:Nat×List Int):List D:=[.lst [chD p.1,.lst (iL p.2)],.tup [chD p.1],.tup [chD p.1,.lst (iL p.2),o],chD p.1,.non,.int 3,.tup [],.tup [.lst (iL p.2),chD p.1]]
theorem R7(n:Int):∀e∈UP o p,NE n e:=by
 intro e he;simp only[UP,List.mem_cons,List.not_mem_nil,or_false] at he;rcases he with rfl|rfl|rfl|rfl|rfl|rfl|rfl|rfl
 .exact EJ rfl
 .exact EJ rfl
 .exact EJ rfl
 .exact EJ rfl
 .exact EJ rfl
 .exact EJ rfl
 .exact EJ rfl
 .exact LD rfl
end
section
variable{as:List A}{h:Hs}{o:D}{a:Nat}{p:Nat×List Int}{w:Int}
theorem F1{xs ys:List D}(hl:xs.length+ys.length<=1000):Bg [.lst (xs.map A.fz),.lst (ys.map A.fz)]=some (.lst ((xs++ys).map A.fz)):=Gk (by simp only[Co,Bp]) (by simp only[Co,Bp]) rfl rfl hl
theorem RF(ds:List D)(k:Nat):cutD ds (some ((k:Int)+1)) none=ds.drop (k+1):=Mm ds (k+1)
end
theorem M8{N:Nat}{as:List A}{h:Hs}(ok:h.Ok)(hb:Bag N as)(hN:N<=1000):∃d as' a2,NHs d/\Bag (N+4) as'/\Bv [(.lent,.lst as),(.own,.fz h.d)]=some (.fz d,[.lst as',a2]):=by
 have l1:=ok.l1;have l2:=ok.l2
 suffices hh:FV Bv [(.lent,.lst as),(.own,.fz h.d)] fun x os=>∃d as' a2,NHs d/\Bag (N+4) as'/\x=.fz d/\os=[.lst as',a2] by
  obtain⟨x,os,e,d,as',a2,h1,h2,rfl,rfl⟩:=hh;exact⟨d,as',a2,h1,h2,e⟩
 obtain⟨o1,as1,g1,g2,b1,t1⟩:=D6 hb (by lia) 11 (by lia) (by lia);obtain⟨k0,as2,k1,k2,b2,t2⟩:=D6 b1 (by lia) 12 (by lia) (by lia);obtain⟨a0,as3,a1,a2,b3,t3⟩:=D6 b2 (by lia) ((h.ls.map ld).length:Int) (by rw[List.length_map]; lia) (by rw[List.length_map]; lia);rw[List.length_map] at a2;obtain⟨w,as4,w0,w1,b4,t4⟩:=D6 b3 (by lia) 8 (by lia) (by lia);obtain⟨a,rfl⟩:∃a:Nat,a0=(a:Int):=⟨a0.toNat,by lia⟩;obtain⟨k,rfl⟩:∃k:Nat,k0=(k:Int):=⟨k0.toNat,by lia⟩;have ha:a<h.ls.length:=by lia
 obtain⟨o,ho,e1⟩:=Lq (L:=UQ) g1 g2;refine D1 rfl rfl ?_;show SV C5 [some (.lent,.lst as),oF h.d,none,none,none,none,none,none,none,none,none,none] _;unfold C5;walk_at "wp";refine CT t1 ?_;walk_at "wp";refine⟨_,e1,?_⟩;refine⟨_,_,rfl,rfl,AJ ?_⟩;show SV _ [some (.lent,.lst as1),oF h.d,oI h.n,oF (.lst (h.ls.map ld)),oF o,none,none,none,none,none,none,none] _;walk_at "wp";refine CT t2 ?_;refine⟨_,_,rfl,rfl,AJ ?_⟩;show SV _ [some (.lent,.lst as2),oF h.d,oI h.n,oF (.lst (h.ls.map ld)),oF o,oI (k:Int),none,none,none,none,none,none] _;walk_at "wp";refine CT t3 ?_;refine⟨_,_,rfl,rfl,AJ ?_⟩;show SV _ [some (.lent,.lst as3),oF h.d,oI h.n,oF (.lst (h.ls.map ld)),oF o,oI (k:Int),oI (a:Int),none,none,none,none,none] _;walk_at "wp";refine⟨_,ixF (by rw[Cb (k:=a) rfl (by simpa using ha),List.getElem_map]),?_⟩;refine⟨_,_,rfl,_,rfl,_,rfl,AJ ?_⟩;show SV _ [some (.lent,.lst as3),oF h.d,oI h.n,oF (.lst (h.ls.map ld)),oF o,oI (k:Int),oI (a:Int),oF (chD (h.ls[a]).1),oF (.lst (iL (h.ls[a]).2)),none,none,none] _;walk_at "wp";refine CT t4 ?_;refine⟨_,_,rfl,rfl,AJ ?_⟩;show SV _ (eNh as4 h o (k:Int) a h.ls[a] w none none) _;obtain⟨p,hp⟩:∃p,h.ls[a]=p:=⟨_,rfl⟩;rw[hp];refine SS (QS:=fun f=>∃d x10 x11,NHs d/\f=.ret (.fz d) (eNh as4 h o (k:Int) a p w x10 x11)) ?_ fun f hf=>?_
 .have n1:=ok.n1
  have n2:=ok.n2;have hpm:p∈h.ls:=hp ▸ List.getElem_mem ha;have hpl:=ok.hl p hpm;have tl:OZ [.fz (.lst (h.ls.map ld))]=some (.fz (.tup (h.ls.map ld))):=N7 (by simp; lia);clear t1 t2 t3 t4 e1 b1 b2 b3 g1 g2;have c1:=T5 (h.ls.map ld) a;have c2:=RF (h.ls.map ld) a
  match k,(show k<12 by lia) with
  | 0,_ =>
   walk_at "wp";exact⟨_,_,_,Kh (UR o ho),rfl⟩
  | 1,_ =>
   walk_at "wp";exact⟨_,_,_,Kh rfl,rfl⟩
  | 2,_ =>
   walk_at "wp";exact⟨_,_,_,Kh rfl,rfl⟩
  | 3,_ =>
   obtain⟨d,hd,e⟩:=Lq (L:=ctL) w0 w1;walk_at "wp";refine⟨_,e,?_⟩;walk_at "wp";exact⟨_,_,_,Qp (Wk d hd),rfl⟩
  | 4,_ =>
   walk_at "wp";refine⟨_,tl,?_⟩;walk_at "wp";exact⟨_,_,_,Eg n1 n2 (UN rfl),rfl⟩
  | 5,_ =>
   walk_at "wp";refine⟨_,tl,?_⟩;walk_at "wp";exact⟨_,_,_,Eg n1 n2 (Ki (.inl rfl)),rfl⟩
  | 6,_ =>
   walk_at "wp";refine⟨_,ixF (by rw[Cb (k:=a) rfl (by simpa using ha),List.getElem_map,hp]),?_⟩;walk_at "wp";refine⟨_,(Gk rfl rfl rfl rfl (by simp; lia):Bg [.fz (.lst (h.ls.map ld)),.lst [.fz (ld p)]]=some (.lst ((h.ls.map ld++[ld p]).map A.fz))),?_⟩;refine⟨_,_,Bw _ _,?_⟩;walk_at "wp";refine⟨_,_,_,Eg n1 n2 ?_,rfl⟩;have ea:h.ls.map ld++[ld p]=(h.ls++[p]).map ld:=by rw[List.map_append]; rfl
   rw[ea];by_cases q5:h.ls.length=6
   .exact Ki (.inr (by simp; lia))
   .refine NF (k:=h.ls.length-1) (by simp; lia) (fun r hr=>Il ok r (by rcases List.mem_append.mp hr with z|z; exact z; simp only[List.mem_singleton] at z; subst z; exact hpm)) (by simp; lia) ?_
    rw[List.getElem_append_left (by lia)];have e1:(h.ls++[p])[h.ls.length-1+1]'(by simp; lia)=p:=by
     rw[List.getElem_append_right (by lia)]; simp
    rw[e1];intro z;by_cases q6:a=h.ls.length-1
    .subst q6; rw[hp] at z; lia
    .have:=List.pairwise_iff_getElem.mp ok.ri a (h.ls.length-1) (by simp; lia) (by simp; lia) (by lia)
     simp only[List.getElem_map,hp] at this;lia
  | 7,_ =>
   obtain⟨d,hd,e⟩:=Lq (L:=smL) w0 w1;walk_at "wp";refine⟨_,e,?_⟩;walk_at "wp";refine⟨_,F1 (xs:=cutD (h.ls.map ld) none (some (a:Int))) (ys:=[_]) (by rw[c1]; simp; lia),?_⟩;walk_at "wp";refine⟨_,F1 (ys:=cutD (h.ls.map ld) (some ((a:Int)+1)) none) (by rw[c1,c2]; simp; lia),?_⟩;refine⟨_,_,Bw _ _,?_⟩;rw[c1,c2];walk_at "wp";exact⟨_,_,_,Eg n1 n2 (ML ok ha (LD (b:=.lst (iL p.2)) (WY d hd))),rfl⟩
  | 8,_ =>
   have il:∀xs ys:List Int,iL xs++iL ys=iL (xs++ys):=fun xs ys=>by simp[iL]
   obtain⟨d,hd,e⟩:=Lq (L:=TY h.n p.2) w0 w1;walk_at "wp";refine⟨_,(Gk rfl rfl rfl rfl (by rw[Cr]; lia):Bg [.fz (.lst (iL p.2)),.fz (.lst (iL p.2))]=some (.lst ((iL p.2++iL p.2).map A.fz))),?_⟩;rw[il];refine⟨_,_,Bw _ _,?_⟩;walk_at "wp";refine⟨_,(Gk rfl rfl rfl rfl (by rw[Cr]; simp; lia):Bg [.fz (.lst (iL p.2)),.lst [.fz (.int h.n)]]=some (.lst ((iL p.2++iL [h.n]).map A.fz))),?_⟩;rw[il];refine⟨_,_,Bw _ _,?_⟩;walk_at "wp";refine⟨_,(Gk rfl rfl rfl rfl (by rw[Cr]; simp; lia):Bg [.lst [.fz (.int (-1))],.fz (.lst (iL p.2))]=some (.lst ((iL [-1]++iL p.2).map A.fz))),?_⟩;rw[il];refine⟨_,_,Bw _ _,?_⟩;walk_at "wp";refine⟨_,N7 (by rw[Cr]; lia),?_⟩;walk_at "wp";refine⟨_,e,?_⟩;walk_at "wp";refine⟨_,F1 (xs:=cutD (h.ls.map ld) none (some (a:Int))) (ys:=[_]) (by rw[c1]; simp; lia),?_⟩;walk_at "wp";refine⟨_,F1 (ys:=cutD (h.ls.map ld) (some ((a:Int)+1)) none) (by rw[c1,c2]; simp; lia),?_⟩;refine⟨_,_,Bw _ _,?_⟩;rw[c1,c2];walk_at "wp";exact⟨_,_,_,Eg n1 n2 (ML ok ha (TZ ok hpm d hd)),rfl⟩
  | 9,_ =>
   obtain⟨d,hd,e⟩:=Lq (L:=UP o p) w0 w1;walk_at "wp";refine⟨_,e,?_⟩;walk_at "wp";refine⟨_,F1 (xs:=cutD (h.ls.map ld) none (some (a:Int))) (ys:=[_]) (by rw[c1]; simp; lia),?_⟩;walk_at "wp";refine⟨_,F1 (ys:=cutD (h.ls.map ld) (some ((a:Int)+1)) none) (by rw[c1,c2]; simp; lia),?_⟩;refine⟨_,_,Bw _ _,?_⟩;rw[c1,c2];walk_at "wp";exact⟨_,_,_,Eg n1 n2 (ML ok ha (R7 h.n d hd)),rfl⟩
  | 10,_ =>
   have hr:∀c:Bool,ND [.lst ((h.ls.map ld).reverse.map A.fz),.fz (.int (if c then 1 else 0))]=some (.lst ((if c then (h.ls.map ld).reverse else []).map A.fz)):=fun c=>by
    have hc:0<=(if c then (1:Int) else 0)/\(if c then (1:Int) else 0)<=1000/\(h.ls.map ld).reverse.length<=1000:=⟨by split<;>lia,by split<;>lia,by simp; lia⟩;simp only[ND,on2,Bj,fzU,DR,Co,Bp,Option.bind_some];rw[if_pos hc];cases c<;>simp
   walk_at "wp";refine⟨_,hr _,?_⟩;refine⟨_,_,Bw _ _,?_⟩;walk_at "wp";refine⟨_,_,_,Eg n1 n2 ?_,rfl⟩;by_cases qb:1<h.ls.length
   .rw[if_pos (by simp; lia)]
    rw[<- List.map_reverse];refine NF (k:=0) (by simpa using l2) (fun r hr=>Il ok r (by simpa using hr)) (by simpa using qb) ?_;rw[List.getElem_reverse,List.getElem_reverse];intro z;have:=List.pairwise_iff_getElem.mp ok.ri (h.ls.length-1-(0+1)) (h.ls.length-1-0) (by simp; lia) (by simp; lia) (by lia);simp only[List.getElem_map] at this;lia
   .rw[if_neg (by simp; lia)]
    exact Ki (.inl rfl)
  | 11,_ =>
   walk_at "wp";refine HR (fun d=>some (.tup [d,.lst [.int 0]])) ((Hd (Str.ofString "abcdefg")).map fun d=>.tup [d,.lst [.int 0]]) (Uq ?_);walk_at "wp";refine⟨by decide,by rw[<- List.filterMap_eq_map]; rfl,fun d hd=>⟨[d],rfl,?_⟩,?_⟩
   .walk_at "wp"
    rfl
   refine⟨_,_,Bw _ _,?_⟩;walk_at "wp";exact⟨_,_,_,Eg n1 n2 (Ki (.inr dK)),rfl⟩
 .obtain⟨d,x10,x11,hd,rfl⟩:=hf
  walk_at "wp";exact⟨d,as4,_,hd,b4,rfl,rfl⟩
local macro_rules | `(tactic| walk_at "wp1")=>`(tactic| first
 | (with_reducible refine CF ?_)|(with_reducible refine AJ ?_)|(with_reducible refine Ft ?_)|(with_reducible refine EW ?_)|(with_reducible refine DN ?_)|(with_reducible refine EX ?_)|(with_reducible refine FE ?_)|(with_reducible refine Ei ?_)|(with_reducible refine FF ?_)|(with_reducible refine FD ?_)|(with_reducible refine FC ?_)|(with_reducible refine Ed ?_)|(with_reducible refine DC ?_)
 | (with_reducible refine Ew ?_)|(with_reducible refine Ec ?_)|(with_reducible refine DB ?_)|(with_reducible refine Cj ?_)|(with_reducible refine Fc ?_)|(with_reducible refine Ho ?_)|(with_reducible refine Fg ?_)|(with_reducible refine Fd ?_)|(with_reducible refine Ff ?_)|(with_reducible refine Fh ?_)
 | (with_reducible refine GO ?_)|(with_reducible refine JK ?_)|(with_reducible refine BB ?_)|(with_reducible refine Dm ?_)
 | (with_reducible refine EY ?_)|(with_reducible refine D8 ?_)|(with_reducible refine D7 ?_)|(with_reducible refine Hu ?_)|(with_reducible refine FG ?_)
 | (with_reducible refine Dx ?_)|(with_reducible refine Ef ?_)|(with_reducible refine EI ?_)|(with_reducible refine Eh ?_)
 | ((with_reducible apply CI); · rfl)
 | ((with_reducible refine Exists.intro _ (And.intro (CU ?_) ?_)); · rfl)
 | ((with_reducible apply ex1); · rfl)|((with_reducible apply ex2); · rfl)|((with_reducible apply ex3); · rfl)|((with_reducible apply ex0); · rfl)|((with_reducible refine And.intro ?_ ?_); · rfl)|((with_reducible refine Hr ?_ ?_); · rfl)|((with_reducible refine Hq ?_ ?_); · rfl))
local macro_rules | `(tactic| walk_at "wp")=>`(tactic| repeat walk_at "wp1")
theorem Ub{m e:ME}{Z:Ro}{Q:R->Ro->Prop}(xs:List D)(G:D->A)(h:EV m Z fun r Z1=>∃x,peek Z1 r=some x/\AI x=some xs/\xs.length<=100000/\(∀d,d∈xs->EV e (J.own d::lock Z1 (nameOf r)) fun r2 Z3=>r2=.val (G d)/\Z3=J.own d::lock Z1 (nameOf r))/\Q (.val (.lst (xs.map G))) (unlock Z1 (lock Z1 (nameOf r)) (nameOf r))):EV (Jo (De m) 0 Dw e) Z Q:=by
 obtain⟨r,Z1,e1,x,hx,hi,hl,hs,q⟩:=h;have hL:100000<=LIM:=by decide
 have key:∀ys:List D,(∀d∈ys,d∈xs)->E8 0 Dw e ys (lock Z1 (nameOf r))=some (ys.map G,lock Z1 (nameOf r)):=by
  intro ys;induction ys with
  | nil=>intro _; rfl
  | cons d ys ih =>
   intro hy;obtain⟨r2,Z3,e3,rfl,rfl⟩:=hs d (hy d List.mem_cons_self);have ih:=ih fun k hk=>hy k (List.mem_cons_of_mem _ hk);simp only[E8,Kt,Option.bind_some,Dw,if_true,List.map_cons,List.map_nil,List.cons_append,List.nil_append,e3,List.length_cons,List.length_nil,Nat.zero_add,List.drop_succ_cons,List.drop_zero,ih,Option.map_some]
 have hk:=key xs fun d hd=>hd;have hl2:xs.length<=LIM:=by lia
 refine⟨_,_,?_,q⟩;simp only[Jo,De,e1,hx,hi,Option.bind_some,Option.map_some,hl2,if_true,hk]
theorem HS{f:Str->List A->Option A}{m m2:ME}{Z:Ro}{Q:R->Ro->Prop}(h:EV m Z fun r Z1=>∃z,r=.val (.fz (.str z))/\EV m2 Z1 fun r2 Z2=>∃a,peek Z2 r2=some a/\∃x,f z [a]=some x/\Q (.val x) Z2):EV (Gh f m (m1L m2)) Z Q:=by
 obtain⟨r,Z1,e,z,rfl,r2,Z2,e2,a,e3,x,e4,q⟩:=h;exact⟨_,_,by simp only[Gh,e,m1L,Ab,Aj,e2,Option.bind_some,Option.map_some,peeks,e3,e4],q⟩
noncomputable def dg(i:Int):Str:=⟨#[48+i.toNat]⟩
theorem Gq:∀n∈List.range 5,Str.ofString (toString ((n:Nat):Int))=⟨#[48+n]⟩/\intText? ⟨#[48+n]⟩=some (n:Int):=by decide +kernel
theorem SN{i:Int}(h:0<=i/\i<1000000000):strN [.fz (.int i)]=some (.fz (.str (Str.ofString (toString i)))):=by
 have e:Bj (A.fz (D.int i))=some i:=rfl;show((Bj (.fz (.int i))).bind fun i=>if 0<=i/\i<1000000000 then _ else none)=_;rw[e,Option.bind_some,if_pos h]
theorem SK{i:Int}(h:0<=i/\i<=4):strN [.fz (.int i)]=some (.fz (.str (dg i))):=by
 rw[SN ⟨h.1,by lia⟩];obtain⟨n,rfl⟩:=Int.eq_ofNat_of_zero_le h.1;rw[(Gq n (List.mem_range.mpr (by lia))).1];rfl
theorem Nx{i:Int}(h:0<=i/\i<=4):PQ [.fz (.str (dg i))]=some (.fz (.int i)):=by
 obtain⟨n,rfl⟩:=Int.eq_ofNat_of_zero_le h.1;have e:=(Gq n (List.mem_range.mpr (by lia))).2;have e2:intText? (dg (n:Int))=some (n:Int):=e;have c:(dg (n:Int)).length<=640:=show 1<=640 by decide
 simp only[PQ,on1,CD,fzU,Fz,Option.bind_some,if_pos c,e2,Option.map_some]
theorem UO:∀n∈List.range 5,(match Bo [(.own,.fz (.str ⟨#[48+n]⟩))] with|some (.fz (.bl true),_)=>true|_=>false)=true:=by
 have:(List.range 5).all (fun n=>match Bo [(.own,.fz (.str ⟨#[48+n]⟩))] with|some (.fz (.bl true),_)=>true|_=>false)=true:=by kernel_rfl
 exact fun n hn=>List.all_eq_true.mp this n hn
theorem Xr{i:Int}(h:0<=i/\i<=4):FV Bo [O (.str (dg i))] fun x _=>x=.fz (.bl true):=by
 obtain⟨n,rfl⟩:=Int.eq_ofNat_of_zero_le h.1;have e:=UO n (List.mem_range.mpr (by lia));split at e
 .rename_i os he
  exact⟨_,_,he,rfl⟩
 .cases e
noncomputable def wds(p:Nat×List Int):List Str:=⟨#[p.1]⟩::p.2.map dg
noncomputable def hws(h:Hs):List Str:=[Str.ofString "hands",dg h.n]
noncomputable def rws(h:Hs):List (List Str):=hws h::h.ls.map wds
noncomputable def line(ws:List Str):Str:=Txt.join (Str.ofString " ") ws
noncomputable def HT(h:Hs):Str:=Txt.join (Str.ofString "\n") ((rws h).map line)
theorem Q6:Str.ofString " " = ⟨#[32]⟩:=by decide +kernel
theorem Th:Str.ofString "\n" = ⟨#[10]⟩:=by decide +kernel
theorem Tb:(Str.ofString "hands").cps.toList=[104,97,110,100,115]:=by decide +kernel
section
variable{h:Hs}
theorem GZ(ok:h.Ok){p:Nat×List Int}(hp:p∈h.ls):∀i∈p.2,0<=i/\i<=4:=fun i hi=>by
 have:=(ok.hs p hp).2.2 i hi;have:=ok.n2;lia
theorem Tg(ok:h.Ok):0<=h.n/\h.n<=4:=by
 have:=ok.n1;have:=ok.n2;lia
noncomputable def Wd(z:Str):Prop:=32∉z.cps.toList/\10∉z.cps.toList/\z.length<=5
theorem TF(i:Int):Wd (dg i):=by
 refine⟨?_,?_,show 1<=5 by decide⟩ <;>
 .show _∉[48+i.toNat]
  simp only[List.mem_singleton];lia
theorem DU(ok:h.Ok):∀ws∈rws h,(∀w∈ws,Wd w)/\ws≠[]/\ws.length<=5:=by
 intro ws hw;rcases List.mem_cons.mp hw with rfl|hw
 .refine⟨fun w hw=>?_,by simp[hws],by simp[hws]⟩
  rcases List.mem_cons.mp hw with rfl|hw
  .exact⟨by rw[Tb]; decide,by rw[Tb]; decide,dK⟩
  .rw[List.mem_singleton.mp hw]
   exact TF _
 .obtain⟨p,hp,rfl⟩:=List.mem_map.mp hw
  refine⟨fun w hw=>?_,by simp[wds],?_⟩
  .rcases List.mem_cons.mp hw with rfl|hw
   .have:=ok.ch p hp
    refine⟨?_,?_,show 1<=5 by decide⟩ <;>
    .show _∉[p.1]
     simp only[List.mem_singleton];lia
   .obtain⟨i,_,rfl⟩:=List.mem_map.mp hw
    exact TF _
  .have:=ok.hl p hp
   simp only[wds,List.length_cons,List.length_map];lia
theorem Kd{ws:List Str}(hw:∀w∈ws,Wd w)(hl:ws.length<=5):(line ws).length<=30:=by
 have:=St.join_le (c:=32) (b:=5) (ps:=ws) fun w h=>(hw w h).2.2;rw[line,Q6];lia
theorem R0{ws:List Str}(hw:∀w∈ws,Wd w):10∉(line ws).cps.toList:=fun z=>by
 rw[line,Q6,St.Md] at z;rcases St.mem_join z with h|⟨p,hp,hx⟩
 .cases h
 .exact(hw p hp).2.1 hx
theorem Q7{ws:List Str}(hw:∀w∈ws,Wd w)(ne:ws≠[]):Txt.split (line ws) (Str.ofString " ")=ws:=by
 rw[line,Q6];exact St.L6 ne fun p hp=>(hw p hp).1
theorem VI(ok:h.Ok):Txt.split (HT h) (Str.ofString "\n")=(rws h).map line:=by
 rw[HT,Th];refine St.L6 (by simp[rws]) fun p hp=>?_;obtain⟨ws,hw,rfl⟩:=List.mem_map.mp hp;exact R0 (DU ok ws hw).1
theorem V9(ok:h.Ok):(HT h).length<=300:=by
 have l2:=ok.l2;have:=St.join_le (c:=10) (b:=30) (ps:=(rws h).map line) fun w hw=>by
  obtain⟨ws,hw2,rfl⟩:=List.mem_map.mp hw;exact Kd (DU ok ws hw2).1 (DU ok ws hw2).2.2
 rw[HT,Th];simp only[List.length_map,rws,List.length_cons] at this |-;lia
theorem IK:∀(zs:List Str),GL (B0 zs)=some zs
 | []=>rfl
 | z::zs=>by
  have:=IK zs;simp only[B0] at this;simp only[B0,List.map_cons,GL,this,Option.map_some]
theorem G1{sep:Str}{zs:List Str}(hs:sep.length<=1)(hz:∀z∈zs,z.length<=1000)(hl:zs.length<=100):GB sep [.lst ((B0 zs).map A.fz)]=some (.fz (.str (Txt.join sep zs))):=by
 have h1:=St.Q8 hz;have h2:zs.length*sep.length<=zs.length*1:=Nat.mul_le_mul_left _ hs;have c:(zs.map (·.length)).sum+zs.length*sep.length<=16777216:=by lia
 simp only[GB,on1,Co,Bp,Option.bind_some,IK,if_pos c]
theorem O7{xs ys:List Str}(hl:xs.length+ys.length<=1000):Bg [.lst ((B0 xs).map A.fz),.lst ((B0 ys).map A.fz)]=some (.lst ((B0 (xs++ys)).map A.fz)):=by
 have:=F1 (xs:=B0 xs) (ys:=B0 ys) (by simp only[B0,List.length_map]; exact hl);rw[this];simp[B0]
theorem sp1:(Str.ofString " ").length<=1:=by decide +kernel
theorem nl1:(Str.ofString "\n").length<=1:=by decide +kernel
end
local macro_rules | `(tactic| walk_at "wp1")=>`(tactic| first
 | (with_reducible refine CF ?_)|(with_reducible refine AJ ?_)|(with_reducible refine Ft ?_)|(with_reducible refine EW ?_)|(with_reducible refine DN ?_)|(with_reducible refine EX ?_)|(with_reducible refine FE ?_)|(with_reducible refine Ei ?_)|(with_reducible refine FF ?_)|(with_reducible refine FD ?_)|(with_reducible refine FC ?_)|(with_reducible refine Ed ?_)|(with_reducible refine DC ?_)
 | (with_reducible refine Ew ?_)|(with_reducible refine Ec ?_)|(with_reducible refine DB ?_)|(with_reducible refine Cj ?_)|(with_reducible refine Fc ?_)|(with_reducible refine Ho ?_)|(with_reducible refine Fg ?_)|(with_reducible refine Fd ?_)|(with_reducible refine Ff ?_)|(with_reducible refine Fh ?_)
 | (with_reducible refine GO ?_)|(with_reducible refine JK ?_)|(with_reducible refine BB ?_)|(with_reducible refine Dm ?_)
 | (with_reducible refine EY ?_)|(with_reducible refine D8 ?_)|(with_reducible refine D7 ?_)|(with_reducible refine Hu ?_)|(with_reducible refine FG ?_)
 | (with_reducible refine Dx ?_)|(with_reducible refine Ef ?_)|(with_reducible refine EI ?_)|(with_reducible refine Eh ?_)
 | ((with_reducible apply CI); · rfl)
 | ((with_reducible refine Exists.intro _ (And.intro (CU ?_) ?_)); · rfl)
 | ((with_reducible apply ex1); · rfl)|((with_reducible apply ex2); · rfl)|((with_reducible apply ex3); · rfl)|((with_reducible apply ex0); · rfl)|((with_reducible refine And.intro ?_ ?_); · rfl)|((with_reducible refine Hr ?_ ?_); · rfl)|((with_reducible refine Hq ?_ ?_); · rfl))
local macro_rules | `(tactic| walk_at "wp")=>`(tactic| repeat walk_at "wp1")
noncomputable abbrev oS(zs:List Str):Slot:=some (.own,.lst ((B0 zs).map A.fz))
section
variable{h:Hs}
theorem RI(ok:h.Ok):∃n:Nat,h.n=(n:Int)/\n∈[2,3,4]:=by
 have:=ok.n1;have:=ok.n2;have:h.n=2\/h.n=3\/h.n=4:=by lia
 rcases this with e|e|e
 .exact⟨2,e,by simp⟩
 .exact⟨3,e,by simp⟩
 .exact⟨4,e,by simp⟩
theorem PK(ls:List D):∀n∈[2,3,4],(A9 1 (lstM (Ab (Ae (opM Bg (m2L (Ag (.str (Str.ofString "hands "))) (opM strN (Ab (opM ixA (m2L (Ad 0) (Ag (.int 0)))) Aj))))) Aj))) [oF (.tup [.int ((n:Nat):Int),.lst ls]),none,none,none]=some (.next [oF (.tup [.int ((n:Nat):Int),.lst ls]),oS [line [Str.ofString "hands",dg (n:Int)]],none,none]):=by
 intro n hn;simp only[List.mem_cons,List.mem_nil_iff,or_false] at hn;rcases hn with rfl|rfl|rfl<;>kernel_rfl
theorem SO{α:Type}(xs:List Int):(iL xs).map (fun d=>match d with | .int i=>D.str (dg i)|_=>.non)=B0 (xs.map dg):=by
 simp only[iL,B0,List.map_map];exact List.map_congr_left fun i _=>rfl
theorem Mr{Z:Ro}{Q:R->Ro->Prop}{m:ME}{mi:ME}{w:Str}(xs:List Int)(hx:∀i∈xs,0<=i/\i<=4)(hl:xs.length<=4)(hw:w.length<=5)(h1:lstM (Ab (Ae m) Aj) Z=some (.val (.lst ((B0 [w]).map A.fz)),Z))(h2:∃r x,mi Z=some (r,Z)/\peek Z r=some x/\AI x=some (iL xs)/\unlock Z (lock Z (nameOf r)) (nameOf r)=Z)(q:Q (.val (.fz (.str (line (w::xs.map dg))))) Z):
  EV (Gh GB (Ag (.str (Str.ofString " "))) (m1L (opM Bg (m2L (lstM (Ab (Ae m) Aj)) (Bn (De mi) 0 Dw (opM strN (Ab (Ad 0) Aj))))))) Z Q:=by
 obtain⟨r,x,e1,e2,e3,e4⟩:=h2;refine HS (Cj ⟨_,rfl,Ew (GO (Pu h1 (Gs (iL xs) (fun d=>match d with | .int i=>D.str (dg i)|_=>.non) (Pu e1 ⟨x,e2,e3,?_,fun d hd=>?_,?_⟩))))⟩)
 .rw[Cr]; lia
 .obtain⟨i,hi,rfl⟩:=List.mem_map.mp hd
  walk_at "wp";refine⟨_,SK (hx i hi),?_⟩;walk_at "wp";rfl
 .rw[SO (α:=Unit),e4]
  refine⟨_,rfl,_,O7 (xs:=[w]) (by simp only[List.length_cons,List.length_nil,List.length_map]; lia),⟨_,rfl,_,G1 sp1 (fun z hz=>?_) ?_,q⟩⟩
  .rcases List.mem_append.mp hz with hz|hz
   .rw[List.mem_singleton.mp hz]; lia
   .obtain⟨i,_,rfl⟩:=List.mem_map.mp hz
    exact show 1<=1000 by decide
  .simp only[List.length_append,List.length_cons,List.length_nil,List.length_map]; lia
theorem Q3{j:Nat}{p:Nat×List Int}(hp:h.ls[j]? = some p):((rws h).map line).take (j+1)++[line (wds p)]=((rws h).map line).take (j+2):=by
 have e:((rws h).map line)[j+1]? = some (line (wds p)):=by
  simp only[rws,List.map_cons,List.getElem?_cons_succ,List.getElem?_map,hp,Option.map_some]
 rw[List.take_add_one (i:=j+1),e];rfl
theorem GJ(ok:h.Ok):((rws h).map line).length<=7:=by
 have:=ok.l2;simp only[rws,List.length_map,List.length_cons];lia
theorem IE(ok:h.Ok):∀z∈(rws h).map line,z.length<=1000:=fun z hz=>by
 obtain⟨ws,hw,rfl⟩:=List.mem_map.mp hz;have:=Kd (DU ok ws hw).1 (DU ok ws hw).2.2;lia
theorem KG(ok:h.Ok):FV Bz [O h.d] fun x _=>x=.fz (.str (HT h)):=by
 have hLIM:1000<=LIM:=by decide
 obtain⟨n,en,hn⟩:=RI ok;have e1:=PK (h.ls.map ld) n hn;rw[<- en] at e1;refine D1 rfl rfl ?_;show SV Cz [oF h.d,none,none,none] _;unfold Cz;refine CF (WZ e1 (AJ ?_));show SV _ [oF h.d,oS [line (hws h)],none,none] _;refine CF (KN (HZ ?_));walk_at "wp";refine⟨fun j Z=>∃x2 x3,Fr x2/\Fr x3/\Z=[oF h.d,oS (((rws h).map line).take (j+1)),x2,x3],⟨none,none,rfl,rfl,rfl⟩,fun j d Z hd hI=>?_,fun Z hI=>?_⟩
 .obtain⟨x2,x3,h2,h3,rfl⟩:=hI
  rw[List.getElem?_map,map_eq_some_iff] at hd;obtain⟨p,hp,rfl⟩:=hd;have hm:p∈h.ls:=List.mem_of_getElem? hp;have pl:=ok.hl p hm;refine⟨_,T2 h2 h3,?_⟩;show SV _ [oF h.d,oS (((rws h).map line).take (j+1)),oF (chD p.1),oF (.lst (iL p.2))] _;refine Q9 ⟨_,rfl⟩ (Mr (w:=⟨#[p.1]⟩) p.2 (GZ ok hm) pl (show 1<=5 by decide) rfl ⟨_,_,rfl,rfl,rfl,rfl⟩ ?_);refine⟨_,_,rfl,_,_,rfl,?_,KW ⟨oF (chD p.1),oF (.lst (iL p.2)),rfl,rfl,?_⟩⟩
  .rw[List.length_map,B0,List.length_map,List.length_take]
   have:=GJ ok;lia
  .rw[<- Q3 hp]
   simp[B0];rfl
 .obtain⟨x2,x3,h2,h3,rfl⟩:=hI
  have et:((rws h).map line).take ((h.ls.map ld).length+1)=(rws h).map line:=List.take_of_length_le (by simp[rws]);rw[et];refine AJ (DN (HS (Cj ⟨_,rfl,CI rfl ⟨_,rfl,_,G1 nl1 (IE ok) (by have:=GJ ok; lia),?_⟩⟩)));walk_at "wp";rfl
theorem Pw{α β:Type}{f:α -> Option β}{g:α -> β}:∀{l:List α},(∀a∈l,f a=some (g a))->l.filterMap f=l.map g
 | [],_=>rfl
 | a::l,h=>by
  rw[List.filterMap_cons,h a (by simp),List.map_cons,Pw fun b hb=>h b (by simp[hb])]
theorem SR{i:Nat}{m:ME}{Z:Ro}{Q:Fl->Prop}{xs:List D}(h0:∃p,Ee Z i=some p)(h:EV m Z fun r Z1=>r=.val (.lst (xs.map A.fz))/\∃st as,Ee Z1 i=some (st,as)/\as.length+xs.length<=LIM/\Q (.next (Z1.set i (some (st,.lst (as++xs.map A.fz)))))):SV (Li i m) Z Q:=by
 obtain⟨p,e0⟩:=h0;obtain⟨r,Z1,e1,rfl,st,as,e2,hl,q⟩:=h;exact⟨_,by simp only[Li,e0,e1,Option.bind_some,peek,Co,Bp,e2,if_pos hl],q⟩
theorem SI{w:Str}{n:Int}(hw:w.length<=5)(hn:0<=n/\n<=4):FV BE [O (.str w),(.own,.lst [.fz (.int n)])] fun x _=>x=.fz (.str (line [w,dg n])):=by
 refine D1 rfl rfl ?_;show SV BP [oF (.str w),some (.own,.lst [.fz (.int n)])] _;unfold BP;refine DN (Mr (w:=w) [n] (fun i hi=>by rw[List.mem_singleton.mp hi]; exact hn) (by simp) hw rfl ⟨_,_,rfl,rfl,rfl,rfl⟩ ?_);walk_at "wp";rfl
theorem SJ{w:Str}{xs:List Int}(hw:w.length<=5)(hx:∀i∈xs,0<=i/\i<=4)(hl:xs.length<=4):FV BE [O (.str w),O (.lst (iL xs))] fun x _=>x=.fz (.str (line (w::xs.map dg))):=by
 refine D1 rfl rfl ?_;show SV BP [oF (.str w),oF (.lst (iL xs))] _;unfold BP;refine DN (Mr (w:=w) xs hx hl hw rfl ⟨_,_,rfl,rfl,rfl,rfl⟩ ?_);walk_at "wp";rfl
theorem VD(ok:h.Ok):FV CJ [O h.d] fun x _=>x=.fz (.str (HT h)):=by
 have hLIM:1000<=LIM:=by decide
 have l2:=ok.l2;refine D1 rfl rfl ?_;show SV D0 [oF h.d,none] _;unfold D0;walk_at "wp";refine CT (GK .own h ok) ?_;walk_at "wp";refine BI (SI dK (Tg ok)) fun x _ e=>?_;subst e;walk_at "wp";show SV _ [oF h.d,oS [line (hws h)]] _;refine SR (xs:=h.ls.map fun p=>D.str (line (wds p))) ⟨_,rfl⟩ (HR (fun d=>match d with | .tup [.str z,.lst ds]=>some (.str (line (z::ds.map fun d=>match d with | .int i=>dg i|_=>z)))|_=>none) (h.ls.map fun p=>D.str (line (wds p))) (HZ ?_));walk_at "wp";refine⟨by rw[List.length_map]; lia,?_,fun d hd=>?_,?_⟩
 .rw[List.filterMap_map]
  refine Pw fun p hp=>?_;simp only[Function.comp,ld,chD,wds,iL,List.map_map];rfl
 .obtain⟨p,hp,rfl⟩:=List.mem_map.mp hd
  refine⟨[chD p.1,.lst (iL p.2)],rfl,?_⟩;walk_at "wp";refine BI (SJ (w:=⟨#[p.1]⟩) (show 1<=5 by decide) (GZ ok hp) (ok.hl p hp)) fun x _ e=>?_;subst e;walk_at "wp";simp only[ld,chD,wds,iL,List.map_map];rfl
 refine⟨rfl,_,_,rfl,by simp only[List.length_map,B0,List.length_cons,List.length_nil]; lia,?_⟩;have et:(B0 [line (hws h)]).map A.fz++(h.ls.map fun p=>D.str (line (wds p))).map A.fz=(B0 ((rws h).map line)).map A.fz:=by
  simp only[B0,rws,List.map_cons,List.map_nil,List.map_map,List.cons_append,List.nil_append];rfl
 rw[et];refine AJ ?_;show SV _ [oF h.d,oS ((rws h).map line)] _;refine DN (HS (Cj ⟨_,rfl,CI rfl ⟨_,rfl,_,G1 nl1 (IE ok) (by have:=GJ ok; lia),?_⟩⟩));walk_at "wp";rfl
end
local macro_rules | `(tactic| walk_at "wp1")=>`(tactic| first
 | (with_reducible refine CF ?_)|(with_reducible refine AJ ?_)|(with_reducible refine Ft ?_)|(with_reducible refine EW ?_)|(with_reducible refine DN ?_)|(with_reducible refine EX ?_)|(with_reducible refine FE ?_)|(with_reducible refine Ei ?_)|(with_reducible refine FF ?_)|(with_reducible refine FD ?_)|(with_reducible refine FC ?_)|(with_reducible refine Ed ?_)|(with_reducible refine DC ?_)
 | (with_reducible refine Ew ?_)|(with_reducible refine Ec ?_)|(with_reducible refine DB ?_)|(with_reducible refine Cj ?_)|(with_reducible refine Fc ?_)|(with_reducible refine Ho ?_)|(with_reducible refine Fg ?_)|(with_reducible refine Fd ?_)|(with_reducible refine Ff ?_)|(with_reducible refine Fh ?_)
 | (with_reducible refine GO ?_)|(with_reducible refine JK ?_)|(with_reducible refine BB ?_)|(with_reducible refine Dm ?_)
 | (with_reducible refine EY ?_)|(with_reducible refine D8 ?_)|(with_reducible refine D7 ?_)|(with_reducible refine Hu ?_)|(with_reducible refine FG ?_)
 | (with_reducible refine Dx ?_)|(with_reducible refine Ef ?_)|(with_reducible refine EI ?_)|(with_reducible refine Eh ?_)
 | ((with_reducible apply CI); · rfl)
 | ((with_reducible refine Exists.intro _ (And.intro (CU ?_) ?_)); · rfl)
 | ((with_reducible apply ex1); · rfl)|((with_reducible apply ex2); · rfl)|((with_reducible apply ex3); · rfl)|((with_reducible apply ex0); · rfl)|((with_reducible refine And.intro ?_ ?_); · rfl)|((with_reducible refine Hr ?_ ?_); · rfl)|((with_reducible refine Hq ?_ ?_); · rfl))
local macro_rules | `(tactic| walk_at "wp")=>`(tactic| repeat walk_at "wp1")
noncomputable def hA(h:Hs):A:=.tup [.fz (.int h.n),.lst (h.ls.map fun p=>.tup [.fz (chD p.1),.lst ((iL p.2).map A.fz)])]
theorem Ua(p:Nat×List Int):er (.tup [.fz (chD p.1),.lst ((iL p.2).map A.fz)])=some (ld p):=by
 simp only[er,ers,Gr,Option.map_some,Option.bind_some];rfl
theorem Lh:∀(ls:List (Nat×List Int)),ers (ls.map fun p=>A.tup [.fz (chD p.1),.lst ((iL p.2).map A.fz)])=some (ls.map ld)
 | []=>rfl
 | p::ls=>by
  have e:=Ua p;have:=Lh ls;rw[List.map_cons,ers,e,Option.bind_some,this,Option.map_some,List.map_cons]
theorem Pt(h:Hs):er (hA h)=some h.d:=by
 have e:=Lh h.ls;unfold hA Hs.d;rw[er,ers,er,Option.bind_some,ers,er,e,Option.map_some,Option.bind_some,ers,Option.map_some,Option.map_some];rfl
theorem Nr{ms:MA}{Z:Ro}{Q:R->Ro->Prop}(h:AV ms Z fun rs Z1=>∃as,vals rs=some as/\decide (as.length<=LIM)=true/\Q (.val (mkT as)) Z1):EV (Hg ms) Z Q:=by
 obtain⟨rs,Z1,e,as,e2,hl,q⟩:=h;exact⟨_,_,by simp only[Hg,e,e2,Option.bind_some,if_pos (of_decide_eq_true hl)],q⟩
theorem N1{z y:Str}(hy:(y.length==0)=false)(hz:z.length<=1000):OW z [.fz (.str y)]=some (.lst ((B0 (Txt.split z y)).map A.fz)):=by
 have hs:10000<=sizeLine:=by decide
 have c:(y.length==0)=false/\z.length+2<=sizeLine:=⟨hy,by lia⟩;have e:CD (A.fz (D.str y))=some y:=rfl;show((CD (.fz (.str y))).bind fun y=>if (y.length==0)=false/\z.length+2<=sizeLine then _ else none)=_;rw[e,Option.bind_some,if_pos c]
theorem sp0:((Str.ofString " ").length==0)=false:=by decide +kernel
theorem nl0:((Str.ofString "\n").length==0)=false:=by decide +kernel
theorem O8{α:Type}(xs:List α):EG [.lst ((xs.map fun _=>D.bl true).map A.fz)]=some (.fz (.bl true)):=by
 have e:Dn (xs.map fun _=>D.bl true)=some (xs.map fun _=>true):=by
  induction xs with
  | nil=>rfl
  | cons x xs ih=>simp only[List.map_cons,Dn,ih,Option.map_some]
 have e2:(xs.map fun _=>true).all id=true:=by simp
 simp only[EG,on1,Co,Bp,Option.bind_some,e,Option.map_some,e2]
theorem eq_str(z:Str):eqA [.fz (.str z),.fz (.str z)]=some (.fz (.bl true)):=by
 have e:=Dy (.str z);simp only[eqA,on2,J.er,Option.bind_some,shB,if_true,e]
theorem Qm(d:D)(ds:List D):EZ [.fz (.lst (d::ds)),.fz (.int 1)]=some (.lst (ds.map A.fz)):=by
 have e:=Mm (d::ds) 1;have e1:((1:Nat):Int)=1:=rfl;rw[e1] at e;simp only[EZ,on2,Bj,fzU,DR,Option.bind_some,Co,Option.map_some,e,List.drop_succ_cons,List.drop_zero]
theorem R1(d:D)(ds:List D):EZ [.lst ((d::ds).map A.fz),.fz (.int 1)]=some (.lst (ds.map A.fz)):=by
 have e:=Mm (d::ds) 1;have e1:((1:Nat):Int)=1:=rfl;rw[e1] at e;simp only[EZ,on2,Bj,fzU,DR,Option.bind_some,Co,Bp,Option.map_some,e,List.drop_succ_cons,List.drop_zero]
theorem Hc:FV Bq [O (.bl true)] fun x _=>x=.fz .non:=by
 refine D1 rfl rfl ?_;show SV Dp [oF (.bl true)] _;unfold Dp;walk_at "wp";rfl
theorem s_same(z:Str):FV C8 [O (.str z),O (.str z)] fun x _=>x=.fz (.bl true):=by
 refine D1 rfl rfl ?_;show SV Ek [oF (.str z),oF (.str z)] _;unfold Ek;walk_at "wp";show A.fz (.bl (eqD (.str z) (.str z)))=_;rw[Dy]
section
variable{h:Hs}
noncomputable abbrev wD(ws:List Str):D:=.lst (B0 ws)
theorem RS(w:Str)(ws:List Str):ixA [.fz (wD (w::ws)),.fz (.int 0)]=some (.fz (.str w)):=ixF (at0 _ _)
theorem VC(ok:h.Ok):FV Cq [O (.str (HT h))] fun x _=>x=.lst (((rws h).map wD).map A.fz):=by
 have hl:=V9 ok;have e1:OW (HT h) [.fz (.str (Str.ofString "\n"))]=some (.lst ((B0 ((rws h).map line)).map A.fz)):=by rw[N1 nl0 (by lia),VI ok]
 refine D1 rfl rfl ?_;show SV C6 [oF (.str (HT h))] _;unfold C6;walk_at "wp";refine BI Hc fun x _ e=>?_;subst e;walk_at "wp";refine Gs (B0 ((rws h).map line)) (fun d=>match d with | .str z=>wD (Txt.split z (Str.ofString " "))|_=>.non) (HS (CI rfl ⟨_,rfl,Cj ⟨_,rfl,_,e1,_,rfl,?_,?_,fun d hd=>?_,?_⟩⟩))
 .simp only[AI,Bp]
 .have:=GJ ok
  simp only[B0,List.length_map] at this |-;lia
 .obtain⟨z,hz,rfl⟩:=List.mem_map.mp hd
  obtain⟨ws,hw,rfl⟩:=List.mem_map.mp hz;have:=Kd (DU ok ws hw).1 (DU ok ws hw).2.2;refine HS (CI rfl ⟨_,rfl,Cj ⟨_,rfl,_,N1 sp0 (by lia),?_⟩⟩);exact⟨_,Bw _ _,rfl,rfl⟩
 .have em:(B0 ((rws h).map line)).map (fun d=>match d with | .str z=>wD (Txt.split z (Str.ofString " "))|_=>.non)=(rws h).map wD:=by
   simp only[B0,List.map_map];refine List.map_congr_left fun ws hw=>?_;show wD (Txt.split (line ws) (Str.ofString " "))=wD ws;rw[Q7 (DU ok ws hw).1 (DU ok ws hw).2.1]
  rw[em];walk_at "wp";rfl
theorem LX{w:Str}{xs:List Int}(hx:∀i∈xs,0<=i/\i<=4)(hl:xs.length<=4):FV Bc [O (.str w),O (wD (w::xs.map dg))] fun x _=>x=.fz (.bl true):=by
 refine D1 rfl rfl ?_;show SV BX [oF (.str w),oF (wD (w::xs.map dg))] _;unfold BX;walk_at "wp";refine⟨_,RS _ _,CI rfl ⟨_,rfl,_,eq_str w,?_⟩⟩;walk_at "wp";refine Gs (B0 (xs.map dg)) (fun _=>.bl true) (Ew (GO (CI rfl (Cj ⟨_,rfl,_,Qm _ _,?_⟩))));refine⟨_,rfl,by simp only[AI,Bp]; rfl,by simp only[B0,List.length_map]; lia,fun d hd=>?_,?_⟩
 .obtain⟨z,hz,rfl⟩:=List.mem_map.mp hd
  obtain⟨i,hi,rfl⟩:=List.mem_map.mp hz;walk_at "wp";refine BI (Xr (hx i hi)) fun x _ e=>?_;subst e;walk_at "wp";rfl
 walk_at "wp";refine⟨_,O8 _,?_⟩;walk_at "wp";rfl
theorem OT{w:Str}{xs:List Int}(hx:∀i∈xs,0<=i/\i<=4)(hl:xs.length<=4):FV Cc [O (wD (w::xs.map dg))] fun x _=>x=.lst ((iL xs).map A.fz):=by
 refine D1 rfl rfl ?_;show SV CN [oF (wD (w::xs.map dg))] _;unfold CN;walk_at "wp";refine Gs (B0 (xs.map dg)) (fun d=>match d with | .str z=>.int ((intText? z).getD 0)|_=>.non) (Ew (GO (CI rfl (Cj ⟨_,rfl,_,Qm _ _,?_⟩))));refine⟨_,rfl,by simp only[AI,Bp]; rfl,by simp only[B0,List.length_map]; lia,fun d hd=>?_,?_⟩
 .obtain⟨z,hz,rfl⟩:=List.mem_map.mp hd
  obtain⟨i,hi,rfl⟩:=List.mem_map.mp hz;have e:=Nx (hx i hi);have e2:intText? (dg i)=some i:=by
   obtain⟨n,rfl⟩:=Int.eq_ofNat_of_zero_le (hx i hi).1;exact(Gq n (List.mem_range.mpr (by have:=(hx _ hi).2; lia))).2
  walk_at "wp";refine⟨_,e,?_⟩;walk_at "wp";simp only[e2,Option.getD_some]
 have em:(B0 (xs.map dg)).map (fun d=>match d with | .str z=>D.int ((intText? z).getD 0)|_=>.non)=iL xs:=by
  simp only[B0,iL,List.map_map];refine List.map_congr_left fun i hi=>?_;have e2:intText? (dg i)=some i:=by
   obtain⟨n,rfl⟩:=Int.eq_ofNat_of_zero_le (hx i hi).1;exact(Gq n (List.mem_range.mpr (by have:=(hx _ hi).2; lia))).2
  show D.int ((intText? (dg i)).getD 0)=D.int i;rw[e2]; rfl
 rw[em];walk_at "wp";rfl
theorem NW(ok:h.Ok):FV AY [O h.d,O h.d] fun x _=>x=.fz (.bl true):=by
 have l2:=ok.l2;have sh:=LZ h;have er:=Dy h.d;have ne:neA [.fz h.d,.fz h.d]=some (.fz (.bl false)):=by simp only[neA,on2,J.er,Option.bind_some,sh,if_true,er,Bool.not_true]
 refine D1 rfl rfl ?_;show SV Ci [oF h.d,oF h.d] _;unfold Ci;walk_at "wp";refine⟨_,ne,?_⟩;walk_at "wp";refine Gs (h.ls.map ld) (fun _=>.bl true) ?_;walk_at "wp";refine⟨by rw[List.length_map]; lia,fun d hd=>?_,?_⟩
 .obtain⟨p,hp,rfl⟩:=List.mem_map.mp hd
  walk_at "wp";rfl
 walk_at "wp";refine⟨_,O8 _,?_⟩;walk_at "wp";rfl
end
local macro_rules | `(tactic| walk_at "wp1")=>`(tactic| first
 | (with_reducible refine CF ?_)|(with_reducible refine AJ ?_)|(with_reducible refine Ft ?_)|(with_reducible refine EW ?_)|(with_reducible refine DN ?_)|(with_reducible refine EX ?_)|(with_reducible refine FE ?_)|(with_reducible refine Ei ?_)|(with_reducible refine FF ?_)|(with_reducible refine FD ?_)|(with_reducible refine FC ?_)|(with_reducible refine Ed ?_)|(with_reducible refine DC ?_)
 | (with_reducible refine Ew ?_)|(with_reducible refine Ec ?_)|(with_reducible refine DB ?_)|(with_reducible refine Cj ?_)|(with_reducible refine Fc ?_)|(with_reducible refine Ho ?_)|(with_reducible refine Fg ?_)|(with_reducible refine Fd ?_)|(with_reducible refine Ff ?_)|(with_reducible refine Fh ?_)
 | (with_reducible refine GO ?_)|(with_reducible refine JK ?_)|(with_reducible refine BB ?_)|(with_reducible refine Dm ?_)
 | (with_reducible refine EY ?_)|(with_reducible refine D8 ?_)|(with_reducible refine D7 ?_)|(with_reducible refine Hu ?_)|(with_reducible refine FG ?_)
 | (with_reducible refine Dx ?_)|(with_reducible refine Ef ?_)|(with_reducible refine EI ?_)|(with_reducible refine Eh ?_)
 | ((with_reducible apply CI); · rfl)
 | ((with_reducible refine Exists.intro _ (And.intro (CU ?_) ?_)); · rfl)
 | ((with_reducible apply ex1); · rfl)|((with_reducible apply ex2); · rfl)|((with_reducible apply ex3); · rfl)|((with_reducible apply ex0); · rfl)|((with_reducible refine And.intro ?_ ?_); · rfl)|((with_reducible refine Hr ?_ ?_); · rfl)|((with_reducible refine Hq ?_ ?_); · rfl))
local macro_rules | `(tactic| walk_at "wp")=>`(tactic| repeat walk_at "wp1")
section
variable{h:Hs}
noncomputable abbrev rD(h:Hs):List D:=(rws h).map wD
noncomputable abbrev eR(h:Hs)(x1 x2 x3:Slot):Ro:=[oF (.str (HT h)),x1,x2,x3]
theorem J4(h:Hs):ixA [.lst ((rD h).map A.fz),.fz (.int 0)]=some (.fz (wD (hws h))):=ixL (at0 _ _)
noncomputable abbrev tD(h:Hs):List D:=(h.ls.map wds).map wD
theorem NC(h:Hs):EZ [.lst ((rD h).map A.fz),.fz (.int 1)]=some (.lst ((tD h).map A.fz)):=R1 _ _
noncomputable def T7:D->A
 | .lst (.str z::ds)=>.tup [.fz (.str z),.lst ((ds.map fun d=>match d with | .str y=>D.int ((intText? y).getD 0)|_=>.non).map A.fz)]
 | d=>.fz d
theorem Mx{i:Int}(h:0<=i/\i<=4):intText? (dg i)=some i:=by
 obtain⟨n,rfl⟩:=Int.eq_ofNat_of_zero_le h.1;exact(Gq n (List.mem_range.mpr (by have:=h.2; lia))).2
theorem Po{p:Nat×List Int}(hx:∀i∈p.2,0<=i/\i<=4):T7 (wD (wds p))=.tup [.fz (chD p.1),.lst ((iL p.2).map A.fz)]:=by
 have em:(B0 (p.2.map dg)).map (fun d=>match d with | .str z=>D.int ((intText? z).getD 0)|_=>.non)=iL p.2:=by
  simp only[B0,iL,List.map_map];refine List.map_congr_left fun i hi=>?_;show D.int ((intText? (dg i)).getD 0)=D.int i;rw[Mx (hx i hi)]; rfl
 show A.tup [.fz (chD p.1),.lst (((B0 (p.2.map dg)).map fun d=>match d with | .str y=>D.int ((intText? y).getD 0)|_=>.non).map A.fz)]=_;rw[em]
theorem RG(ok:h.Ok):(tD h).map T7=h.ls.map fun p=>.tup [.fz (chD p.1),.lst ((iL p.2).map A.fz)]:=by
 simp only[tD,List.map_map];refine List.map_congr_left fun p hp=>?_;exact Po (GZ ok hp)
theorem Q5(ok:h.Ok):FV BM [O (.str (HT h))] fun x _=>x=hA h:=by
 have l2:=ok.l2;have nd:=Tg ok;refine D1 rfl rfl ?_;show SV DZ (eR h none none none) _;unfold DZ;walk_at "wp";refine BI (VC ok) fun x _ e=>?_;subst e;refine⟨_,_,rfl,rfl,AJ ?_⟩;show SV _ (eR h (oLs (rD h)) none none) _;walk_at "wp";refine⟨_,J4 h,?_⟩;walk_at "wp";refine⟨_,J4 h,?_⟩;walk_at "wp";refine BI (LX (w:=Str.ofString "hands") (xs:=[h.n]) (fun i hi=>by rw[List.mem_singleton.mp hi]; exact nd) (by simp)) fun x _ e=>?_;subst e;walk_at "wp";refine BI Hc fun x _ e=>?_;subst e;walk_at "wp";show SV _ (eR h (oLs (rD h)) none none) _;refine KN ?_;refine HZ ?_;refine Ew ?_;refine GO ?_;refine CI rfl ?_;refine Cj ⟨_,rfl,_,NC h,?_⟩;refine⟨_,rfl,tD h,by simp only[AI,Bp],fun j Z=>∃x2,Fr x2/\Z=eR h (oLs (rD h)) x2 none,⟨none,rfl,rfl⟩,fun j d Z hd hI=>?_,fun Z hI=>?_⟩
 .obtain⟨x2,h2,rfl⟩:=hI
  obtain⟨ws,hw,rfl⟩:=List.mem_map.mp (List.mem_of_getElem? hd);obtain⟨p,hp,rfl⟩:=List.mem_map.mp hw;refine⟨_,Ml h2,?_⟩;show SV _ (eR h (oLs (rD h)) (oF (wD (wds p))) none) _;walk_at "wp";refine⟨_,RS _ _,?_⟩;walk_at "wp";refine CT (KH .own p.1 (ok.ch p hp)) ?_;walk_at "wp";refine⟨_,RS _ _,?_⟩;walk_at "wp";refine BI (LX (w:=⟨#[p.1]⟩) (GZ ok hp) (ok.hl p hp)) fun x _ e=>?_;subst e;walk_at "wp";refine BI Hc fun x _ e=>?_;subst e;walk_at "wp";exact KW ⟨_,rfl,rfl⟩
 .obtain⟨x2,h2,rfl⟩:=hI
  refine AJ ?_;show SV _ (eR h (oLs (rD h)) x2 none) _;refine CF (EW (Nr (BB ?_)));walk_at "wp";refine⟨_,J4 h,?_⟩;walk_at "wp";refine⟨_,Nx nd,?_⟩;refine BB ?_;refine Ub (tD h) T7 ?_;refine Ew ?_;refine GO ?_;refine CI rfl ?_;refine Cj ⟨_,rfl,_,NC h,?_⟩;refine⟨_,rfl,by simp only[AI,Bp],by simp only[tD,List.length_map]; lia,fun d hd=>?_,?_⟩
  .obtain⟨ws,hw,rfl⟩:=List.mem_map.mp hd
   obtain⟨p,hp,rfl⟩:=List.mem_map.mp hw;refine Nr (BB ?_);walk_at "wp";refine⟨_,RS _ _,?_⟩;walk_at "wp";refine BI (OT (w:=⟨#[p.1]⟩) (GZ ok hp) (ok.hl p hp)) fun x _ e=>?_;subst e;walk_at "wp";rw[Po (GZ ok hp)];exact⟨rfl,rfl⟩
  rw[RG ok];refine Dm ?_;refine⟨_,rfl,rfl,_,_,rfl,rfl,AJ ?_⟩;show SV _ (eR h (oLs (rD h)) x2 (some (.own,hA h))) _;refine CF (EX (HQ (BB (CI rfl (Dm ⟨[h.d],?_,?_⟩)))))
  .show(er (hA h)).bind _=_
   rw[Pt];rfl
  refine CT (GK .own h ok) ⟨rfl,AJ ?_⟩;walk_at "wp";rfl
end
local macro_rules | `(tactic| walk_at "wp1")=>`(tactic| first
 | (with_reducible refine CF ?_)|(with_reducible refine AJ ?_)|(with_reducible refine Ft ?_)|(with_reducible refine EW ?_)|(with_reducible refine DN ?_)|(with_reducible refine EX ?_)|(with_reducible refine FE ?_)|(with_reducible refine Ei ?_)|(with_reducible refine FF ?_)|(with_reducible refine FD ?_)|(with_reducible refine FC ?_)|(with_reducible refine Ed ?_)|(with_reducible refine DC ?_)
 | (with_reducible refine Ew ?_)|(with_reducible refine Ec ?_)|(with_reducible refine DB ?_)|(with_reducible refine Cj ?_)|(with_reducible refine Fc ?_)|(with_reducible refine Ho ?_)|(with_reducible refine Fg ?_)|(with_reducible refine Fd ?_)|(with_reducible refine Ff ?_)|(with_reducible refine Fh ?_)
 | (with_reducible refine GO ?_)|(with_reducible refine JK ?_)|(with_reducible refine BB ?_)|(with_reducible refine Dm ?_)
 | (with_reducible refine EY ?_)|(with_reducible refine D8 ?_)|(with_reducible refine D7 ?_)|(with_reducible refine Hu ?_)|(with_reducible refine FG ?_)
 | (with_reducible refine Dx ?_)|(with_reducible refine Ef ?_)|(with_reducible refine EI ?_)|(with_reducible refine Eh ?_)
 | ((with_reducible apply CI); · rfl)
 | ((with_reducible refine Exists.intro _ (And.intro (CU ?_) ?_)); · rfl)
 | ((with_reducible apply ex1); · rfl)|((with_reducible apply ex2); · rfl)|((with_reducible apply ex3); · rfl)|((with_reducible apply ex0); · rfl)|((with_reducible refine And.intro ?_ ?_); · rfl)|((with_reducible refine Hr ?_ ?_); · rfl)|((with_reducible refine Hq ?_ ?_); · rfl))
local macro_rules | `(tactic| walk_at "wp")=>`(tactic| repeat walk_at "wp1")
theorem Vy{Ψ:FnR}{ls:List LA}{wd:Str}{Z:Ro}{as:List (Own×A)}(h1:Qg Z ls=some as)(h2 : Ψ as=some wd):OP Ψ ls wd Z=some (.val (.fz (.bl true)),Z):=by
 simp only[OP,h1,h2,Option.bind_some,if_true]
theorem Vw{d:D}(hd:NHs d):B5 [O d]=some (Str.ofString "NoHouse"):=by
 have r1:CK [O d]=some (Str.ofString "NoHouse"):=by
  refine Px (Z:=[oF d]) rfl rfl (EI ?_);walk_at "wp";refine CT (show _=_ from(show NHs d from hd)) ?_;walk_at "wp";rfl
 exact Px (Z:=[oF d,none]) rfl rfl (Pg rfl rfl rfl r1)
noncomputable abbrev oB(as:List A):Slot:=some (.own,.lst as)
noncomputable abbrev eL(ns:List Int)(x1 x2 x3 x4 x5 x6 x7:Slot):Ro:=[some (.ro,.scr ns),x1,x2,x3,x4,x5,x6,x7]
section
variable{h:Hs}{ns:List Int}{k:Nat}{x2 x3 x4 x5 x6 x7:Slot}
theorem Rk(h2:Fr x2)(h3:Fr x3)(h4:Fr x4)(h5:Fr x5)(h6:Fr x6)(h7:Fr x7){Q:Fl->Prop}(q:∀y2 y3 y4 y5 y6 y7,Fr y2->Fr y3->Fr y4->Fr y5->Fr y6->Fr y7->Q (.next (eL ns (oF (.int (k:Int))) y2 y3 y4 y5 y6 y7))):
  SV (AA (A9 2 (Ar DE (Ab (opM Bg (m2L (Ar C7 (Ab (Ad 0) (Ab (Ad 1) Aj))) (Ad 1))) Aj))) (AA (A9 3 (Ar B4 (Ab (Ad 2) Aj))) (AA (A9 4 (Ar Bd (Ab (Ad 3) Aj))) (AA (A9 5 (Ar Bz (Ab (Ad 3) Aj))) (AA (ifS (orT (B3 (AG (Ar C8 (Ab (Ar CJ (Ab (Ad 4) Aj)) (Ab (Ad 5) Aj))))) (AG (opM neA (m2L (Ad 4) (Ad 3))))) (retS (Ag (.bl false))) Bf) (AA (A9 6 (Ar BM (Ab (Ad 5) Aj))) (AA (ifS (B3 (AG (FX AY (Ab (Ad 6) (Ab (Ad 3) Aj))))) (retS (Ag (.bl false))) Bf) (AA (Ks 6 [1,0,1] 9) (AA (Ks 6 [1] 9) (AA (ifS (B3 (AG (FX AY (Ab (Ar BM (Ab (Ad 5) Aj)) (Ab (Ad 3) Aj))))) (retS (Ag (.bl false))) Bf) (AA (A9 7 (Ar Bv (Ab (Ad 2) (Ab (Ad 3) Aj)))) (ifS (B3 (AG (OP B5 [.nm 7] "NoHouse"))) (retS (Ag (.bl false))) Bf)))))))))))) (eL ns (oF (.int (k:Int))) x2 x3 x4 x5 x6 x7) Q:=by
 have hLIM:1000<=LIM:=by decide
 obtain⟨c,c2,t1⟩:=VB ns k;obtain⟨as,q1,hb,t2⟩:=WV .own (c+k);obtain⟨h,as1,ok,hb1,t3⟩:=SH hb (by lia);obtain⟨a1,t4⟩:=KD .own h ok;obtain⟨d,as2,a2,nh,hb2,t5⟩:=M8 ok hb1 (by lia);have sh:=LZ h;have er1:=Dy h.d;have ne:neA [.fz h.d,.fz h.d]=some (.fz (.bl false)):=by simp only[neA,on2,J.er,Option.bind_some,sh,if_true,er1,Bool.not_true]
 obtain⟨p,ls,hls⟩:∃p ls,h.ls=p::ls:=by
  have:=ok.l1;cases e:h.ls with
  | nil=>rw[e] at this; exact absurd this (by decide)
  | cons p ls=>exact⟨p,ls,rfl⟩
 have pl:p.2.length<=4:=ok.hl p (by rw[hls]; simp);have l2:=ok.l2;walk_at "wp";refine CT t1 ?_;walk_at "wp";refine CT t2 ?_;refine⟨_,_,rfl,h2,AJ ?_⟩;show SV _ (eL ns (oF (.int (k:Int))) (oB as) x3 x4 x5 x6 x7) _;walk_at "wp";refine CT t3 ?_;refine⟨_,_,rfl,h3,AJ ?_⟩;show SV _ (eL ns (oF (.int (k:Int))) (oB as1) (oF h.d) x4 x5 x6 x7) _;walk_at "wp";refine CT t4 ?_;refine⟨_,_,rfl,h4,AJ ?_⟩;show SV _ (eL ns (oF (.int (k:Int))) (oB as1) (oF h.d) (oF h.d) x5 x6 x7) _;walk_at "wp";refine BI (KG ok) fun x _ e=>?_;subst e;refine⟨_,_,rfl,h5,AJ ?_⟩;show SV _ (eL ns (oF (.int (k:Int))) (oB as1) (oF h.d) (oF h.d) (oF (.str (HT h))) x6 x7) _;walk_at "wp";refine BI (VD ok) fun x _ e=>?_;subst e;walk_at "wp";refine BI (s_same _) fun x _ e=>?_;subst e;walk_at "wp";refine⟨_,ne,?_⟩;walk_at "wp";refine BI (Q5 ok) fun x _ e=>?_;subst e;refine⟨_,_,rfl,h6,AJ ?_⟩;show SV _ (eL ns (oF (.int (k:Int))) (oB as1) (oF h.d) (oF h.d) (oF (.str (HT h))) (some (.own,hA h)) x7) _;refine CF (FE (D7 (D8 (HQ (BB (CI rfl (BB (CI rfl (Dm ⟨[h.d,h.d],?_,?_⟩)))))))))
 .show(er (hA h)).bind _=_
  rw[Pt];rfl
 refine BI (NW ok) fun x _ e=>?_;subst e;refine⟨rfl,?_⟩;walk_at "wp";have g1:Ln (eL ns (oF (.int (k:Int))) (oB as1) (oF h.d) (oF h.d) (oF (.str (HT h))) (some (.own,hA h)) x7) 6 [1,0,1]=some (.own,hA h,(iL p.2).map A.fz):=by
  show(match GY [1,0,1] (hA h) with|some (.lst bs)=>some (Own.own,hA h,bs)|_=>none)=_;unfold hA;rw[hls];rfl
 refine Ra g1 (by rw[List.length_map,Cr]; lia) (AJ ?_);have eB:HB [1,0,1] (.lst ((iL p.2).map A.fz++[.fz (.int 9)])) (hA h)=.tup [.fz (.int h.n),.lst (.tup [.fz (chD p.1),.lst ((iL p.2).map A.fz++[.fz (.int 9)])]::ls.map fun p=>.tup [.fz (chD p.1),.lst ((iL p.2).map A.fz)])]:=by
  unfold hA;rw[hls];rfl
 show SV _ (eL ns (oF (.int (k:Int))) (oB as1) (oF h.d) (oF h.d) (oF (.str (HT h))) (some (.own,HB [1,0,1] (.lst ((iL p.2).map A.fz++[.fz (.int 9)])) (hA h))) x7) _;rw[eB];have l3:ls.length<=5:=by rw[hls] at l2; simpa using l2
 refine CF (Ra (st:=.own) rfl (by simp only[List.length_cons,List.length_map]; lia) (AJ ?_));generalize HB [1] (.lst (_++[.fz (.int 9)])) _=C;clear g1 eB;show SV _ (eL ns (oF (.int (k:Int))) (oB as1) (oF h.d) (oF h.d) (oF (.str (HT h))) (some (.own,C)) x7) _;refine CF (FE (D7 (D8 (HQ (BB ?_)))));walk_at "wp";refine BI (Q5 ok) fun x _ e=>?_;subst e;refine BB (CI rfl (Dm ⟨[h.d,h.d],?_,?_⟩))
 .show(er (hA h)).bind _=_
  rw[Pt];rfl
 refine BI (NW ok) fun x _ e=>?_;subst e;refine⟨rfl,?_⟩;walk_at "wp";refine CT t5 ?_;refine⟨_,_,rfl,h7,AJ ?_⟩;show SV _ (eL ns (oF (.int (k:Int))) (oB as2) (oF h.d) (oF h.d) (oF (.str (HT h))) (some (.own,C)) (oF d)) _;refine FE (D7 (D8 (Pu (Vy rfl (Vw nh)) ?_)));walk_at "wp";exact q _ _ _ _ _ _ rfl rfl rfl rfl rfl rfl
end
theorem Ql(ns:List Int)(hl:ns.length<=63):∃as',GW [(.ro,.scr ns)]=some (.fz (.bl true),as'):=by
 suffices hh:FV GW [(.ro,.scr ns)] fun a _=>a=.fz (.bl true) by
  obtain⟨a,os,e,rfl⟩:=hh;exact⟨os,e⟩
 refine D1 rfl rfl ?_;show SV JV (eL ns none none none none none none none) _;unfold JV;refine CF (KN (Mz ?_));walk_at "wp";refine⟨⟨by split<;>split<;>lia,by split<;>split<;>lia⟩,fun _ Z=>∃x1 x2 x3 x4 x5 x6 x7,Fr x1/\Fr x2/\Fr x3/\Fr x4/\Fr x5/\Fr x6/\Fr x7/\Z=eL ns x1 x2 x3 x4 x5 x6 x7,⟨none,none,none,none,none,none,none,rfl,rfl,rfl,rfl,rfl,rfl,rfl,rfl⟩,fun j d Z hd hI=>?_,fun Z hI=>?_⟩
 .obtain⟨x1,x2,x3,x4,x5,x6,x7,h1,h2,h3,h4,h5,h6,h7,rfl⟩:=hI
  obtain⟨rfl,hj⟩:=S6 hd;clear hd hj;refine⟨_,Ml h1,?_⟩;show SV _ (eL ns (oF (.int (j:Int))) x2 x3 x4 x5 x6 x7) _;exact Rk h2 h3 h4 h5 h6 h7 fun y2 y3 y4 y5 y6 y7 k2 k3 k4 k5 k6 k7=>KW ⟨_,_,_,_,_,_,_,rfl,k2,k3,k4,k5,k6,k7,rfl⟩
 obtain⟨x1,x2,x3,x4,x5,x6,x7,h1,h2,h3,h4,h5,h6,h7,rfl⟩:=hI;refine AJ ?_;walk_at "wp";rfl
end Gk61
end
section
namespace Gk61
open PySem PySem.Spec PyProof.Rows L2 J
noncomputable def Fe(K:Frag)(n:Str)(st:Stmt):Prop:=∃(f:Addr) (fd:FuncData),PySem.W.nsIn K mainGlobals n=some (some (.ref f))/\Fun K n n st f fd
theorem Wl{K:Frag}{n:Str}{st:Stmt}{f:Addr}{oc:Value}{od an:Option Addr}{sl:Array (Option Value)}{kV dc pm cd ct:Value}(a:PySem.W.nsIn K mainGlobals n=some (some (.ref f)))(l:K.lookup f=some ⟨oc,od,.func (PySem.W.fnOf n n (Ea st) (BO st) (Ao st) .none kV dc pm an cd ct),sl⟩)(c:PySem.W.codeIn K cd n=true)(k:PySem.W.keepIn K (.ref f)=true):Fe K n st:=⟨f,_,a,Uh l c k⟩
theorem df{CX:CXT}(P:Program)(w:World){K:Frag}{h:Heap}{mg:Str->Option Value}{N:Nat}{n:Str}{st:Stmt}{ps:List Str}{sp:Sp}(X:K.In h)(G:h.Ns mainGlobals mg)(e:Fe K n st)(ok:∀{f fd},Fun K n n st f fd->∀base,FnOk P w K mg base CX N f fd ps sp)(hb:∀(kV doc pm:Value) (an:Option Addr) (cdv ct:Value) (us:List Value),us.length=ps.length->bindArgs (PySem.W.fnOf n n (Ea st) (BO st) (Ao st) .none kV doc pm an cdv ct) ⟨us,[]⟩=pure (ps.zip us)):∀base,Def P w K mg base CX N n ps sp:=by
 obtain⟨f,fd,a,F⟩:=e;exact fun base=>⟨f,fd,PySem.W.mg_of X G a,F.kp,F.binds hb,ok F base⟩
theorem ar1{α:Type}{P:List α -> Prop}(h:∀a,P [a])(us:List α)(e:us.length=1):P us:=by
 obtain⟨a,rfl⟩:=UD e;exact h a
theorem ar2{α:Type}{P:List α -> Prop}(h:∀a b,P [a,b])(us:List α)(e:us.length=2):P us:=by
 obtain⟨a,b,rfl⟩:=UE e;exact h a b
noncomputable def xok(K:Frag)(C HE:Addr)(wd:Str):Bool:=
 PySem.W.nsIn K mainGlobals wd==some (some (.ref C))&&PySem.W.excIn K C Rn "ValueError.__new__" && PySem.W.nsIn K mainGlobals "HandError" == some (some (.ref HE))&&PySem.W.excIn K HE Rn "ValueError.__new__" && PySem.W.mroIn K C (.ref HE)==some true&&!(C==HE)
 && PySem.W.findIn K (.ref C) "__getattribute__" == some (some (.builtin "BaseException.__getattribute__"))&&PySem.W.findIn K (.ref C) "__getattr__" == some none&&PySem.W.findIn K (.ref C) "__class__" == some (some (.builtin "object.__class__"))&&PySem.W.mroIn K C (.type "object")==some true&&PySem.W.mroIn K C (.type "BaseException")==some true
 && (PySem.W.clsIn K C).isSome&&(K2.all fun y=>match PySem.W.nsIn K mainGlobals y with|some (some (.ref a))=>PySem.W.kitOne K (.ref C) (.ref a)==some (y==wd)|_=>false)&&PySem.W.nsIn K mainGlobals "ValueError" == some none&&PySem.W.kitOne K (.ref C) (.type "ValueError")==some true
theorem V7{K:Frag}{h:Heap}{mg:Str->Option Value}{C HE:Addr}{wd:Str}(X:K.In h)(G:h.Ns mainGlobals mg)(e:xok K C HE wd=true):Exc K mg wd C/\mg "HandError" = some (.ref HE)/\(∀base,K.In base->Above base C HE)/\XW K mg C wd:=by
 simp only[xok,Bool.and_eq_true,beq_iff_eq,Bool.not_eq_true',List.all_eq_true] at e;obtain⟨⟨⟨⟨⟨⟨⟨⟨⟨⟨⟨⟨⟨⟨e1,e2⟩,e3⟩,e4⟩,e5⟩,e6⟩,e7⟩,e8⟩,e9⟩,e10⟩,e11⟩,e12⟩,e13⟩,e14⟩,e15⟩:=e;refine⟨⟨PySem.W.mg_of X G e1,e2⟩,PySem.W.mg_of X G e3,fun base hK=>O5 hK e2 e4 e5 (by simpa using e6),⟨e7,e8,e9,e10,e11⟩,e12,fun y hy=>?_,PySem.W.mg_none_of X G e14,e15⟩;have q:=e13 y hy;split at q
 .rename_i a ha
  exact⟨a,PySem.W.mg_of X G ha,by simpa using q⟩
 .cases q
theorem all_mk{l:PySem.W.OpenLaw}{w:World}{K:Frag}{h:Heap}{mg:Str->Option Value}{fa:Addr}(X:K.In h)(G:h.Ns mainGlobals mg)(hfa:mg "law" = some (.ref fa))(e0:Fe K "is_pair" (top 20))(e1:Fe K "is_whole" (top 18))(e2:Fe K "is_count_of_hands" (top 29))(e3:Fe K "is_number_below" (top 19))(e4:Fe K "are_numbers_below" (top 22))(e5:Fe K "is_list_of_numbers_below" (top 21))(e6:Fe K "is_rising_list_below" (top 23))(e7:Fe K "is_small_letter" (top 32))(e8:Fe K "is_entry" (top 31))(e9:Fe K "are_entries" (top 30))(e10:Fe K "is_house" (top 28))(e11:Fe K "_law_bag" (top 46))(e12:Fe K "_law_take" (top 47))(e13:Fe K "_law_house" (top 48))(e14:Fe K "_law_house_copy" (top 52))(e15:Fe K "_law_house_text" (top 56))(e16:Fe K "need_written" (top 41))(e17:Fe K "rows_of_words" (top 40))(e18:Fe K "need_house" (top 33))(e19:Fe K "is_number_word" (top 38))(e20:Fe K "are_numbers_behind" (top 42))(e21:Fe K "numbers_behind" (top 43))(e22:Fe K "read_house" (top 39))(e23:Fe K "_law_no_house" (top 55))(e24:Fe K "_law_alike_house" (top 57))(e25:Fe K "_law_cell" (top 45))(e26:Fe K "_law_whole" (top 49))(e27:Fe K "_law_same" (top 50))(e28:Fe K "with_numbers" (top 37))(e29:Fe K "show_house" (top 36))(e30:Fe K "law" (top 58))(e__law_word:Fe K "_law_word" (top 51))(e__law_answer:Fe K "_law_answer" (top 53))(e__law_refuses:Fe K "_law_refuses" (top 54)){t_FEWEST_HANDS:Tok}(i_FEWEST_HANDS:PySem.W.nsIn K mainGlobals "FEWEST_HANDS" = some (some (.int 2 t_FEWEST_HANDS))){t_MOST_HANDS:Tok}(i_MOST_HANDS:PySem.W.nsIn K mainGlobals "MOST_HANDS" = some (some (.int 4 t_MOST_HANDS))){t_MOST_LETTERS:Tok}(i_MOST_LETTERS:PySem.W.nsIn K mainGlobals "MOST_LETTERS" = some (some (.int 6 t_MOST_LETTERS)))(z_isinstance:PySem.W.nsIn K mainGlobals "isinstance" = some none)(z_len:PySem.W.nsIn K mainGlobals "len" = some none)(z_all:PySem.W.nsIn K mainGlobals "all" = some none)(z_any:PySem.W.nsIn K mainGlobals "any" = some none)(z_range:PySem.W.nsIn K mainGlobals "range" = some none)(z_list:PySem.W.nsIn K mainGlobals "list" = some none)(z_int:PySem.W.nsIn K mainGlobals "int" = some none)(z_bool:PySem.W.nsIn K mainGlobals "bool" = some none)(z_tuple:PySem.W.nsIn K mainGlobals "tuple" = some none)(z_str:PySem.W.nsIn K mainGlobals "str" = some none)(z_abs:PySem.W.nsIn K mainGlobals "abs" = some none)(z_max:PySem.W.nsIn K mainGlobals "max" = some none)(z_min:PySem.W.nsIn K mainGlobals "min" = some none)(z_dict:PySem.W.nsIn K mainGlobals "dict" = some none)(z_sorted:PySem.W.nsIn K mainGlobals "sorted" = some none)(z_set:PySem.W.nsIn K mainGlobals "set" = some none)(z_enumerate:PySem.W.nsIn K mainGlobals "enumerate" = some none)(z_zip:PySem.W.nsIn K mainGlobals "zip" = some none)(z_reversed:PySem.W.nsIn K mainGlobals "reversed" = some none){c_law b_law:Addr}(ht_law:PySem.W.tabIn K "law" = some (c_law,b_law))(hh_law:PySem.W.codeHdIn K c_law b_law=true)(j_FIGURES:GS0 K "FIGURES" (Str.ofString "0123456789")){HE:Addr}{C_NoHouse:Addr}(hx_NoHouse:xok K C_NoHouse HE "NoHouse" = true): ∃fd:FuncData,(∀(s:Shared) (v:Value),BindsTo s fd ⟨[v],[]⟩ [("_law_script",v)])/\∀base:Heap,K.In base->base.Ns mainGlobals mg->FnOk l.prog w K mg base CX0 15 fa fd ["_law_script"] (spJ K GW 1):=by
 have z {n:Str} (e:PySem.W.nsIn K mainGlobals n=some none):=PySem.W.mg_none_of X G e;have B:Blt mg K:=⟨z z_isinstance,z z_len,z z_all,z z_any,z z_range,z z_list,z z_int,z z_bool,z z_tuple,z z_str,z z_abs,z z_max,z z_min,z z_dict⟩;have B2:Blt2 mg:=⟨z z_sorted,z z_set,z z_enumerate,z z_zip,z z_reversed⟩;have GX:=Wq X G j_FIGURES;have D2:GInt mg "FEWEST_HANDS" 2:=⟨⟨_,PySem.W.mg_of X G i_FEWEST_HANDS⟩⟩;have EH:GInt mg "MOST_HANDS" 4:=⟨⟨_,PySem.W.mg_of X G i_MOST_HANDS⟩⟩;have D3:GInt mg "MOST_LETTERS" 6:=⟨⟨_,PySem.W.mg_of X G i_MOST_LETTERS⟩⟩;have DV:=df l.prog w X G e0 (fun F s=>MM F B B2) fun _ _ _ _ _ _=>ar1 fun _=>rfl;have Dk:=df l.prog w X G e1 (fun F s=>LL F B B2) fun _ _ _ _ _ _=>ar1 fun _=>rfl;have Cv:=df l.prog w X G e2 (fun F s=>Fv F B B2 (Dk s) D2 EH) fun _ _ _ _ _ _=>ar1 fun _=>rfl;have C2:=df l.prog w X G e3 (fun F s=>Gd F B B2 (Dk s)) fun _ _ _ _ _ _=>ar2 fun _ _=>rfl;have Cu:=df l.prog w X G e4 (fun F s=>Fu F B B2 (C2 s)) fun _ _ _ _ _ _=>ar2 fun _ _=>rfl;have Bx:=df l.prog w X G e5 (fun F s=>DS F B B2 (Cu s)) fun _ _ _ _ _ _=>ar2 fun _ _=>rfl;have BV:=df l.prog w X G e6 (fun F s=>EA F B B2 (Bx s)) fun _ _ _ _ _ _=>ar2 fun _ _=>rfl;have Bm:=df l.prog w X G e7 (fun F s=>Ge F B B2) fun _ _ _ _ _ _=>ar1 fun _=>rfl;have F0:=df l.prog w X G e8 (fun F s=>LJ F B B2 (BV s) (DV s) (Bm s)) fun _ _ _ _ _ _=>ar2 fun _ _=>rfl;have Ej:=df l.prog w X G e9 (fun F s=>Ik F B B2 (F0 s) D3) fun _ _ _ _ _ _=>ar2 fun _ _=>rfl;have Di:=df l.prog w X G e10 (fun F s=>LK F B B2 (DV s) (Cv s) (Ej s)) fun _ _ _ _ _ _=>ar1 fun _=>rfl
 have FZ:=df l.prog w X G e11 (fun F s=>LH F B B2) fun _ _ _ _ _ _=>ar1 fun _=>rfl;have AR:=df l.prog w X G e12 (fun F s=>Km F B B2) fun _ _ _ _ _ _=>ar2 fun _ _=>rfl;have ED:=df l.prog w X G e13 (fun F s=>IY F B B2 (AR s)) fun _ _ _ _ _ _=>ar1 fun _=>rfl;have C0:=df l.prog w X G e14 (fun F s=>F9 F B B2) fun _ _ _ _ _ _=>ar1 fun _=>rfl;have C1:=df l.prog w X G e15 (fun F s=>Ga F B B2) fun _ _ _ _ _ _=>ar1 fun _=>rfl;have By:=df l.prog w X G e16 (fun F s=>Hz F B B2) fun _ _ _ _ _ _=>ar1 fun _=>rfl;have DI:=df l.prog w X G e17 (fun F s=>G6 F B B2 (By s)) fun _ _ _ _ _ _=>ar1 fun _=>rfl;have Cp:=df l.prog w X G e18 (fun F s=>Jb F B B2 (Di s)) fun _ _ _ _ _ _=>ar1 fun _=>rfl;have Dj:=df l.prog w X G e19 (fun F s=>GF F B B2 GX) fun _ _ _ _ _ _=>ar1 fun _=>rfl;have BF:=df l.prog w X G e20 (fun F s=>E2 F B B2 (Dj s)) fun _ _ _ _ _ _=>ar2 fun _ _=>rfl;have Dl:=df l.prog w X G e21 (fun F s=>GG F B B2) fun _ _ _ _ _ _=>ar1 fun _=>rfl;have DQ:=df l.prog w X G e22 (fun F s=>Jc F B B2 (DI s) (By s) (Cp s) (BF s) (Bm s) (Dl s)) fun _ _ _ _ _ _=>ar1 fun _=>rfl;have DH:=df l.prog w X G e23 (fun F s=>G5 F B B2 (AR s)) fun _ _ _ _ _ _=>ar2 fun _ _=>rfl;have BU:=df l.prog w X G e24 (fun F s=>FQ F B B2) fun _ _ _ _ _ _=>ar2 fun _ _=>rfl;have E4:=df l.prog w X G e25 (fun F s=>Kj F B B2) fun _ _ _ _ _ _=>ar2 fun _ _=>rfl;have EE:=df l.prog w X G e26 (fun F s=>Ja F B B2) fun _ _ _ _ _ _=>ar1 fun _=>rfl;have Gj:=df l.prog w X G e27 (fun _ _=>IZ) fun _ _ _ _ _ _=>ar2 fun _ _=>rfl;have E5:=df l.prog w X G e27 (fun F s=>Kl F B B2 (EE s) (Gj s)) fun _ _ _ _ _ _=>ar2 fun _ _=>rfl
 have C3:=df l.prog w X G e28 (fun F s=>HA F B B2) fun _ _ _ _ _ _=>ar2 fun _ _=>rfl;have EF:=df l.prog w X G e29 (fun F s=>Jd F B B2 (Cp s) (C3 s)) fun _ _ _ _ _ _=>ar1 fun _=>rfl;obtain⟨X_NoHouse,hHE,hab_NoHouse,W_NoHouse⟩:=V7 X G hx_NoHouse;obtain⟨fw,fdw,aw,Fw⟩:=e__law_word;obtain⟨fA,fdA,aA,FA⟩:=e__law_answer;obtain⟨fR,fdR,aR,FR⟩:=e__law_refuses;have R_NoHouse:∀base,K.In base->Rfs l.prog w K mg base 14 11 C_NoHouse "NoHouse" := fun base hK=>Q0 FR dK (PySem.W.mg_of X G aR) (Pb (j:=0) FA (PySem.W.mg_of X G aA) hHE (hab_NoHouse base hK) ⟨fw,fdw,PySem.W.mg_of X G aw,Fw.kp,Fw.binds (fun _ _ _ _ _ _=>ar1 fun _=>rfl),Se Fw B W_NoHouse dK⟩ fun a o q=>Jg q);have DR_need_house:=df (sp:=spR K (fun _=>C_NoHouse) CK 1) l.prog w X G e18 (fun F s=>Ii F B B2 (Di s) X_NoHouse) (fun _ _ _ _ _ _=>ar1 fun _=>rfl);have DR_show_house:=df (sp:=spR K (fun _=>C_NoHouse) B5 1) l.prog w X G e29 (fun F s=>Ij F B B2 (DR_need_house s)) (fun _ _ _ _ _ _=>ar1 fun _=>rfl);obtain⟨f,fd,a,F⟩:=e30;cases hfa.symm.trans (PySem.W.mg_of X G a);refine⟨fd,?_,fun s hK _=>UW (XC:=fun _=>C_NoHouse) F a ht_law hh_law B B2 (FZ s) (ED s) (C0 s) (C1 s) (DQ s) (DH s) (BU s) (E4 s) (E5 s) (EF s) (DR_show_house s) (R_NoHouse s hK)⟩;obtain⟨_,_,_,_,_,_,_,_,_,rfl,_,_⟩:=F.ex;exact fun s v=>.of_eq rfl
theorem walk{l:PySem.W.OpenLaw}{q:Program}{loose:List Str}{XP:(Str->Option Value)->Heap->Prop}{YP:World->Heap->Prop}{d:DefRec}{K:Params->Frag}(hn:l.most=some 63)(hdf:d.params.defaults=[])(hY:∀(w:World) (h:Heap),YP w h->(K w.params).In h)(F:∀(w:World) (mg:Str->Option Value) (fa:Addr) (h:Heap),(K w.params).In h->h.Ns mainGlobals mg->mg d.name=some (.ref fa) ->
   ∃fd:FuncData,(∀(s:Shared) (u:Value),BindsTo s fd ⟨[u],[]⟩ [("_law_script",u)])/\∀base:Heap,(K w.params).In base->base.Ns mainGlobals mg->FnOk l.prog w (K w.params) mg base CX0 15 fa fd ["_law_script"] (spJ (K w.params) GW 1))(hT:∀(w:World) (n qn:Str),(n,qn)∈Ie->∀(c b:Addr),PySem.W.tabIn (K w.params) n=some (c,b)->(∃d2,(recsOf q).find? (fun e=>e.name==n)=some d2)/\(K w.params).lookup b=none)(hU:∀w:World,O3 (K w.params)):
  PySem.W.WalkO q loose XP YP l.row.toRowW d [] (fun f vs=>PySem.call f vs):=
 L2.S7 (n:=63) (k:=15) (x := "_law_script") (CX:=fun _=>CX0) (sp:=fun w=>spJ (K w.params) GW 1) hn (by decide) hdf ⟨rfl,by decide,by decide⟩ hY F (fun _ H a ns hl hO hS=>let⟨_,e⟩:=Ql ns hl; UC hl hO hS e) (fun _ _ _ _ _ z=>z) hT hU
noncomputable def fo(n:Str)(i:Nat)(m:Str)(t:Tok)(c:Addr):Obj:={ cls:=.type "function",data:=.func (PySem.W.fnOf n n (Ea (top i)) (BO (top i)) (Ao (top i)) .none .none .none (.str m t) none (.ref c) .none) }
noncomputable def co(n:Str)(t:Nat)(l k:Int)(r:Nat)(x y:Value)(q:Nat)(u:Int)(v:Nat):Obj:={ cls:=.type "code",data:=.fields #[.str n t,.str n (t+1),.str "/claim/cut.py" (t+2),.int l 0,.int k 0,.int 0 0,.int 0 0,.int 3 0,.ref r,.bool true,.int 181 0,.ref (r+1),.none,x,y,.ref q,.int u 0,.int l 0,.str "/claim/cut.py" v] }
noncomputable def en(P:Params)(n:Str)(t:Tok)(v:Value):DictEntry:=⟨PyData.keyHash P n,.str n t,v⟩
noncomputable def kc(n:Str)(bs m:List Value)(ns:Addr)(sb:List Value)(b:Addr)(t u:Tok):Obj:={ cls:=.type "type",data:=.cls { name:=n,bases:=bs,mro:=m++[.type "ValueError",.type "Exception",.type "BaseException",.type "object"],ns:=ns,qualname:=n,subclasses:=sb },slots:=#[some (.ref b),none,some (.str n t),some (.str n u),some (.builtin "ValueError.__new__"),some (.bool true)] }
noncomputable def nd(es:Array DictEntry)(ep:Nat):Obj:={ cls:=.type "dict",data:=.dict es ep }
noncomputable def gE(P:Params):List DictEntry:=[en P "__name__" 165 (.str "law_handsapart_k61_houses_written" 614),
 en P "__doc__" 166 .none,
 en P "__package__" 167 .none,
 en P "__loader__" 168 (.builtin "__main__.__loader__#opaque"),
 en P "__spec__" 169 .none,
 en P "__annotations__" 170 (.ref 6),
 en P "__builtins__" 171 (.ref 4),
 en P "__file__" 173 (.str "/claim/cut.py" 172),
 en P "__cached__" 174 .none,
 en P "HandError" 206 (.ref 24),
 en P "NoHouse" 222 (.ref 37),
 en P "NoRow" 238 (.ref 49),
 en P "NoMachine" 254 (.ref 61),
 en P "NoRoom" 270 (.ref 73),
 en P "NoHand" 286 (.ref 85),
 en P "Unlike" 302 (.ref 97),
 en P "NoPast" 318 (.ref 109),
 en P "TooMany" 334 (.ref 121),
 en P "Torn" 361 (.ref 140),
 en P "NoTable" 377 (.ref 152),
 en P "NoSet" 393 (.ref 164),
 en P "Falls" 418 (.ref 183),
 en P "Whole" 434 (.ref 195),
 en P "NoText" 450 (.ref 207),
 en P "NoWord" 466 (.ref 219),
 en P "is_whole" 475 (.ref 228),
 en P "is_number_below" 483 (.ref 235),
 en P "is_pair" 490 (.ref 242),
 en P "is_list_of_numbers_below" 498 (.ref 249),
 en P "are_numbers_below" 504 (.ref 254),
 en P "is_rising_list_below" 510 (.ref 259),
 en P "FEWEST_HANDS" 514 (.int 2 513),
 en P "MOST_HANDS" 516 (.int 4 515),
 en P "MOST_LETTERS" 518 (.int 6 517),
 en P "is_house" 525 (.ref 266),
 en P "is_count_of_hands" 532 (.ref 273),
 en P "are_entries" 538 (.ref 278),
 en P "is_entry" 546 (.ref 285),
 en P "is_small_letter" 553 (.ref 292),
 en P "need_house" 560 (.ref 299),
 en P "FIGURES" 564 (.str "0123456789" 563),
 en P "show_house" 570 (.ref 304),
 en P "with_numbers" 576 (.ref 309),
 en P "is_number_word" 582 (.ref 314),
 en P "read_house" 588 (.ref 319),
 en P "rows_of_words" 594 (.ref 324),
 en P "need_written" 601 (.ref 331),
 en P "are_numbers_behind" 607 (.ref 336),
 en P "numbers_behind" 613 (.ref 341),
 en P "_law_cell" 623 (.ref 348),
 en P "_law_bag" 630 (.ref 355),
 en P "_law_take" 639 (.ref 362),
 en P "_law_house" 645 (.ref 367),
 en P "_law_whole" 652 (.ref 374),
 en P "_law_same" 658 (.ref 379),
 en P "_law_word" 664 (.ref 384),
 en P "_law_house_copy" 670 (.ref 389),
 en P "_law_answer" 678 (.ref 396),
 en P "_law_refuses" 686 (.ref 403),
 en P "_law_no_house" 692 (.ref 408),
 en P "_law_house_text" 698 (.ref 413),
 en P "_law_alike_house" 704 (.ref 418),
 en P "law" 718 (.ref 425)]
noncomputable def gD(P:Params):Obj:={ cls:=.type "dict",data:=.dict (gE P).toArray 63 }
noncomputable def Kf:Params->Frag:=fun P=>(nat_lit 3,gD P) ::
 (nat_lit 23,nd #[en P "__module__" 196 (.str "handsapart.errors" 187),en P "__firstlineno__" 200 (.int 2 199),en P "__static_attributes__" 201 (.ref 22),en P "__weakref__" 203 (.ref 25),en P "__doc__" 204 .none] 3) ::
 (nat_lit 24,kc "HandError" [.type "ValueError"] [.ref 24] 23 [.ref 37,.ref 49,.ref 61,.ref 73,.ref 85,.ref 97,.ref 109,.ref 121,.ref 140,.ref 152,.ref 164,.ref 183,.ref 195,.ref 207,.ref 219] 15 189 197) ::
 (nat_lit 36,nd #[en P "__module__" 214 (.str "handsapart.errors" 187),en P "__firstlineno__" 218 (.int 4 217),en P "__static_attributes__" 219 (.ref 35),en P "__doc__" 220 .none] 2) ::
 (nat_lit 37,kc "NoHouse" [.ref 24] [.ref 37,.ref 24] 36 [] 28 207 215) ::
 (nat_lit 49,kc "NoRow" [.ref 24] [.ref 49,.ref 24] 48 [] 40 223 231) ::
 (nat_lit 61,kc "NoMachine" [.ref 24] [.ref 61,.ref 24] 60 [] 52 239 247) ::
 (nat_lit 73,kc "NoRoom" [.ref 24] [.ref 73,.ref 24] 72 [] 64 255 263) ::
 (nat_lit 85,kc "NoHand" [.ref 24] [.ref 85,.ref 24] 84 [] 76 271 279) ::
 (nat_lit 97,kc "Unlike" [.ref 24] [.ref 97,.ref 24] 96 [] 88 287 295) ::
 (nat_lit 109,kc "NoPast" [.ref 24] [.ref 109,.ref 24] 108 [] 100 303 311) ::
 (nat_lit 121,kc "TooMany" [.ref 24] [.ref 121,.ref 24] 120 [] 112 319 327) ::
 (nat_lit 140,kc "Torn" [.ref 24] [.ref 140,.ref 24] 139 [] 124 335 343) ::
 (nat_lit 152,kc "NoTable" [.ref 24] [.ref 152,.ref 24] 151 [] 143 362 370) ::
 (nat_lit 164,kc "NoSet" [.ref 24] [.ref 164,.ref 24] 163 [] 155 378 386) ::
 (nat_lit 183,kc "Falls" [.ref 24] [.ref 183,.ref 24] 182 [] 167 394 402) ::
 (nat_lit 195,kc "Whole" [.ref 24] [.ref 195,.ref 24] 194 [] 186 419 427) ::
 (nat_lit 207,kc "NoText" [.ref 24] [.ref 207,.ref 24] 206 [] 198 435 443) ::
 (nat_lit 219,kc "NoWord" [.ref 24] [.ref 219,.ref 24] 218 [] 210 451 459) ::
 (nat_lit 227,co "is_whole" 469 40 1 222 (.ref 224) (.ref 225) 226 473 474) ::
 (nat_lit 228,fo "is_whole" 18 "handsapart.checks" 467 227) ::
 (nat_lit 234,co "is_number_below" 476 42 2 229 (.ref 231) (.ref 232) 233 481 482) ::
 (nat_lit 235,fo "is_number_below" 19 "handsapart.checks" 467 234) ::
 (nat_lit 241,co "is_pair" 484 44 1 236 (.ref 238) (.ref 239) 240 488 489) ::
 (nat_lit 242,fo "is_pair" 20 "handsapart.checks" 467 241) ::
 (nat_lit 248,co "is_list_of_numbers_below" 491 46 2 243 (.ref 245) (.ref 246) 247 496 497) ::
 (nat_lit 249,fo "is_list_of_numbers_below" 21 "handsapart.checks" 467 248) ::
 (nat_lit 253,co "are_numbers_below" 499 48 2 250 .none .none 252 502 503) ::
 (nat_lit 254,fo "are_numbers_below" 22 "handsapart.checks" 467 253) ::
 (nat_lit 258,co "is_rising_list_below" 505 50 2 255 .none .none 257 508 509) ::
 (nat_lit 259,fo "is_rising_list_below" 23 "handsapart.checks" 467 258) ::
 (nat_lit 265,co "is_house" 519 58 1 260 (.ref 262) (.ref 263) 264 523 524) ::
 (nat_lit 266,fo "is_house" 28 "handsapart.houses" 511 265) ::
 (nat_lit 272,co "is_count_of_hands" 526 62 1 267 (.ref 269) (.ref 270) 271 530 531) ::
 (nat_lit 273,fo "is_count_of_hands" 29 "handsapart.houses" 511 272) ::
 (nat_lit 277,co "are_entries" 533 64 2 274 .none .none 276 536 537) ::
 (nat_lit 278,fo "are_entries" 30 "handsapart.houses" 511 277) ::
 (nat_lit 284,co "is_entry" 539 70 2 279 (.ref 281) (.ref 282) 283 544 545) ::
 (nat_lit 285,fo "is_entry" 31 "handsapart.houses" 511 284) ::
 (nat_lit 291,co "is_small_letter" 547 74 1 286 (.ref 288) (.ref 289) 290 551 552) ::
 (nat_lit 292,fo "is_small_letter" 32 "handsapart.houses" 511 291) ::
 (nat_lit 298,co "need_house" 554 76 1 293 (.ref 295) (.ref 296) 297 558 559) ::
 (nat_lit 299,fo "need_house" 33 "handsapart.houses" 511 298) ::
 (nat_lit 303,co "show_house" 565 81 1 300 .none .none 302 568 569) ::
 (nat_lit 304,fo "show_house" 36 "handsapart.texts" 561 303) ::
 (nat_lit 308,co "with_numbers" 571 86 2 305 .none .none 307 574 575) ::
 (nat_lit 309,fo "with_numbers" 37 "handsapart.texts" 561 308) ::
 (nat_lit 313,co "is_number_word" 577 88 1 310 .none .none 312 580 581) ::
 (nat_lit 314,fo "is_number_word" 38 "handsapart.texts" 561 313) ::
 (nat_lit 318,co "read_house" 583 92 1 315 .none .none 317 586 587) ::
 (nat_lit 319,fo "read_house" 39 "handsapart.texts" 561 318) ::
 (nat_lit 323,co "rows_of_words" 589 100 1 320 .none .none 322 592 593) ::
 (nat_lit 324,fo "rows_of_words" 40 "handsapart.texts" 561 323) ::
 (nat_lit 330,co "need_written" 595 103 1 325 (.ref 327) (.ref 328) 329 599 600) ::
 (nat_lit 331,fo "need_written" 41 "handsapart.texts" 561 330) ::
 (nat_lit 335,co "are_numbers_behind" 602 106 2 332 .none .none 334 605 606) ::
 (nat_lit 336,fo "are_numbers_behind" 42 "handsapart.texts" 561 335) ::
 (nat_lit 340,co "numbers_behind" 608 108 1 337 .none .none 339 611 612) ::
 (nat_lit 341,fo "numbers_behind" 43 "handsapart.texts" 561 340) ::
 (nat_lit 347,co "_law_cell" 616 111 2 342 (.ref 344) (.ref 345) 346 621 622) ::
 (nat_lit 348,fo "_law_cell" 45 "law_handsapart_k61_houses_written" 614 347) ::
 (nat_lit 354,co "_law_bag" 624 115 1 349 (.ref 351) (.ref 352) 353 628 629) ::
 (nat_lit 355,fo "_law_bag" 46 "law_handsapart_k61_houses_written" 614 354) ::
 (nat_lit 361,co "_law_take" 631 119 2 356 (.ref 358) (.ref 359) 360 637 638) ::
 (nat_lit 362,fo "_law_take" 47 "law_handsapart_k61_houses_written" 614 361) ::
 (nat_lit 366,co "_law_house" 640 127 1 363 .none .none 365 643 644) ::
 (nat_lit 367,fo "_law_house" 48 "law_handsapart_k61_houses_written" 614 366) ::
 (nat_lit 373,co "_law_whole" 646 141 1 368 (.ref 370) (.ref 371) 372 650 651) ::
 (nat_lit 374,fo "_law_whole" 49 "law_handsapart_k61_houses_written" 614 373) ::
 (nat_lit 378,co "_law_same" 653 143 2 375 .none .none 377 656 657) ::
 (nat_lit 379,fo "_law_same" 50 "law_handsapart_k61_houses_written" 614 378) ::
 (nat_lit 383,co "_law_word" 659 153 1 380 .none .none 382 662 663) ::
 (nat_lit 384,fo "_law_word" 51 "law_handsapart_k61_houses_written" 614 383) ::
 (nat_lit 388,co "_law_house_copy" 665 164 1 385 .none .none 387 668 669) ::
 (nat_lit 389,fo "_law_house_copy" 52 "law_handsapart_k61_houses_written" 614 388) ::
 (nat_lit 395,co "_law_answer" 671 166 1 390 (.ref 392) (.ref 393) 394 676 677) ::
 (nat_lit 396,fo "_law_answer" 53 "law_handsapart_k61_houses_written" 614 395) ::
 (nat_lit 402,co "_law_refuses" 679 171 2 397 (.ref 399) (.ref 400) 401 684 685) ::
 (nat_lit 403,fo "_law_refuses" 54 "law_handsapart_k61_houses_written" 614 402) ::
 (nat_lit 407,co "_law_no_house" 687 173 2 404 .none .none 406 690 691) ::
 (nat_lit 408,fo "_law_no_house" 55 "law_handsapart_k61_houses_written" 614 407) ::
 (nat_lit 412,co "_law_house_text" 693 200 1 409 .none .none 411 696 697) ::
 (nat_lit 413,fo "_law_house_text" 56 "law_handsapart_k61_houses_written" 614 412) ::
 (nat_lit 417,co "_law_alike_house" 699 205 2 414 .none .none 416 702 703) ::
 (nat_lit 418,fo "_law_alike_house" 57 "law_handsapart_k61_houses_written" 614 417) ::
 (nat_lit 424,co "law" 705 209 1 419 (.ref 421) (.ref 422) 423 716 717) ::
 (nat_lit 425,fo "law" 58 "law_handsapart_k61_houses_written" 614 424)::[]
theorem KS(P:Params):PySem.W.tabIn (Kf P) "law" = some (nat_lit 424,nat_lit 420):=by kernel_rfl
theorem Uj(P:Params):PySem.W.codeHdIn (Kf P) (nat_lit 424) (nat_lit 420)=true:=by kernel_rfl
theorem UL(P:Params):(Kf P).lookup (nat_lit 420)=none:=by kernel_rfl
theorem Mb(P:Params):PySem.W.tabIn (Kf P) "place_of_first" = none:=by kernel_rfl
theorem TC(P:Params){n q:Str}{c b:Addr}(h:(n,q)∈Ie)(e:PySem.W.tabIn (Kf P) n=some (c,b)):q=Bt/\b=420:=by
 rcases List.mem_cons.mp h with h|h
 .cases h
  rw[KS P] at e;cases e;exact⟨rfl,rfl⟩
 .rcases List.mem_cons.mp h with h|h
  .cases h
   rw[Mb P] at e;cases e
  .cases h
theorem Xc(P:Params):O3 (Kf P):=fun n q n2 q2 c c2 b h h2 e e2=>by
 rw[(TC P h e).1,(TC P h2 e2).1]
theorem J5(P:Params):GS0 (Kf P) "FIGURES" (Str.ofString "0123456789"):=⟨dK,563,by kernel_rfl⟩
theorem K1(P:Params):xok (Kf P) (nat_lit 37) (nat_lit 24) "NoHouse" = true:=by kernel_rfl
end Gk61
namespace PySem.W.Fast
def tw12200271713195790373:=0
def tw1381823168474191393:=0
def tw13059252024148394965:=0
def tw7459669169007406147:=0
def tw17431398735238025115:=0
def tw557668280062895439:=0
def tw15858695523906728155:=0
def tw2240785249481964885:=0
def tw3346563119565413504:=0
def tw4451724979805061124:=0
def tw9591216303259140528:=0
def tw5815441067191020010:=0
def tw312976471153925210:=0
def tw634970393863623417:=0
def tw11123538095845317315:=0
def tw4457148350423069927:=0
def tw7943299449783031895:=0
def tw18128139758036986015:=0
def tw13955242772999628267:=0
def tw14467451927795118964:=0
def tw2073372949150012280:=0
def tw16233751073459857241:=0
def tw12009944448092077275:=0
def tw11035406261087665134:=0
def tw15336362591093244152:=0
def tw17516326696682997485:=0
def tw7946586619000384061:=0
def tw7243768058012477663:=0
def tw11257099676992454417:=0
def tw6386223934232571419:=0
def tw15837116108665497648:=0
def tw11025586491912644080:=0
def tw9684781772281250981:=0
def tw15353347591072035402:=0
def tw10193546343374597026:=0
def tw11021175562931541277:=0
def tw10930281659687465952:=0
def tw15439994968221535584:=0
def tw3828987649984333123:=0
def tw16502503441436840033:=0
def tw6734440515652565923:=0
def tw2935660491910366545:=0
def tw4904702661299214298:=0
def tw12400215093313878735:=0
def tw6071864111246435777:=0
def tw10595787206501330040:=0
def tw7393521043704118887:=0
def tw13828356159915888759:=0
def tw8621056481562403182:=0
def tw8189584286481378725:=0
def tw7858660005167657246:=0
def tw5503723151923403959:=0
def tw15488730223339959893:=0
def tw18282641147371316118:=0
def tw14025468318756586718:=0
def tw8900230011197403876:=0
def tw9293970780960696154:=0
def tw1339980045885649205:=0
def tw6642985687611650941:=0
def tw572039658154727840:=0
def tw3421169980097901249:=0
def tw9048381645719266099:=0
def tw14692408354795375080:=0
def tw14147549360985928069:=0
def tw15669228860707452049:=0
def tw10243432859455795228:=0
def tw9743732078495657527:=0
def tw3324939117296274528:=0
def tw824338449614437020:=0
def tw8123836836372251785:=0
def tw1868987800035448899:=0
def tw730031580965938630:=0
def tw17896850837433844131:=0
def tw5275806309143614328:=0
def tw6210255245414183550:=0
def tw3102739690177490674:=0
def tw18352992372671713129:=0
def tw12238757288833741182:=0
def tw6207936329239918881:=0
def tw72129848724622974:=0
def tw5090230688164962991:=0
def tw12124936479401061155:=0
def tw626699671083820787:=0
def tw6762966318033478482:=0
def tw6340182750024820509:=0
def tw17888440681483649406:=0
def tw16419059272189384090:=0
end PySem.W.Fast
open PySem PySem.W PyProof.Rows
set_option maxRecDepth 100000 in
set_option maxHeartbeats 0 in
theorem PySem.Challenge.cw_handsapart_k61_houses_written_holds : PySem.Challenge.rw_handsapart_k61_houses_written.Holds := by
 w_on; o_law; o_head (PySem.W.kHook Gk61.Kf (nat_lit 3 :: nat_lit 23 :: nat_lit 24 :: nat_lit 36 :: nat_lit 37 :: nat_lit 49 :: nat_lit 61 :: nat_lit 73 :: nat_lit 85 :: nat_lit 97 :: nat_lit 109 :: nat_lit 121 :: nat_lit 140 :: nat_lit 152 :: nat_lit 164 :: nat_lit 183 :: nat_lit 195 :: nat_lit 207 :: nat_lit 219 :: nat_lit 227 :: nat_lit 228 :: nat_lit 234 :: nat_lit 235 :: nat_lit 241 :: nat_lit 242 :: nat_lit 248 :: nat_lit 249 :: nat_lit 253 :: nat_lit 254 :: nat_lit 258 :: nat_lit 259 :: nat_lit 265 :: nat_lit 266 :: nat_lit 272 :: nat_lit 273 :: nat_lit 277 :: nat_lit 278 :: nat_lit 284 :: nat_lit 285 :: nat_lit 291 :: nat_lit 292 :: nat_lit 298 :: nat_lit 299 :: nat_lit 303 :: nat_lit 304 :: nat_lit 308 :: nat_lit 309 :: nat_lit 313 :: nat_lit 314 :: nat_lit 318 :: nat_lit 319 :: nat_lit 323 :: nat_lit 324 :: nat_lit 330 :: nat_lit 331 :: nat_lit 335 :: nat_lit 336 :: nat_lit 340 :: nat_lit 341 :: nat_lit 347 :: nat_lit 348 :: nat_lit 354 :: nat_lit 355 :: nat_lit 361 :: nat_lit 362 :: nat_lit 366 :: nat_lit 367 :: nat_lit 373 :: nat_lit 374 :: nat_lit 378 :: nat_lit 379 :: nat_lit 383 :: nat_lit 384 :: nat_lit 388 :: nat_lit 389 :: nat_lit 395 :: nat_lit 396 :: nat_lit 402 :: nat_lit 403 :: nat_lit 407 :: nat_lit 408 :: nat_lit 412 :: nat_lit 413 :: nat_lit 417 :: nat_lit 418 :: nat_lit 424 :: nat_lit 425 :: []) (fun _=>by kernel_rfl)); (case hw=>w_witness2)
 k_fill
 refine Gk61.walk (l:=PySem.Challenge.rw_handsapart_k61_houses_written) rfl rfl (fun w h Y=>PySem.W.kIn_of Y) ?F (fun w n qn hm c b e=>by
  rcases List.mem_cons.mp hm with hm | hm
  .cases hm
   rw [Gk61.KS w.params] at e;cases e;exact ⟨Option.isSome_iff_exists.mp (by kernel_rfl),Gk61.UL w.params⟩
  .rcases List.mem_cons.mp hm with hm | hm
   .cases hm
    rw [Gk61.Mb w.params] at e;cases e
   .cases hm) (fun w=>Gk61.Xc w.params)
 case F =>
  intro w mg fa h KX G hmg;refine' Gk61.all_mk KX G hmg ?_ ?_ ?_ ?_ ?_ ?_ ?_ ?_ ?_ ?_ ?_ ?_ ?_ ?_ ?_ ?_ ?_ ?_ ?_ ?_ ?_ ?_ ?_ ?_ ?_ ?_ ?_ ?_ ?_ ?_ ?_ ?_ ?_ ?_ ?_ ?_ ?_ ?_ ?_ ?_ ?_ ?_ ?_ ?_ ?_ ?_ ?_ ?_ ?_ ?_ ?_ ?_ ?_ ?_ ?_ ?_ (Gk61.KS w.params) (Gk61.Uj w.params) (Gk61.J5 w.params) (Gk61.K1 w.params);all_goals first | k_is | (refine' Gk61.Wl ?a ?l ?c ?k; (case a=>k_is); (case l=>k_is); (case c=>k_is); (case k=>k_is)) | skip
end
